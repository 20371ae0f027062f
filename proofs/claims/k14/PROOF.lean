import PyProof.Rows.All
import Wide.All
import OpenK.AllK
import Wide.FinOn
import HandS.ForExc
import HandS.Comp
import HandS.Iter
import HandS.Gcd
import HandS.IsInst
import HandS.ExcIs
import HandS.Flow
import HandS.Wide
import KE.KMathGC
import HandS.TupLe
import HandS.TupAny
import HandS.Dict
import HandS.Text
import HandS.Lambda
import HandS.SortInts
import HandS.Conv
import HandS.CallLocal
import HandS.Small
import HandS.FStr
import HandS.SortKw
import HandS.SetFor
import HandS.TupSets
import HandS.Strs
import HandS.Star
import HandS.Style
import HandS.TupMul
import KE.KTupSum
import PyProof.SliceList
import PyProof.DelItemList
import PyProof.RulesDelMore
import KE.SortData
import KE.DataMinMax
import HandS.Rev
import KE.SortKeyHeap
import KE.DataMinKey
import HandS.Nested
import HandS.Deep
import HandS.Zip
import PySem.Challenge.RW_speciesmill_k14_labels_left_out
import KE.SortUse
import HandS.EndTab
import KE.KNestM
set_option Elab.async false
set_option linter.all false
set_option maxRecDepth 100000
set_option maxHeartbeats 4000000
/-! values as data: a layer over the hand layer in which no heap is seen -/
namespace DL
open PySem L2
abbrev LIM : Nat := 1000000
theorem LIM_size : LIM < sizeLine := by decide
/-! ### tables of code objects -/
class Tbs where
  T : List (Addr × Str)
abbrev Tabs [Tbs] (H : Hp) : Prop := LamX.Tabs Tbs.T H
/-- all but the tables is as it was -/
structure Keep (H H' : Hp) : Prop where
  k : ∀ b o, H b = some o → (∀ ps, o ≠ .tbl ps) → H' b = some o
  l : ∀ b, H b ≠ none → H' b ≠ none
theorem Keep.refl (H : Hp) : Keep H H := ⟨fun _ _ h _ => h, fun _ h => h⟩
theorem Keep.trans {H H1 H2 : Hp} (a : Keep H H1) (b : Keep H1 H2) : Keep H H2 := ⟨fun c o h n => b.k c o (a.k c o h n) n, fun c h => b.l c (a.l c h)⟩
theorem Keep.at {H H' : Hp} (e : Keep H H') {b : Addr} {o : HO} (h : H b = some o) (n : ∀ ps, o ≠ .tbl ps := by exact fun _ z => nomatch z) : H' b = some o := e.k b o h n
theorem Keep.free {H H' : Hp} (e : Keep H H') {b : Addr} (h : H' b = none) : H b = none := by
  cases q : H b with
  | none => rfl
  | some o => exact absurd h (e.l b (by rw [q]; exact fun z => nomatch z))
theorem Keep.of {H H' : Hp} (h : ∀ b o, H b = some o → H' b = some o) : Keep H H' := ⟨fun b o e _ => h b o e, fun b n => by
  cases q : H b with
  | none => exact absurd q n
  | some o => rw [h b o q]; exact fun z => nomatch z⟩
theorem Keep.seq {K : PySem.W.Frag} {H H' : Hp} {a : Addr} {xs : List V} (e : Keep H H') (h : SqL K H a xs) : SqL K H' a xs := by
  rcases h with (h | ⟨o, h⟩) | h
  · exact .inl (.inl (e.at h))
  · exact .inl (.inr ⟨o, e.at h⟩)
  · exact .inr h
section
variable [Tbs]
structure Same (H H' : Hp) : Prop where
  k : Keep H H'
  t : Tabs H → Tabs H'
theorem Same.refl (H : Hp) : Same H H := ⟨.refl H, fun h => h⟩
theorem Same.trans {H H1 H2 : Hp} (a : Same H H1) (b : Same H1 H2) : Same H H2 := ⟨a.k.trans b.k, fun h => b.t (a.t h)⟩
theorem Same.at {H H' : Hp} (e : Same H H') {b : Addr} {o : HO} (h : H b = some o) (n : ∀ ps, o ≠ .tbl ps := by exact fun _ z => nomatch z) : H' b = some o := e.k.k b o h n
theorem Same.free {H H' : Hp} (e : Same H H') {b : Addr} (h : H' b = none) : H b = none := e.k.free h
theorem Same.seq {K : PySem.W.Frag} {H H' : Hp} {a : Addr} {xs : List V} (e : Same H H') (h : SqL K H a xs) : SqL K H' a xs := e.k.seq h
structure Kept (H H' : Hp) : Prop where
  k : Keep H H'
  t : Tabs H'
theorem Kept.trans {H H1 H2 : Hp} (a : Kept H H1) (b : Same H1 H2) : Kept H H2 := ⟨a.k.trans b.k, b.t a.t⟩
theorem Kept.at {H H' : Hp} (e : Kept H H') {b : Addr} {o : HO} (h : H b = some o) (n : ∀ ps, o ≠ .tbl ps := by exact fun _ z => nomatch z) : H' b = some o := e.k.k b o h n
theorem Kept.free {H H' : Hp} (e : Kept H H') {b : Addr} (h : H' b = none) : H b = none := e.k.free h
theorem Kept.same {H H' : Hp} (e : Kept H H') : Same H H' := ⟨e.k, fun _ => e.t⟩
theorem Keep.kept {H H1 H2 : Hp} (a : Keep H H1) (b : Kept H1 H2) : Kept H H2 := ⟨a.trans b.k, b.t⟩
/-- neither a table nor a code object -/
def NE (H : Hp) (p : Addr) : Prop := (∀ ps, H p ≠ some (.tbl ps)) ∧ ∀ c q, H p ≠ some (LamX.CodeO c q)
theorem NE.none {H : Hp} {p : Addr} (h : H p = none) : NE H p := ⟨fun _ z => (by rw [h] at z; cases z), fun _ _ z => (by rw [h] at z; cases z)⟩
theorem codeO_ne {c : Addr} {q : Str} {u : HO} (h : u = LamX.CodeO c q) : ∃ φ, u = .ext φ := ⟨_, h⟩
theorem NE.lst {H : Hp} {p : Addr} {xs : List V} (h : H p = some (.lst xs)) : NE H p := ⟨fun _ z => (by rw [h] at z; cases z), fun c q z => (by rw [h] at z; unfold LamX.CodeO at z; cases z)⟩
theorem NE.dK {H : Hp} {p : Addr} {xs : List (Key × V)} (h : H p = some (.dK xs)) : NE H p := ⟨fun _ z => (by rw [h] at z; cases z), fun c q z => (by rw [h] at z; unfold LamX.CodeO at z; cases z)⟩
theorem tabs_upd {H : Hp} {p : Addr} {o : HO} (n : NE H p) (h : Tabs H) : Tabs (upd H p o) := fun P hP => by
  obtain ⟨ps, h1, h2, h3⟩ := h P hP
  refine ⟨ps, by rw [upd_ne (fun z => n.1 ps (by rw [← z]; exact h1))]; exact h1, h2, fun pos cv e => ?_⟩
  obtain ⟨c, e1, e2⟩ := h3 pos cv e
  exact ⟨c, e1, by rw [upd_ne (fun z => n.2 c _ (by rw [← z]; exact e2))]; exact e2⟩
end
inductive D where
  | non | bl (b : Bool) | int (i : Int) | str (s : Str)
  | tup (l : List D) | lst (l : List D) | scr (l : List D) | dic (ks : List Key) (vs : List D) | ref (a : Addr) | ptp (l : List D)
instance : Inhabited D := ⟨.non⟩
mutual
inductive At (K : PySem.W.Frag) (H : Hp) : V → D → Prop
  | non : At K H .non .non
  | bl (b : Bool) : At K H (.bl b) (.bl b)
  | int (i : Int) : At K H (.int i) (.int i)
  | str (s : Str) : At K H (.str s) (.str s)
  | ref (a : Addr) : At K H (.ref a) (.ref a)
  | tup {a : Addr} {xs : List V} {l : List D} : SqT K H a xs → l.length ≤ LIM → AtAll K H xs l → At K H (.ref a) (.tup l)
  | lst {a : Addr} {xs : List V} {l : List D} : H a = some (.lst xs) → l.length ≤ LIM → AtAll K H xs l → At K H (.ref a) (.lst l)
  | scr {a : Addr} {xs : List V} {l : List D} : SqL K H a xs → l.length ≤ LIM → AtAll K H xs l → At K H (.ref a) (.scr l)
  | dic {a : Addr} {ks : List Key} {xs : List V} {l : List D} : Rd H a (.dK (ks.zip xs)) → ks.length = xs.length → ks.length ≤ LIM → AtAll K H xs l → At K H (.ref a) (.dic ks l)
  | ptp {a : Addr} {o : Obj} {xs : List V} {l : List D} : H a = some (.frz o (.tup xs)) → o.dict = none → l.length ≤ LIM → AtAll K H xs l → At K H (.ref a) (.ptp l)
inductive AtAll (K : PySem.W.Frag) (H : Hp) : List V → List D → Prop
  | nil : AtAll K H [] []
  | cons {v : V} {vs : List V} {t : D} {ts : List D} : At K H v t → AtAll K H vs ts → AtAll K H (v :: vs) (t :: ts)
end
section
variable {K : PySem.W.Frag} {H H' : Hp}
theorem sqT_mono (e : Keep H H') {a : Addr} {xs : List V} (h : SqT K H a xs) : SqT K H' a xs := by
  rcases h with (h | ⟨o, h⟩) | h
  · exact .inl (.inl (e.at h))
  · exact .inl (.inr ⟨o, e.at h⟩)
  · exact .inr h
theorem rd_mono (e : Keep H H') {a : Addr} {u : HO} (h : Rd H a u) (n : ∀ ps, u ≠ .tbl ps := by exact fun _ z => nomatch z) : Rd H' a u := by
  rcases h with h | ⟨o, h⟩
  · exact .inl (e.at h n)
  · exact .inr ⟨o, e.at h⟩
mutual
theorem At.mono (s : Keep H H') {v : V} {t : D} : At K H v t → At K H' v t
  | .non => .non
  | .bl b => .bl b
  | .int i => .int i
  | .str z => .str z
  | .ref a => .ref a
  | .tup h n r => .tup (sqT_mono s h) n (AtAll.mono s r)
  | .lst h n r => .lst (s.at h) n (AtAll.mono s r)
  | .scr h n r => .scr (s.seq h) n (AtAll.mono s r)
  | .dic h e n r => .dic (rd_mono s h) e n (AtAll.mono s r)
  | .ptp h e n r => .ptp (s.at h) e n (AtAll.mono s r)
theorem AtAll.mono (s : Keep H H') {vs : List V} {ts : List D} : AtAll K H vs ts → AtAll K H' vs ts
  | .nil => .nil
  | .cons h r => .cons (At.mono s h) (AtAll.mono s r)
end
theorem AtAll.len {vs : List V} {ts : List D} (h : AtAll K H vs ts) : vs.length = ts.length := by
  induction vs generalizing ts with
  | nil => cases h; rfl
  | cons v vs ih => cases h with
    | cons _ r => rw [List.length_cons, List.length_cons, ih r]
theorem AtAll.get {vs : List V} {ts : List D} (h : AtAll K H vs ts) {i : Nat} {v : V} (e : vs[i]? = some v) : ∃ t, ts[i]? = some t ∧ At K H v t := by
  induction vs generalizing ts i with
  | nil => simp at e
  | cons w ws ih =>
    cases h with
    | cons h1 h2 =>
      cases i with
      | zero => simp at e; subst e; exact ⟨_, rfl, h1⟩
      | succ i => exact ih h2 (by simpa using e)
theorem AtAll.get' {vs : List V} {ts : List D} (h : AtAll K H vs ts) {i : Nat} {t : D} (e : ts[i]? = some t) : ∃ v, vs[i]? = some v ∧ At K H v t := by
  have hi : i < vs.length := by rw [h.len]; exact (List.getElem?_eq_some_iff.mp e).1
  obtain ⟨t', e', a⟩ := h.get (List.getElem?_eq_getElem hi)
  rw [e] at e'
  obtain rfl := Option.some.inj e'
  exact ⟨_, List.getElem?_eq_getElem hi, a⟩
theorem AtAll.append {vs ws : List V} {ts us : List D} (h : AtAll K H vs ts) (r : AtAll K H ws us) : AtAll K H (vs ++ ws) (ts ++ us) := by
  induction vs generalizing ts with
  | nil => cases h; exact r
  | cons v vs ih => cases h with
    | cons a b => exact .cons a (ih b)
theorem AtAll.drop {vs : List V} {ts : List D} (h : AtAll K H vs ts) : ∀ n, AtAll K H (vs.drop n) (ts.drop n) := by
  induction vs generalizing ts with
  | nil => cases h; intro n; simp; exact .nil
  | cons v vs ih => cases h with
    | cons a b => intro n; cases n with
      | zero => exact .cons a b
      | succ n => exact ih b n
theorem AtAll.take {vs : List V} {ts : List D} (h : AtAll K H vs ts) : ∀ n, AtAll K H (vs.take n) (ts.take n) := by
  induction vs generalizing ts with
  | nil => cases h; intro n; simp; exact .nil
  | cons v vs ih => cases h with
    | cons a b => intro n; cases n with
      | zero => exact .nil
      | succ n => exact .cons a (ih b n)
theorem AtAll.set {vs : List V} {ts : List D} (h : AtAll K H vs ts) {v : V} {t : D} (a : At K H v t) : ∀ n, AtAll K H (vs.set n v) (ts.set n t) := by
  induction vs generalizing ts with
  | nil => cases h; intro n; exact .nil
  | cons w vs ih => cases h with
    | cons b c => intro n; cases n with
      | zero => exact .cons a c
      | succ n => exact .cons b (ih c n)
theorem AtAll.reverse {vs : List V} {ts : List D} (h : AtAll K H vs ts) : AtAll K H vs.reverse ts.reverse := by
  induction vs generalizing ts with
  | nil => cases h; exact .nil
  | cons w vs ih => cases h with
    | cons b c =>
      rw [List.reverse_cons, List.reverse_cons]
      exact (ih c).append (.cons b .nil)
theorem AtAll.of {vs : List V} {ts : List D} (hl : vs.length = ts.length) (h : ∀ (i : Nat) (v : V) (t : D), vs[i]? = some v → ts[i]? = some t → At K H v t) : AtAll K H vs ts := by
  induction vs generalizing ts with
  | nil => cases ts with
    | nil => exact .nil
    | cons t ts => simp at hl
  | cons v vs ih => cases ts with
    | nil => simp at hl
    | cons t ts => exact .cons (h 0 v t rfl rfl) (ih (by simpa using hl) fun i a b e f => h (i + 1) a b (by simpa using e) (by simpa using f))
theorem AtAll.ints (ns : List Int) : AtAll K H (ns.map V.int) (ns.map D.int) := by
  induction ns with
  | nil => exact .nil
  | cons n ns ih => exact .cons (.int n) ih
theorem AtAll.ints_of {vs : List V} {ns : List Int} (h : AtAll K H vs (ns.map D.int)) : vs = ns.map V.int := by
  induction ns generalizing vs with
  | nil => cases h; rfl
  | cons n ns ih => cases h with
    | cons a b => cases a; rw [ih b]; rfl
theorem AtAll.bls_of {vs : List V} {ns : List Bool} (h : AtAll K H vs (ns.map D.bl)) : vs = ns.map V.bl := by
  induction ns generalizing vs with
  | nil => cases h; rfl
  | cons n ns ih => cases h with
    | cons a b => cases a; rw [ih b]; rfl
theorem AtAll.strs_of {vs : List V} {ns : List Str} (h : AtAll K H vs (ns.map D.str)) : vs = ns.map V.str := by
  induction ns generalizing vs with
  | nil => cases h; rfl
  | cons n ns ih => cases h with
    | cons a b => cases a; rw [ih b]; rfl
end
/-! ### what is hidden -/
def hid (O : List Addr) (H : Hp) : Hp := fun a => if a ∈ O then none else H a
theorem hid_of {O : List Addr} {H : Hp} {a : Addr} (h : a ∉ O) : hid O H a = H a := if_neg h
theorem hid_some {O : List Addr} {H : Hp} {a : Addr} {u : HO} (h : hid O H a = some u) : a ∉ O ∧ H a = some u := by
  unfold hid at h
  by_cases m : a ∈ O
  · rw [if_pos m] at h; cases h
  · rw [if_neg m] at h; exact ⟨m, h⟩
theorem hid_none {O : List Addr} {H : Hp} {b : Addr} (h : hid O H b ≠ none) : b ∉ O ∧ H b ≠ none := by
  cases q : hid O H b with
  | none => exact absurd q h
  | some u => obtain ⟨m, e⟩ := hid_some q; exact ⟨m, by rw [e]; exact fun z => nomatch z⟩
theorem hid_keep {O O' : List Addr} {H H' : Hp} (s : Keep H H') (g : ∀ a, H a ≠ none → a ∈ O' → a ∈ O) : Keep (hid O H) (hid O' H') := by
  refine ⟨fun b x h n => ?_, fun b h => ?_⟩
  · obtain ⟨m, h⟩ := hid_some h
    rw [hid_of fun z => m (g b (by rw [h]; exact fun z => nomatch z) z)]
    exact s.k _ _ h n
  · obtain ⟨m, h⟩ := hid_none h
    rw [hid_of fun z => m (g b h z)]
    exact s.l _ h
theorem hid_sub {O O' : List Addr} {H : Hp} (s : ∀ a ∈ O', a ∈ O) : Keep (hid O H) (hid O' H) := hid_keep (.refl H) fun a _ h => s a h
theorem hid_out {O : List Addr} {H : Hp} : Keep (hid O H) H := .of fun b x h => (hid_some h).2
section
variable [Tbs]
theorem hid_same {O : List Addr} {H H' : Hp} (s : Same H H') : Keep (hid O H) (hid O H') := hid_keep s.k fun _ _ h => h
theorem hid_new {O : List Addr} {H H' : Hp} {p : Addr} (n : H p = none) (s : Same H H') : Keep (hid O H) (hid (p :: O) H') := hid_keep s.k fun a h z => by
  rcases List.mem_cons.mp z with rfl | z
  · exact absurd n h
  · exact z
end
theorem hid_upd {O : List Addr} {H : Hp} {q : Addr} {x : HO} (m : q ∈ O) : hid O (upd H q x) = hid O H := by
  funext a
  unfold hid
  by_cases h : a ∈ O
  · rw [if_pos h, if_pos h]
  · rw [if_neg h, if_neg h, upd_ne (fun z : a = q => h (by rw [z]; exact m))]
theorem keep_upd {H H' : Hp} {p : Addr} {o : HO} (e : Keep H H') (h : H p = none) : Keep H (upd H' p o) := ⟨fun b x q n => by
  rw [upd_ne (ne_of_none q h)]
  exact e.k b x q n, fun b n => by
  by_cases z : b = p
  · rw [z, upd_same]; exact fun z => nomatch z
  · rw [upd_ne z]; exact e.l b n⟩
section
variable [Tbs]
theorem same_new {H : Hp} {p : Addr} {o : HO} (h : H p = none) : Same H (upd H p o) := ⟨keep_upd (.refl H) h, tabs_upd (.none h)⟩
theorem same_new' {H H' : Hp} {p : Addr} {o : HO} (e : Same H H') (h : H p = none) (n : NE H' p) : Same H (upd H' p o) := ⟨keep_upd e.k h, fun t => tabs_upd n (e.t t)⟩
/-- an own list hidden -/
theorem tabs_hid {H : Hp} {q : Addr} (n : NE H q) (t : Tabs H) : Tabs (hid [q] H) := fun P hP => by
  obtain ⟨ps, h1, h2, h3⟩ := t P hP
  refine ⟨ps, by rw [hid_of (fun z => n.1 ps (by rw [← List.mem_singleton.mp z]; exact h1))]; exact h1, h2, fun pos cv e => ?_⟩
  obtain ⟨c, e1, e2⟩ := h3 pos cv e
  exact ⟨c, e1, by rw [hid_of (fun z => n.2 c _ (by rw [← List.mem_singleton.mp z]; exact e2))]; exact e2⟩
end
/-! ### slots -/
inductive Sl where
  | no | d (x : D) | own (l : List D) | owk (ks : List Key) (vs : List D) | ownA (p : Addr) (l : List D)
def sl : List Sl → Nat → Sl
  | [], _ => .no
  | s :: _, 0 => s
  | _ :: r, n + 1 => sl r n
theorem sl_set_same : ∀ (δ : List Sl) (i : Nat) (s : Sl), i < δ.length → sl (δ.set i s) i = s
  | [], _, _, h => by simp at h
  | _ :: _, 0, _, _ => rfl
  | _ :: r, i + 1, s, h => sl_set_same r i s (by simpa using h)
theorem sl_set_ne : ∀ (δ : List Sl) (i j : Nat) (s : Sl), i ≠ j → sl (δ.set i s) j = sl δ j
  | [], _, _, _, _ => rfl
  | _ :: _, 0, 0, _, h => absurd rfl h
  | _ :: _, 0, j + 1, _, _ => rfl
  | _ :: _, i + 1, 0, _, _ => rfl
  | _ :: r, i + 1, j + 1, s, h => sl_set_ne r i j s (by omega)
theorem sl_none : ∀ (δ : List Sl) (i : Nat), δ.length ≤ i → sl δ i = .no
  | [], _, _ => rfl
  | _ :: r, 0, h => by simp at h
  | _ :: r, i + 1, h => sl_none r i (by simpa using h)
def isOwn : Sl → Bool
  | .own _ => true
  | .ownA _ _ => true
  | .owk _ _ => true
  | _ => false
def SlOk (K : PySem.W.Frag) (Hb : Hp) (O : List Addr) (H : Hp) (o : Option (Option V)) : Sl → Prop
  | .no => True
  | .d x => ∃ v, o = some (some v) ∧ At K (hid O H) v x
  | .own l => ∃ q vs, o = some (some (.ref q)) ∧ q ∈ O ∧ Hb q = none ∧ H q = some (.lst vs) ∧ l.length ≤ LIM ∧ AtAll K (hid O H) vs l
  | .ownA q l => ∃ vs, o = some (some (.ref q)) ∧ q ∈ O ∧ Hb q = none ∧ H q = some (.lst vs) ∧ l.length ≤ LIM ∧ AtAll K (hid O H) vs l
  | .owk ks l => ∃ q vs, o = some (some (.ref q)) ∧ q ∈ O ∧ Hb q = none ∧ H q = some (.dK (ks.zip vs)) ∧ ks.length = vs.length ∧ ks.length ≤ LIM ∧ AtAll K (hid O H) vs l
structure Sta [Tbs] (K : PySem.W.Frag) (Hb : Hp) (B O : List Addr) (H : Hp) (σ : St) (δ : List Sl) : Prop where
  len : σ.length = δ.length
  kp : Keep Hb H
  tab : Tabs H
  sub : ∀ b ∈ B, b ∈ O
  liveB : ∀ b ∈ B, Hb b ≠ none
  live : ∀ b ∈ O, H b ≠ none
  fresh : ∀ q ∈ O, q ∈ B ∨ Hb q = none
  at_ : ∀ i, SlOk K Hb O H (σ[i]?) (sl δ i)
  inj : ∀ i j q, isOwn (sl δ i) = true → isOwn (sl δ j) = true → σ[i]? = some (some (.ref q)) → σ[j]? = some (some (.ref q)) → i = j
section
variable [Tbs] {K : PySem.W.Frag} {Hb H H' : Hp} {B O : List Addr} {σ : St} {δ : List Sl}
theorem Sta.same (S : Sta K Hb B O H σ δ) : Kept Hb H := ⟨S.kp, S.tab⟩
theorem live_same {a : Addr} (h : H a ≠ none) (s : Same H H') : H' a ≠ none := s.k.l a h
theorem SlOk.grow {o : Option (Option V)} {s : Sl} (h : SlOk K Hb O H o s) (e : Same H H') : SlOk K Hb O H' o s := by
  cases s with
  | no => trivial
  | d x => obtain ⟨v, h1, h2⟩ := h; exact ⟨v, h1, h2.mono (hid_same e)⟩
  | own l => obtain ⟨q, vs, h1, h2, h3, h4, h5, h6⟩ := h; exact ⟨q, vs, h1, h2, h3, e.at h4, h5, h6.mono (hid_same e)⟩
  | ownA q l => obtain ⟨vs, h1, h2, h3, h4, h5, h6⟩ := h; exact ⟨vs, h1, h2, h3, e.at h4, h5, h6.mono (hid_same e)⟩
  | owk ks l => obtain ⟨q, vs, h1, h2, h3, h4, h5, h6, h7⟩ := h; exact ⟨q, vs, h1, h2, h3, e.at h4, h5, h6, h7.mono (hid_same e)⟩
theorem Sta.grow (S : Sta K Hb B O H σ δ) (e : Same H H') : Sta K Hb B O H' σ δ :=
  ⟨S.len, S.kp.trans e.k, e.t S.tab, S.sub, S.liveB, fun b hb => live_same (S.live b hb) e, S.fresh, fun i => (S.at_ i).grow e, S.inj⟩
/-- more is hidden: a new cell -/
theorem SlOk.more {o : Option (Option V)} {s : Sl} {p : Addr} (h : SlOk K Hb O H o s) (n : H p = none) (e : Same H H') : SlOk K Hb (p :: O) H' o s := by
  cases s with
  | no => trivial
  | d x => obtain ⟨v, h1, h2⟩ := h; exact ⟨v, h1, h2.mono (hid_new n e)⟩
  | own l => obtain ⟨q, vs, h1, h2, h3, h4, h5, h6⟩ := h; exact ⟨q, vs, h1, List.mem_cons_of_mem _ h2, h3, e.at h4, h5, h6.mono (hid_new n e)⟩
  | ownA q l => obtain ⟨vs, h1, h2, h3, h4, h5, h6⟩ := h; exact ⟨vs, h1, List.mem_cons_of_mem _ h2, h3, e.at h4, h5, h6.mono (hid_new n e)⟩
  | owk ks l => obtain ⟨q, vs, h1, h2, h3, h4, h5, h6, h7⟩ := h; exact ⟨q, vs, h1, List.mem_cons_of_mem _ h2, h3, e.at h4, h5, h6, h7.mono (hid_new n e)⟩
theorem Sta.more (S : Sta K Hb B O H σ δ) {p : Addr} (n : H p = none) (e : Same H H') (l : H' p ≠ none) : Sta K Hb B (p :: O) H' σ δ :=
  ⟨S.len, S.kp.trans e.k, e.t S.tab, fun b hb => List.mem_cons_of_mem _ (S.sub b hb), S.liveB, fun b hb => by
    rcases List.mem_cons.mp hb with rfl | hb
    · exact l
    · exact live_same (S.live b hb) e, fun b hb => by
    rcases List.mem_cons.mp hb with rfl | hb
    · exact .inr (S.same.free n)
    · exact S.fresh b hb, fun i => (S.at_ i).more n e, S.inj⟩
theorem set_at {i j : Nat} {σ : St} {v : Option V} : (σ.set i v)[j]? = if i = j then (if j < σ.length then some v else none) else σ[j]? := by
  by_cases h : i = j
  · subst h
    rw [if_pos rfl]
    by_cases l : i < σ.length
    · rw [if_pos l, List.getElem?_set_self l]
    · rw [if_neg l, List.getElem?_eq_none_iff.mpr (by rw [List.length_set]; omega)]
  · rw [if_neg h, List.getElem?_set_ne h]
/-- a value stored -/
theorem Sta.set (S : Sta K Hb B O H σ δ) {i : Nat} {v : V} {x : D} (a : At K (hid O H) v x) : Sta K Hb B O H (σ.set i (some v)) (δ.set i (.d x)) := by
  refine ⟨by rw [List.length_set, List.length_set, S.len], S.kp, S.tab, S.sub, S.liveB, S.live, S.fresh, fun j => ?_, fun j k q hj hk ej ek => ?_⟩
  · by_cases h : i = j
    · subst h
      by_cases l : i < δ.length
      · rw [sl_set_same _ _ _ l, set_at, if_pos rfl, if_pos (by rw [S.len]; exact l)]
        exact ⟨v, rfl, a⟩
      · rw [sl_none _ _ (by rw [List.length_set]; omega)]
        trivial
    · rw [sl_set_ne _ _ _ _ h, set_at, if_neg h]
      exact S.at_ j
  · have nj : i ≠ j := fun z => by
      subst z
      by_cases l : i < δ.length
      · rw [sl_set_same _ _ _ l] at hj; cases hj
      · rw [sl_none _ _ (by rw [List.length_set]; omega)] at hj; cases hj
    have nk : i ≠ k := fun z => by
      subst z
      by_cases l : i < δ.length
      · rw [sl_set_same _ _ _ l] at hk; cases hk
      · rw [sl_none _ _ (by rw [List.length_set]; omega)] at hk; cases hk
    rw [sl_set_ne _ _ _ _ nj] at hj
    rw [sl_set_ne _ _ _ _ nk] at hk
    rw [set_at, if_neg nj] at ej
    rw [set_at, if_neg nk] at ek
    exact S.inj j k q hj hk ej ek
theorem Sta.unset (S : Sta K Hb B O H σ δ) {i : Nat} {o : Option V} : Sta K Hb B O H (σ.set i o) (δ.set i .no) := by
  refine ⟨by rw [List.length_set, List.length_set, S.len], S.kp, S.tab, S.sub, S.liveB, S.live, S.fresh, fun j => ?_, fun j k q hj hk ej ek => ?_⟩
  · by_cases h : i = j
    · subst h
      by_cases l : i < δ.length
      · rw [sl_set_same _ _ _ l]; trivial
      · rw [sl_none _ _ (by rw [List.length_set]; omega)]
        trivial
    · rw [sl_set_ne _ _ _ _ h, set_at, if_neg h]
      exact S.at_ j
  · have nn : ∀ j, isOwn (sl (δ.set i .no) j) = true → i ≠ j := fun j hj z => by
      subst z
      by_cases l : i < δ.length
      · rw [sl_set_same _ _ _ l] at hj; cases hj
      · rw [sl_none _ _ (by rw [List.length_set]; omega)] at hj; cases hj
    have nj := nn j hj
    have nk := nn k hk
    rw [sl_set_ne _ _ _ _ nj] at hj
    rw [sl_set_ne _ _ _ _ nk] at hk
    rw [set_at, if_neg nj] at ej
    rw [set_at, if_neg nk] at ek
    exact S.inj j k q hj hk ej ek
/-- a place that holds an own thing -/
theorem sl_len {i : Nat} (h : sl δ i ≠ .no) : i < δ.length := by
  by_cases l : i < δ.length
  · exact l
  · exact absurd (sl_none _ _ (by omega)) h
/-- an own cell made: put into a place -/
theorem Sta.own_new (S : Sta K Hb B O H σ δ) {i : Nat} {p : Addr} {s : Sl} (n : H p = none) (e : Same H H') (hs : isOwn s = true) (hp : SlOk K Hb (p :: O) H' (some (some (.ref p))) s) (l : H' p ≠ none) : Sta K Hb B (p :: O) H' (σ.set i (some (.ref p))) (δ.set i s) := by
  have S' := S.more n e l
  have np : ∀ j, isOwn (sl δ j) = true → σ[j]? ≠ some (some (.ref p)) := fun j hj z => by
    have a := S.at_ j
    cases q : sl δ j with
    | no => rw [q] at hj; cases hj
    | d x => rw [q] at hj; cases hj
    | own l =>
      rw [q] at a
      obtain ⟨w, vs, h1, h2, h3, h4, _⟩ := a
      rw [z] at h1; cases h1
      rw [n] at h4; cases h4
    | ownA w l =>
      rw [q] at a
      obtain ⟨vs, h1, h2, h3, h4, _⟩ := a
      rw [z] at h1; cases h1
      rw [n] at h4; cases h4
    | owk ks l =>
      rw [q] at a
      obtain ⟨w, vs, h1, h2, h3, h4, _⟩ := a
      rw [z] at h1; cases h1
      rw [n] at h4; cases h4
  refine ⟨by rw [List.length_set, List.length_set, S.len], S'.kp, S'.tab, S'.sub, S'.liveB, S'.live, S'.fresh, fun j => ?_, fun j k q hj hk ej ek => ?_⟩
  · by_cases h : i = j
    · subst h
      by_cases l : i < δ.length
      · rw [sl_set_same _ _ _ l, set_at, if_pos rfl, if_pos (by rw [S.len]; exact l)]
        exact hp
      · rw [sl_none _ _ (by rw [List.length_set]; omega)]
        trivial
    · rw [sl_set_ne _ _ _ _ h, set_at, if_neg h]
      exact S'.at_ j
  · by_cases h1 : i = j
    · by_cases h2 : i = k
      · exact h1.symm.trans h2
      · exfalso
        rw [sl_set_ne _ _ _ _ h2] at hk
        rw [set_at, if_neg h2] at ek
        rw [set_at, if_pos h1] at ej
        split at ej
        · cases ej; exact np k hk ek
        · cases ej
    · rw [sl_set_ne _ _ _ _ h1] at hj
      rw [set_at, if_neg h1] at ej
      by_cases h2 : i = k
      · exfalso
        rw [set_at, if_pos h2] at ek
        split at ek
        · cases ek; exact np j hj ej
        · cases ek
      · rw [sl_set_ne _ _ _ _ h2] at hk
        rw [set_at, if_neg h2] at ek
        exact S.inj j k q hj hk ej ek
/-- an own cell changed -/
theorem Sta.own_upd (S : Sta K Hb B O H σ δ) {i : Nat} {q : Addr} {x : HO} {s : Sl} (ho : isOwn (sl δ i) = true) (hq : σ[i]? = some (some (.ref q))) (m : q ∈ O) (hb : Hb q = none) (hs : SlOk K Hb O (upd H q x) (some (some (.ref q))) s) : Sta K Hb B O (upd H q x) σ (δ.set i s) := by
  have hi : i < δ.length := sl_len fun z => by rw [z] at ho; cases ho
  have ne : NE H q := by
    have a := S.at_ i
    cases e : sl δ i with
    | no => rw [e] at ho; cases ho
    | d x => rw [e] at ho; cases ho
    | own l => rw [e] at a; obtain ⟨r, vs, h1, h2, h3, h4, _⟩ := a; rw [hq] at h1; cases h1; exact .lst h4
    | ownA r l => rw [e] at a; obtain ⟨vs, h1, h2, h3, h4, _⟩ := a; rw [hq] at h1; cases h1; exact .lst h4
    | owk ks l => rw [e] at a; obtain ⟨r, vs, h1, h2, h3, h4, _⟩ := a; rw [hq] at h1; cases h1; exact .dK h4
  refine ⟨by rw [List.length_set, S.len], keep_upd S.kp hb, tabs_upd ne S.tab, S.sub, S.liveB, fun b hm => ?_, S.fresh, fun j => ?_, fun j k r hj hk ej ek => ?_⟩
  · by_cases z : b = q
    · rw [z, upd_same]; exact fun z => by cases z
    · rw [upd_ne z]; exact S.live b hm
  · by_cases h : i = j
    · subst h
      rw [sl_set_same _ _ _ hi, hq]
      exact hs
    · rw [sl_set_ne _ _ _ _ h]
      have a := S.at_ j
      cases e : sl δ j with
      | no => trivial
      | d y =>
        rw [e] at a
        obtain ⟨v, h1, h2⟩ := a
        exact ⟨v, h1, by rw [hid_upd m]; exact h2⟩
      | own l =>
        rw [e] at a
        obtain ⟨r, vs, h1, h2, h3, h4, h5, h6⟩ := a
        have nr : r ≠ q := fun z => h (S.inj i j q ho (by rw [e]; rfl) hq (by rw [h1, z]))
        exact ⟨r, vs, h1, h2, h3, by rw [upd_ne nr]; exact h4, h5, by rw [hid_upd m]; exact h6⟩
      | ownA r l =>
        rw [e] at a
        obtain ⟨vs, h1, h2, h3, h4, h5, h6⟩ := a
        have nr : r ≠ q := fun z => h (S.inj i j q ho (by rw [e]; rfl) hq (by rw [h1, z]))
        exact ⟨vs, h1, h2, h3, by rw [upd_ne nr]; exact h4, h5, by rw [hid_upd m]; exact h6⟩
      | owk ks l =>
        rw [e] at a
        obtain ⟨r, vs, h1, h2, h3, h4, h5, h6, h7⟩ := a
        have nr : r ≠ q := fun z => h (S.inj i j q ho (by rw [e]; rfl) hq (by rw [h1, z]))
        exact ⟨r, vs, h1, h2, h3, by rw [upd_ne nr]; exact h4, h5, h6, by rw [hid_upd m]; exact h7⟩
  · have f : ∀ j, isOwn (sl (δ.set i s) j) = true → isOwn (sl δ j) = true := fun j hj => by
      by_cases h : i = j
      · subst h; exact ho
      · rw [sl_set_ne _ _ _ _ h] at hj; exact hj
    exact S.inj j k r (f j hj) (f k hk) ej ek
/-- an own thing is from now on a value -/
def frzS : Sl → Sl
  | .own l => .d (.lst l)
  | .ownA _ l => .d (.lst l)
  | .owk ks vs => .d (.dic ks vs)
  | s => s
theorem Sta.freeze (S : Sta K Hb B O H σ δ) {i : Nat} (ho : isOwn (sl δ i) = true) : ∃ O', Sta K Hb B O' H σ (δ.set i (frzS (sl δ i))) := by
  have hi : i < δ.length := sl_len fun z => by rw [z] at ho; cases ho
  obtain ⟨q, hq, hm, hb⟩ : ∃ q, σ[i]? = some (some (.ref q)) ∧ q ∈ O ∧ Hb q = none := by
    have a := S.at_ i
    cases e : sl δ i with
    | no => rw [e] at ho; cases ho
    | d x => rw [e] at ho; cases ho
    | own l => rw [e] at a; obtain ⟨q, vs, h1, h2, h3, _⟩ := a; exact ⟨q, h1, h2, h3⟩
    | ownA q l => rw [e] at a; obtain ⟨vs, h1, h2, h3, _⟩ := a; exact ⟨q, h1, h2, h3⟩
    | owk ks l => rw [e] at a; obtain ⟨q, vs, h1, h2, h3, _⟩ := a; exact ⟨q, h1, h2, h3⟩
  have sb : ∀ a ∈ O.filter (· ≠ q), a ∈ O := fun a h => (List.mem_filter.mp h).1
  have hn : q ∉ O.filter (· ≠ q) := fun h => by simpa using (List.mem_filter.mp h).2
  refine ⟨O.filter (· ≠ q), by rw [List.length_set, S.len], S.kp, S.tab, fun b h => ?_, S.liveB, fun b h => S.live b (sb b h), fun b h => S.fresh b (sb b h), fun j => ?_, fun j k r hj hk ej ek => ?_⟩
  · refine List.mem_filter.mpr ⟨S.sub b h, ?_⟩
    have : b ≠ q := fun z => S.liveB b h (by rw [z]; exact hb)
    simpa using this
  · by_cases h : i = j
    · subst h
      rw [sl_set_same _ _ _ hi, hq]
      have a := S.at_ i
      cases e : sl δ i with
      | no => rw [e] at ho; cases ho
      | d x => rw [e] at ho; cases ho
      | own l =>
        rw [e] at a
        obtain ⟨r, vs, h1, h2, h3, h4, h5, h6⟩ := a
        rw [hq] at h1; cases h1
        exact ⟨_, rfl, .lst (by rw [hid_of hn]; exact h4) h5 (h6.mono (hid_sub sb))⟩
      | ownA r l =>
        rw [e] at a
        obtain ⟨vs, h1, h2, h3, h4, h5, h6⟩ := a
        rw [hq] at h1; cases h1
        exact ⟨_, rfl, .lst (by rw [hid_of hn]; exact h4) h5 (h6.mono (hid_sub sb))⟩
      | owk ks l =>
        rw [e] at a
        obtain ⟨r, vs, h1, h2, h3, h4, h5, h6, h7⟩ := a
        rw [hq] at h1; cases h1
        exact ⟨_, rfl, .dic (.inl (by rw [hid_of hn]; exact h4)) h5 h6 (h7.mono (hid_sub sb))⟩
    · rw [sl_set_ne _ _ _ _ h]
      have a := S.at_ j
      have no : ∀ r, isOwn (sl δ j) = true → σ[j]? = some (some (.ref r)) → r ∈ O → r ∈ O.filter (· ≠ q) := fun r h1 h2 h3 => by
        refine List.mem_filter.mpr ⟨h3, ?_⟩
        have : r ≠ q := fun z => h (S.inj i j q ho h1 hq (by rw [h2, z]))
        simpa using this
      cases e : sl δ j with
      | no => trivial
      | d y =>
        rw [e] at a
        obtain ⟨v, h1, h2⟩ := a
        exact ⟨v, h1, h2.mono (hid_sub sb)⟩
      | own l =>
        rw [e] at a
        obtain ⟨r, vs, h1, h2, h3, h4, h5, h6⟩ := a
        exact ⟨r, vs, h1, no r (by rw [e]; rfl) h1 h2, h3, h4, h5, h6.mono (hid_sub sb)⟩
      | ownA r l =>
        rw [e] at a
        obtain ⟨vs, h1, h2, h3, h4, h5, h6⟩ := a
        exact ⟨vs, h1, no r (by rw [e]; rfl) h1 h2, h3, h4, h5, h6.mono (hid_sub sb)⟩
      | owk ks l =>
        rw [e] at a
        obtain ⟨r, vs, h1, h2, h3, h4, h5, h6, h7⟩ := a
        exact ⟨r, vs, h1, no r (by rw [e]; rfl) h1 h2, h3, h4, h5, h6, h7.mono (hid_sub sb)⟩
  · have f : ∀ j, isOwn (sl (δ.set i (frzS (sl δ i))) j) = true → isOwn (sl δ j) = true := fun j hj => by
      by_cases h : i = j
      · subst h; exact ho
      · rw [sl_set_ne _ _ _ _ h] at hj; exact hj
    exact S.inj j k r (f j hj) (f k hk) ej ek
/-- a value as the caller sees it -/
theorem Sta.out (S : Sta K Hb B O H σ δ) {v : V} {x : D} (a : At K (hid O H) v x) : At K (hid B H) v x := a.mono (hid_sub S.sub)
/-! ### a value that may be an own thing -/
inductive OAt (K : PySem.W.Frag) (O : List Addr) (H : Hp) : V → D → Prop
  | at_ {v : V} {x : D} : At K (hid O H) v x → OAt K O H v x
  | lst {q : Addr} {vs : List V} {l : List D} : q ∈ O → H q = some (.lst vs) → l.length ≤ LIM → AtAll K (hid O H) vs l → OAt K O H (.ref q) (.lst l)
  | dic {q : Addr} {ks : List Key} {vs : List V} {l : List D} : q ∈ O → H q = some (.dK (ks.zip vs)) → ks.length = vs.length → ks.length ≤ LIM → AtAll K (hid O H) vs l → OAt K O H (.ref q) (.dic ks l)
theorem OAt.grow {v : V} {x : D} (h : OAt K O H v x) (e : Same H H') : OAt K O H' v x := by
  cases h with
  | at_ a => exact .at_ (a.mono (hid_same e))
  | lst m h n r => exact .lst m (e.at h) n (r.mono (hid_same e))
  | dic m h e' n r => exact .dic m (e.at h) e' n (r.mono (hid_same e))
theorem OAt.plain {v : V} {x : D} (h : OAt K O H v x) : At K H v x := by
  cases h with
  | at_ a => exact a.mono hid_out
  | lst m h n r => exact .lst h n (r.mono hid_out)
  | dic m h e' n r => exact .dic (.inl h) e' n (r.mono hid_out)
theorem OAt.int {v : V} {i : Int} (h : OAt K O H v (.int i)) : v = .int i := by cases h with | at_ a => cases a; rfl
theorem OAt.bl {v : V} {i : Bool} (h : OAt K O H v (.bl i)) : v = .bl i := by cases h with | at_ a => cases a; rfl
theorem OAt.str {v : V} {i : Str} (h : OAt K O H v (.str i)) : v = .str i := by cases h with | at_ a => cases a; rfl
theorem OAt.non {v : V} (h : OAt K O H v .non) : v = .non := by cases h with | at_ a => cases a; rfl
/-- a list, own or not: its items are values -/
theorem OAt.list {v : V} {l : List D} (h : OAt K O H v (.lst l)) : ∃ q vs, v = .ref q ∧ H q = some (.lst vs) ∧ l.length ≤ LIM ∧ AtAll K (hid O H) vs l := by
  cases h with
  | at_ a => cases a with
    | lst h n r => exact ⟨_, _, rfl, hid_out.at h, n, r⟩
  | lst m h n r => exact ⟨_, _, rfl, h, n, r⟩
theorem OAt.tuple {v : V} {l : List D} (h : OAt K O H v (.tup l)) : ∃ q vs, v = .ref q ∧ SqT K H q vs ∧ l.length ≤ LIM ∧ AtAll K (hid O H) vs l ∧ SqT K (hid O H) q vs := by
  cases h with
  | at_ a => cases a with
    | tup h n r => exact ⟨_, _, rfl, sqT_mono hid_out h, n, r, h⟩
theorem At.tupOf {H : Hp} {v : V} {l : List D} (h : At K H v (.ptp l)) : At K H v (.tup l) := by
  cases h with
  | ptp h _ n r => exact .tup (.inl (.inr ⟨_, h⟩)) n r
theorem OAt.tupOf {v : V} {l : List D} (h : OAt K O H v (.ptp l)) : OAt K O H v (.tup l) := by
  cases h with
  | at_ a => exact .at_ a.tupOf
theorem OAt.plainT {v : V} {l : List D} (h : OAt K O H v (.ptp l)) : ∃ q o vs, v = .ref q ∧ H q = some (.frz o (.tup vs)) ∧ o.dict = none ∧ l.length ≤ LIM ∧ AtAll K (hid O H) vs l := by
  cases h with
  | at_ a => cases a with
    | ptp h e n r => exact ⟨_, _, _, rfl, hid_out.at h, e, n, r⟩
theorem OAt.script {v : V} {l : List D} (h : OAt K O H v (.scr l)) : ∃ q vs, v = .ref q ∧ SqL K H q vs ∧ l.length ≤ LIM ∧ AtAll K (hid O H) vs l := by
  cases h with
  | at_ a => cases a with
    | scr h n r => exact ⟨_, _, rfl, hid_out.seq h, n, r⟩
theorem OAt.dict {v : V} {ks : List Key} {l : List D} (h : OAt K O H v (.dic ks l)) : ∃ q vs, v = .ref q ∧ Rd H q (.dK (ks.zip vs)) ∧ ks.length = vs.length ∧ ks.length ≤ LIM ∧ AtAll K (hid O H) vs l := by
  cases h with
  | at_ a => cases a with
    | dic h e n r => exact ⟨_, _, rfl, rd_mono hid_out h, e, n, r⟩
  | dic m h e n r => exact ⟨_, _, rfl, .inl h, e, n, r⟩
end
end DL

namespace DL
variable [Tbs]
open PySem L2
/-! ## expressions -/
abbrev DX := List Sl → (D → Prop) → Prop
abbrev DT := List Sl → (Bool → Prop) → Prop
abbrev DAs := List Sl → (List D → Prop) → Prop
section
variable (K : PySem.W.Frag)
def tP (x : DX) : TE := fun σ H Q => ∃ Hb B O δ, Sta K Hb B O H σ δ ∧ x δ fun d => ∀ v H', Same H H' → At K (hid O H') v d → Q v H'
def tQ (x : DX) : TE := fun σ H Q => ∃ Hb B O δ, Sta K Hb B O H σ δ ∧ x δ fun d => ∀ v H', Same H H' → OAt K O H' v d → Q v H'
def tF (x : DAs) : TE := fun σ H Q => ∃ Hb B O δ, Sta K Hb B O H σ δ ∧ x δ fun l => ∀ p vs H', Same H H' → H p = none → H' p = some (.lst vs) → l.length ≤ LIM → AtAll K (hid (p :: O) H') vs l → Q (.ref p) H'
def tT (x : DT) : TT := fun σ H Q => ∃ Hb B O δ, Sta K Hb B O H σ δ ∧ x δ fun b => ∀ H', Same H H' → Q b H'
end
inductive OAll (K : PySem.W.Frag) (O : List Addr) (H : Hp) : List V → List D → Prop
  | nil : OAll K O H [] []
  | cons {v : V} {vs : List V} {t : D} {ts : List D} : OAt K O H v t → OAll K O H vs ts → OAll K O H (v :: vs) (t :: ts)
theorem OAll.grow {K : PySem.W.Frag} {O : List Addr} {H H' : Hp} {vs : List V} {ts : List D} (h : OAll K O H vs ts) (e : Same H H') : OAll K O H' vs ts := by
  induction h with
  | nil => exact .nil
  | cons a _ ih => exact .cons (a.grow e) ih
def tA (K : PySem.W.Frag) (x : DAs) : TA := fun σ H Q => ∃ Hb B O δ, Sta K Hb B O H σ δ ∧ x δ fun ds => ∀ vs H', Same H H' → AtAll K (hid O H') vs ds → Q vs H'
def tB (K : PySem.W.Frag) (x : DAs) : TA := fun σ H Q => ∃ Hb B O δ, Sta K Hb B O H σ δ ∧ x δ fun ds => ∀ vs H', Same H H' → OAll K O H' vs ds → Q vs H'
def dArgs : List DX → DAs
  | [], _, Q => Q []
  | x :: xs, δ, Q => x δ fun a => dArgs xs δ fun as => Q (a :: as)
def MonoX (x : DX) : Prop := ∀ δ {Q Q' : D → Prop}, (∀ d, Q d → Q' d) → x δ Q → x δ Q'
def MonoT (x : DT) : Prop := ∀ δ {Q Q' : Bool → Prop}, (∀ d, Q d → Q' d) → x δ Q → x δ Q'
def MonoA (x : DAs) : Prop := ∀ δ {Q Q' : List D → Prop}, (∀ d, Q d → Q' d) → x δ Q → x δ Q'
structure PD (X : Cx) (K : PySem.W.Frag) (e : Expr) (x : DX) : Prop where
  mono : MonoX x
  pe : PE X e (tP K x)
structure QD (X : Cx) (K : PySem.W.Frag) (e : Expr) (x : DX) : Prop where
  mono : MonoX x
  pe : PE X e (tQ K x)
structure FD (X : Cx) (K : PySem.W.Frag) (e : Expr) (x : DAs) : Prop where
  mono : MonoA x
  pe : PE X e (tF K x)
structure TD (X : Cx) (K : PySem.W.Frag) (e : Expr) (x : DT) : Prop where
  mono : MonoT x
  pt : PT X e (tT K x)
structure WD (X : Cx) (K : PySem.W.Frag) (e : Expr) (x : DT) : Prop where
  mono : MonoT x
  pw : PW X e (tT K x)
structure AD (X : Cx) (K : PySem.W.Frag) (es : List Expr) (xs : List DX) : Prop where
  mono : MonoA (dArgs xs)
  len : ∀ δ Q, dArgs xs δ Q → dArgs xs δ fun ds => ds.length = xs.length ∧ Q ds
  pa : PA X es (tA K (dArgs xs))
structure BD (X : Cx) (K : PySem.W.Frag) (es : List Expr) (xs : List DX) : Prop where
  mono : MonoA (dArgs xs)
  pa : PA X es (tB K (dArgs xs))
section
variable {X : Cx} {K : PySem.W.Frag} {e a b c : Expr} {pos : Pos}
theorem pe_weak {t t' : TE} (h : PE X e t) (i : ∀ σ H Q, t' σ H Q → t σ H Q) : PE X e t' := ⟨fun pins s σ H Q I q => h.run pins s σ H Q I (i _ _ _ q)⟩
theorem pt_weak {t t' : TT} (h : PT X e t) (i : ∀ σ H Q, t' σ H Q → t σ H Q) : PT X e t' := ⟨fun pins s σ H Q I q => h.run pins s σ H Q I (i _ _ _ q)⟩
theorem pw_weak {t t' : TT} (h : PW X e t) (i : ∀ σ H Q, t' σ H Q → t σ H Q) : PW X e t' := ⟨fun w pins s σ H Q I q => h.run w pins s σ H Q I (i _ _ _ q)⟩
theorem pa_weak {es : List Expr} {t t' : TA} (h : PA X es t) (i : ∀ σ H Q, t' σ H Q → t σ H Q) : PA X es t' := ⟨fun p pins s σ H Q I q => h.run p pins s σ H Q I (i _ _ _ q)⟩
theorem PD.q {x : DX} (h : PD X K e x) : QD X K e x := ⟨h.mono, pe_weak h.pe fun σ H Q ⟨Hb, B, O, δ, S, q⟩ => ⟨Hb, B, O, δ, S, h.mono δ (fun d k v H' s a => k v H' s (.at_ a)) q⟩⟩
def ofF (x : DAs) : DX := fun δ Q => x δ fun l => Q (.lst l)
theorem FD.p {x : DAs} (h : FD X K e x) : PD X K e (ofF x) := ⟨fun δ Q Q' i q => h.mono δ (fun l => i _) q, pe_weak h.pe fun σ H Q ⟨Hb, B, O, δ, S, q⟩ => ⟨Hb, B, O, δ, S, h.mono δ (fun l k p vs H' s n hp hl a => k _ H' s (by
  have np : p ∉ O := fun z => S.live p z n
  exact .lst (by rw [hid_of np]; exact hp) hl (a.mono (hid_sub fun _ z => List.mem_cons_of_mem _ z)))) q⟩⟩
theorem FD.q {x : DAs} (h : FD X K e x) : QD X K e (ofF x) := h.p.q
/-- a plain tuple read as a tuple -/
def unP : D → D
  | .ptp l => .tup l
  | d => d
theorem unP_at {O : List Addr} {H : Hp} {v : V} {d : D} (h : OAt K O H v d) : OAt K O H v (unP d) := by
  cases d with
  | ptp l => exact h.tupOf
  | _ => exact h
theorem unP_at1 {H : Hp} {v : V} {d : D} (h : At K H v d) : At K H v (unP d) := by
  cases d with
  | ptp l => exact h.tupOf
  | _ => exact h
def dU (x : DX) : DX := fun δ Q => x δ fun d => Q (unP d)
theorem QD.u {x : DX} (h : QD X K e x) : QD X K e (dU x) := ⟨fun δ Q Q' i q => h.mono δ (fun d => i _) q, pe_weak h.pe fun σ H Q ⟨Hb, B, O, δ, S, q⟩ => ⟨Hb, B, O, δ, S, h.mono δ (fun d k v H' s a => k v H' s (unP_at a)) q⟩⟩
theorem PD.u {x : DX} (h : PD X K e x) : PD X K e (dU x) := ⟨fun δ Q Q' i q => h.mono δ (fun d => i _) q, pe_weak h.pe fun σ H Q ⟨Hb, B, O, δ, S, q⟩ => ⟨Hb, B, O, δ, S, h.mono δ (fun d k v H' s a => k v H' s (unP_at1 a)) q⟩⟩
/-! ### names, constants -/
def dV (i : Nat) : DX := fun δ Q => match sl δ i with
  | .d x => Q x
  | _ => False
def qV (i : Nat) : DX := fun δ Q => match sl δ i with
  | .d x => Q x
  | .own l => Q (.lst l)
  | .ownA _ l => Q (.lst l)
  | .owk ks vs => Q (.dic ks vs)
  | .no => False
def dC (d : D) : DX := fun _ Q => Q d
theorem dv (i : Nat) {x : Str} (hN : X.N[i]? = some x := by rfl) (hv : Vis X.env.scope x := by first | exact Or.inl rfl | exact Or.inr (Or.inl rfl) | exact Or.inr (Or.inr rfl)) (hd : (x == ("__debug__" : Str)) = false := by decide)
    (hcd : (x == ("__classdict__" : Str)) = false := by decide) : PD X K (.Name x pos) (dV i) := by
  refine ⟨fun δ Q Q' h q => ?_, pe_weak (pe_var hN hv hd hcd) fun σ H Q ⟨Hb, B, O, δ, S, q⟩ => ?_⟩
  · unfold dV at q ⊢
    split at q
    · exact h _ q
    · exact q
  · have a := S.at_ i
    unfold dV at q
    cases e : sl δ i with
    | d x =>
      rw [e] at a q
      obtain ⟨v, h1, h2⟩ := a
      exact ⟨v, h1, q v H (.refl H) h2⟩
    | no => rw [e] at q; exact q.elim
    | own l => rw [e] at q; exact q.elim
    | ownA p l => rw [e] at q; exact q.elim
    | owk ks l => rw [e] at q; exact q.elim
theorem qv (i : Nat) {x : Str} (hN : X.N[i]? = some x := by rfl) (hv : Vis X.env.scope x := by first | exact Or.inl rfl | exact Or.inr (Or.inl rfl) | exact Or.inr (Or.inr rfl)) (hd : (x == ("__debug__" : Str)) = false := by decide)
    (hcd : (x == ("__classdict__" : Str)) = false := by decide) : QD X K (.Name x pos) (qV i) := by
  refine ⟨fun δ Q Q' h q => ?_, pe_weak (pe_var hN hv hd hcd) fun σ H Q ⟨Hb, B, O, δ, S, q⟩ => ?_⟩
  · unfold qV at q ⊢
    split at q
    · exact h _ q
    · exact h _ q
    · exact h _ q
    · exact h _ q
    · exact q
  · have a := S.at_ i
    unfold qV at q
    cases e : sl δ i with
    | d x =>
      rw [e] at a q
      obtain ⟨v, h1, h2⟩ := a
      exact ⟨v, h1, q v H (.refl H) (.at_ h2)⟩
    | no => rw [e] at q; exact q.elim
    | own l =>
      rw [e] at a q
      obtain ⟨r, vs, h1, h2, h3, h4, h5, h6⟩ := a
      exact ⟨_, h1, q _ H (.refl H) (.lst h2 h4 h5 h6)⟩
    | ownA r l =>
      rw [e] at a q
      obtain ⟨vs, h1, h2, h3, h4, h5, h6⟩ := a
      exact ⟨_, h1, q _ H (.refl H) (.lst h2 h4 h5 h6)⟩
    | owk ks l =>
      rw [e] at a q
      obtain ⟨r, vs, h1, h2, h3, h4, h5, h6, h7⟩ := a
      exact ⟨_, h1, q _ H (.refl H) (.dic h2 h4 h5 h6 h7)⟩
theorem d_c {v : V} {d : D} (h : PE X e (tC v)) (a : ∀ H, At K H v d) : PD X K e (dC d) :=
  ⟨fun δ Q Q' i q => i _ q, pe_weak h fun σ H Q ⟨Hb, B, O, δ, S, q⟩ => q v H (.refl H) (a _)⟩
theorem d_int {i : Int} {j pos} : PD X K (.Constant (.int i) j pos) (dC (.int i)) := d_c pe_int fun _ => .int i
theorem d_bl {i : Bool} {j pos} : PD X K (.Constant (.bool i) j pos) (dC (.bl i)) := d_c pe_bl fun _ => .bl i
theorem d_str {i : Str} {j pos} : PD X K (.Constant (.str i) j pos) (dC (.str i)) := d_c pe_str fun _ => .str i
theorem d_non {j pos} : PD X K (.Constant .none j pos) (dC .non) := d_c pe_non fun _ => .non
theorem d_glob {x : Str} {v : V} {u : Value} {d : D} (hm : X.mg x = some u) (r : RelV v u) (a : ∀ H, At K H v d) (hg : Gl X x := by rfl) (hd : (x == ("__debug__" : Str)) = false := by decide) : PD X K (.Name x pos) (dC d) := d_c (pe_glob hg hm r hd) a
/-! ### arguments -/
theorem monoArgs : ∀ {xs : List DX}, (∀ x ∈ xs, MonoX x) → MonoA (dArgs xs)
  | [], _ => fun δ Q Q' i q => i _ q
  | x :: xs, h => fun δ Q Q' i q => h x List.mem_cons_self δ (fun a => monoArgs (fun y hy => h y (List.mem_cons_of_mem _ hy)) δ fun as => i _) q
theorem a_nil : AD X K [] [] := ⟨fun δ Q Q' i q => i _ q, fun δ Q q => ⟨rfl, q⟩, pa_weak pa_nil fun σ H Q ⟨Hb, B, O, δ, S, q⟩ => q [] H (.refl H) .nil⟩
theorem b_nil : BD X K [] [] := ⟨fun δ Q Q' i q => i _ q, pa_weak pa_nil fun σ H Q ⟨Hb, B, O, δ, S, q⟩ => q [] H (.refl H) .nil⟩
theorem a_cons {es : List Expr} {x : DX} {xs : List DX} (h : PD X K e x) (r : AD X K es xs) (hs : starEach (e :: es) X.env = (false, eval e X.env) :: starEach es X.env := by rfl) : AD X K (e :: es) (x :: xs) := by
  refine ⟨fun δ Q Q' i q => h.mono δ (fun a => r.mono δ fun as => i _) q, fun δ Q q => h.mono δ (fun a k => r.mono δ (fun as k => ⟨by rw [List.length_cons, List.length_cons, k.1], k.2⟩) (r.len δ _ k)) q, pa_weak (pa_cons h.pe r.pa hs) fun σ H Q ⟨Hb, B, O, δ, S, q⟩ => ⟨Hb, B, O, δ, S, h.mono δ (fun d k v H1 s1 a => ?_) q⟩⟩
  exact ⟨Hb, B, O, δ, S.grow s1, r.mono δ (fun ds k vs H2 s2 as => k _ _ (s1.trans s2) (.cons (a.mono (hid_same s2)) as)) k⟩
theorem b_cons {es : List Expr} {x : DX} {xs : List DX} (h : QD X K e x) (r : BD X K es xs) (hs : starEach (e :: es) X.env = (false, eval e X.env) :: starEach es X.env := by rfl) : BD X K (e :: es) (x :: xs) := by
  refine ⟨fun δ Q Q' i q => h.mono δ (fun a => r.mono δ fun as => i _) q, pa_weak (pa_cons h.pe r.pa hs) fun σ H Q ⟨Hb, B, O, δ, S, q⟩ => ⟨Hb, B, O, δ, S, h.mono δ (fun d k v H1 s1 a => ?_) q⟩⟩
  exact ⟨Hb, B, O, δ, S.grow s1, r.mono δ (fun ds k vs H2 s2 as => k _ _ (s1.trans s2) (.cons (a.grow s2) as)) k⟩
/-! ### tuples and lists written out -/
theorem At.newT {O : List Addr} {H : Hp} {p : Addr} {vs : List V} {l : List D} (live : ∀ b ∈ O, H b ≠ none) (n : H p = none) (hl : l.length ≤ LIM) (a : AtAll K (hid O H) vs l) : At K (hid O (upd H p (.tup vs))) (.ref p) (.tup l) := by
  have np : p ∉ O := fun z => live p z n
  exact .tup (.inl (.inl (by rw [hid_of np, upd_same]))) hl (a.mono (hid_same (same_new n)))
theorem At.newL {O : List Addr} {H : Hp} {p : Addr} {vs : List V} {l : List D} (live : ∀ b ∈ O, H b ≠ none) (n : H p = none) (hl : l.length ≤ LIM) (a : AtAll K (hid O H) vs l) : At K (hid O (upd H p (.lst vs))) (.ref p) (.lst l) := by
  have np : p ∉ O := fun z => live p z n
  exact .lst (by rw [hid_of np, upd_same]) hl (a.mono (hid_same (same_new n)))
def dTup (x : DAs) : DX := fun δ Q => x δ fun ds => Q (.tup ds)
theorem d_tup {es : List Expr} {xs : List DX} {k : Nat} (h : AD X K es xs) (hn : xs.length ≤ 1000 := by exact Nat.le_of_ble_eq_true rfl) : PD X K (.Tuple es k pos) (dTup (dArgs xs)) := by
  refine ⟨fun δ Q Q' i q => h.mono δ (fun ds q => i _ q) q, pe_weak (pe_tup h.pa) fun σ H Q ⟨Hb, B, O, δ, S, q⟩ => ⟨Hb, B, O, δ, S, h.mono δ (fun ds ⟨hl, k⟩ vs H1 s1 a => ⟨?_, fun p n => ?_⟩) (h.len δ _ q)⟩⟩
  · rw [a.len, hl]; exact Nat.le_of_lt (Nat.lt_of_le_of_lt (Nat.le_trans hn (by decide)) LIM_size)
  · exact k _ _ (s1.trans (same_new n)) (At.newT (fun b hb => live_same (S.live b hb) s1) n (by rw [hl]; exact Nat.le_trans hn (by decide)) a)
def fLst (x : DAs) : DAs := fun δ Q => x δ Q
theorem f_lst {es : List Expr} {xs : List DX} (h : AD X K es xs) (hn : xs.length ≤ 1000 := by exact Nat.le_of_ble_eq_true rfl) : FD X K (.List es pos) (fLst (dArgs xs)) := by
  refine ⟨fun δ Q Q' i q => h.mono δ (fun ds q => i _ q) q, pe_weak (pe_lst h.pa) fun σ H Q ⟨Hb, B, O, δ, S, q⟩ => ⟨Hb, B, O, δ, S, h.mono δ (fun ds ⟨hl, k⟩ vs H1 s1 a => ⟨?_, fun p n => ?_⟩) (h.len δ _ q)⟩⟩
  · rw [a.len, hl]; exact Nat.le_of_lt (Nat.lt_of_le_of_lt (Nat.le_trans hn (by decide)) LIM_size)
  · exact k _ _ _ (s1.trans (same_new n)) (s1.free n) upd_same (by rw [hl]; exact Nat.le_trans hn (by decide)) (a.mono (hid_new n (same_new n)))
/-! ### operators -/
structure OpD (X : Cx) (K : PySem.W.Frag) (f : Value → Value → Sem Value) (o : D → D → (D → Prop) → Prop) : Prop where
  mono : ∀ a b {Q Q' : D → Prop}, (∀ d, Q d → Q' d) → o a b Q → o a b Q'
  ex : ∃ r, OpR X f r ∧ ∀ O H x y a b Q, (∀ p ∈ O, H p ≠ none) → OAt K O H x a → OAt K O H y b → (o a b fun d => ∀ v H', Same H H' → At K (hid O H') v d → Q v H') → r x y H Q
/-- .. that makes a new list -/
structure OpF (X : Cx) (K : PySem.W.Frag) (f : Value → Value → Sem Value) (o : D → D → (List D → Prop) → Prop) : Prop where
  mono : ∀ a b {Q Q' : List D → Prop}, (∀ d, Q d → Q' d) → o a b Q → o a b Q'
  ex : ∃ r, OpR X f r ∧ ∀ O H x y a b Q, (∀ p ∈ O, H p ≠ none) → OAt K O H x a → OAt K O H y b →
    (o a b fun l => ∀ p vs H', Same H H' → H p = none → H' p = some (.lst vs) → l.length ≤ LIM → AtAll K (hid (p :: O) H') vs l → Q (.ref p) H') → r x y H Q
def dOp (o : D → D → (D → Prop) → Prop) (x y : DX) : DX := fun δ Q => x δ fun a => y δ fun b => o a b Q
def fOp (o : D → D → (List D → Prop) → Prop) (x y : DX) : DAs := fun δ Q => x δ fun a => y δ fun b => o a b Q
theorem bin_imp {x y : DX} {r : R2} {σ : St} {H : Hp} {Q : VK} {G : D → D → Prop} (ha : QD X K a x) (hb : QD X K b y) {Hb : Hp} {B O : List Addr} {δ : List Sl} (S : Sta K Hb B O H σ δ) (q : x δ fun a => y δ fun b => G a b)
    (k : ∀ u v H2 d e, Same H H2 → (∀ p ∈ O, H2 p ≠ none) → OAt K O H2 u d → OAt K O H2 v e → G d e → r u v H2 Q) : tOp r (tQ K x) (tQ K y) σ H Q :=
  ⟨Hb, B, O, δ, S, ha.mono δ (fun d g u H1 s1 au => ⟨Hb, B, O, δ, S.grow s1, hb.mono δ (fun e g v H2 s2 av => k u v H2 d e (s1.trans s2) (fun p hp => live_same (live_same (S.live p hp) s1) s2) (au.grow s2) av g) g⟩) q⟩
theorem d_op {op : Operator} {o : D → D → (D → Prop) → Prop} {x y : DX} (ho : OpD X K (binaryOp op) o) (ha : QD X K a x) (hb : QD X K b y) : PD X K (.BinOp a op b pos) (dOp o x y) := by
  obtain ⟨r, hr, hi⟩ := ho.ex
  refine ⟨fun δ Q Q' i q => ha.mono δ (fun d => hb.mono δ fun e => ho.mono d e i) q, pe_weak (pe_op hr ha.pe hb.pe) fun σ H Q ⟨Hb, B, O, δ, S, q⟩ => bin_imp ha hb S q fun u v H2 d e s l au av g => ?_⟩
  exact hi O H2 u v d e Q l au av (ho.mono d e (fun w k v' H' s' a => k v' H' (s.trans s') a) g)
theorem f_op {op : Operator} {o : D → D → (List D → Prop) → Prop} {x y : DX} (ho : OpF X K (binaryOp op) o) (ha : QD X K a x) (hb : QD X K b y) : FD X K (.BinOp a op b pos) (fOp o x y) := by
  obtain ⟨r, hr, hi⟩ := ho.ex
  refine ⟨fun δ Q Q' i q => ha.mono δ (fun d => hb.mono δ fun e => ho.mono d e i) q, pe_weak (pe_op hr ha.pe hb.pe) fun σ H Q ⟨Hb, B, O, δ, S, q⟩ => bin_imp ha hb S q fun u v H2 d e s l au av g => ?_⟩
  exact hi O H2 u v d e Q l au av (ho.mono d e (fun w k p vs H' s' n hp hl a => k p vs H' (s.trans s') (s.free n) hp hl a) g)
theorem d_cmp {op : CmpOp} {o : D → D → (D → Prop) → Prop} {x y : DX} (ho : OpD X K (compareOp op) o) (ha : QD X K a x) (hb : QD X K b y) (hm : behindInMarks op b = false := by first | exact nomark _ | rfl) : PD X K (.Compare a [op] [b] pos) (dOp o x y) := by
  obtain ⟨r, hr, hi⟩ := ho.ex
  refine ⟨fun δ Q Q' i q => ha.mono δ (fun d => hb.mono δ fun e => ho.mono d e i) q, pe_weak (pe_cmpR hr ha.pe hb.pe hm) fun σ H Q ⟨Hb, B, O, δ, S, q⟩ => bin_imp ha hb S q fun u v H2 d e s l au av g => ?_⟩
  exact hi O H2 u v d e Q l au av (ho.mono d e (fun w k v' H' s' a => k v' H' (s.trans s') a) g)
def asB (Q : Bool → Prop) : D → Prop
  | .bl b => Q b
  | _ => False
theorem asB_mono {Q Q' : Bool → Prop} (h : ∀ b, Q b → Q' b) : ∀ d, asB Q d → asB Q' d
  | .bl b, q => h b q
  | .non, q | .int _, q | .str _, q | .tup _, q | .lst _, q | .scr _, q | .dic _ _, q | .ref _, q | .ptp _, q => q.elim
def tOf (x : DX) : DT := fun δ Q => x δ (asB Q)
theorem asB_at {Q : Bool → Prop} {O : List Addr} {H : Hp} {v : V} : ∀ {d : D}, asB Q d → OAt K O H v d → ∃ b, v = .bl b ∧ Q b
  | .bl b, q, a => ⟨b, a.bl, q⟩
  | .non, q, _ | .int _, q, _ | .str _, q, _ | .tup _, q, _ | .lst _, q, _ | .scr _, q, _ | .dic _ _, q, _ | .ref _, q, _ | .ptp _, q, _ => q.elim
theorem t_cmp {op : CmpOp} {o : D → D → (D → Prop) → Prop} {x y : DX} (ho : OpD X K (compareOp op) o) (ha : QD X K a x) (hb : QD X K b y) (hm : behindInMarks op b = false := by first | exact nomark _ | rfl) : TD X K (.Compare a [op] [b] pos) (tOf (dOp o x y)) := by
  obtain ⟨r, hr, hi⟩ := ho.ex
  refine ⟨fun δ Q Q' i q => ha.mono δ (fun d => hb.mono δ fun e => ho.mono d e (asB_mono i)) q, pt_weak (pt_cmpR hr ha.pe hb.pe hm) fun σ H Q ⟨Hb, B, O, δ, S, q⟩ => ?_⟩
  show tOp r (tQ K x) (tQ K y) σ H _
  refine bin_imp ha hb S q fun u v H2 d e s l au av g => ?_
  refine hi O H2 u v d e _ l au av (ho.mono d e (fun w k v' H' s' a => ?_) g)
  obtain ⟨b, rfl, k⟩ := asB_at k (.at_ a)
  exact ⟨b, rfl, k H' (s.trans s')⟩
theorem t_val {x : DX} (h : QD X K e x) (he : ∀ whole, isTrue e X.env whole = (do let v ← whole; standAt e.pos; holding [v] (truthy v)) := by intro _; rfl) : TD X K e (tOf x) := by
  refine ⟨fun δ Q Q' i q => h.mono δ (asB_mono i) q, pt_weak (pt_val h.pe he) fun σ H Q ⟨Hb, B, O, δ, S, q⟩ => ⟨Hb, B, O, δ, S, h.mono δ (fun d k v H' s a => ?_) q⟩⟩
  obtain ⟨b, rfl, k⟩ := asB_at k a
  exact ⟨b, rfl, k H' s⟩
/-- truth of a list, a tuple, an int -/
def truD (Q : Bool → Prop) : D → Prop
  | .bl b => Q b
  | .lst l => Q (!l.isEmpty)
  | .tup l => Q (!l.isEmpty)
  | .int i => Q (i != 0)
  | .non => Q false
  | _ => False
theorem truD_mono {Q Q' : Bool → Prop} (h : ∀ b, Q b → Q' b) : ∀ d, truD Q d → truD Q' d
  | .bl b, q => h b q
  | .lst l, q => h _ q
  | .tup l, q => h _ q
  | .int i, q => h _ q
  | .non, q => h _ q
  | .str _, q | .scr _, q | .dic _ _, q | .ref _, q | .ptp _, q => q.elim
theorem isEmpty_at {H : Hp} {vs : List V} {l : List D} (h : AtAll K H vs l) : vs.isEmpty = l.isEmpty := by
  cases h <;> rfl
theorem truD_at (hK : X.K = K) {Q : Bool → Prop} {O : List Addr} {H : Hp} {v : V} {d : D} (q : truD Q d) (a : OAt K O H v d) : ∃ k, TruV X.K v H k ∧ Q k := by
  subst hK
  cases d with
  | bl b => rw [a.bl]; exact ⟨b, rfl, q⟩
  | int i => rw [a.int]; exact ⟨_, rfl, q⟩
  | non => rw [a.non]; exact ⟨_, rfl, q⟩
  | lst l =>
    obtain ⟨p, vs, rfl, h1, h2, h3⟩ := a.list
    exact ⟨_, .inl ⟨vs, .inl (.inl h1), rfl⟩, by rw [isEmpty_at h3]; exact q⟩
  | tup l =>
    obtain ⟨p, vs, rfl, h1, h2, h3, _⟩ := a.tuple
    exact ⟨_, .inr (.inl ⟨vs, h1, rfl⟩), by rw [isEmpty_at h3]; exact q⟩
  | str _ => exact q.elim
  | scr _ => exact q.elim
  | dic _ _ => exact q.elim
  | ref _ => exact q.elim
  | ptp _ => exact q.elim
def tTru (x : DX) : DT := fun δ Q => x δ (truD Q)
theorem t_truth {x : DX} (h : QD X K e x) (hK : X.K = K := by rfl) (he : ∀ whole, isTrue e X.env whole = (do let v ← whole; standAt e.pos; holding [v] (truthy v)) := by intro _; rfl) : TD X K e (tTru x) := by
  refine ⟨fun δ Q Q' i q => h.mono δ (truD_mono i) q, pt_weak (pt_truth h.pe he) fun σ H Q ⟨Hb, B, O, δ, S, q⟩ => ⟨Hb, B, O, δ, S, h.mono δ (fun d k v H' s a => ?_) q⟩⟩
  obtain ⟨b, t, k⟩ := truD_at (X := X) hK k a
  exact ⟨b, t, k H' s⟩
/-! ### and, or, not -/
def tAndD (x y : DT) : DT := fun δ Q => x δ fun c => if c = true then y δ Q else Q false
def tOrD (x y : DT) : DT := fun δ Q => x δ fun c => if c = true then Q true else y δ Q
def tNotD (x : DT) : DT := fun δ Q => x δ fun c => Q (!c)
theorem ite_mono {A A' B B' : Prop} (c : Bool) (ha : A → A') (hb : B → B') (h : if c = true then A else B) : if c = true then A' else B' := by
  cases c with
  | true => exact ha h
  | false => exact hb h
theorem w_and1 {x : DT} (h : TD X K a x) : WD X K (.BoolOp .And [a] pos) x := ⟨h.mono, pw_and1 h.pt⟩
theorem w_or1 {x : DT} (h : TD X K a x) : WD X K (.BoolOp .Or [a] pos) x := ⟨h.mono, pw_or1 h.pt⟩
theorem w_and {x y : DT} {rest : List Expr} (h : TD X K a x) (r : WD X K (.BoolOp .And (b :: rest) pos) y) : WD X K (.BoolOp .And (a :: b :: rest) pos) (tAndD x y) := by
  refine ⟨fun δ Q Q' i q => h.mono δ (fun c => ite_mono c (r.mono δ i) (i _)) q, pw_weak (pw_and h.pt r.pw) fun σ H Q ⟨Hb, B, O, δ, S, q⟩ => ⟨Hb, B, O, δ, S, h.mono δ (fun c k H1 s1 => ?_) q⟩⟩
  refine ite_mono c (fun k => ⟨Hb, B, O, δ, S.grow s1, r.mono δ (fun d k H2 s2 => k H2 (s1.trans s2)) k⟩) (fun k => k H1 s1) k
theorem w_or {x y : DT} {rest : List Expr} (h : TD X K a x) (r : WD X K (.BoolOp .Or (b :: rest) pos) y) : WD X K (.BoolOp .Or (a :: b :: rest) pos) (tOrD x y) := by
  refine ⟨fun δ Q Q' i q => h.mono δ (fun c => ite_mono c (i _) (r.mono δ i)) q, pw_weak (pw_or h.pt r.pw) fun σ H Q ⟨Hb, B, O, δ, S, q⟩ => ⟨Hb, B, O, δ, S, h.mono δ (fun c k H1 s1 => ?_) q⟩⟩
  refine ite_mono c (fun k => k H1 s1) (fun k => ⟨Hb, B, O, δ, S.grow s1, r.mono δ (fun d k H2 s2 => k H2 (s1.trans s2)) k⟩) k
theorem WD.t {x : DT} (h : WD X K e x) : TD X K e x := ⟨h.mono, h.pw.pt⟩
theorem t_not {x : DT} (h : TD X K a x) : TD X K (.UnaryOp .Not a pos) (tNotD x) :=
  ⟨fun δ Q Q' i q => h.mono δ (fun c => i _) q, pt_weak (pt_not h.pt) fun σ H Q ⟨Hb, B, O, δ, S, q⟩ => ⟨Hb, B, O, δ, S, q⟩⟩
/-- .. as values -/
def dAnd (x y : DX) : DX := fun δ Q => x δ (asB fun c => if c = true then y δ Q else Q (.bl false))
def dOr (x y : DX) : DX := fun δ Q => x δ (asB fun c => if c = true then Q (.bl true) else y δ Q)
def dNot (x : DX) : DX := fun δ Q => x δ (asB fun c => Q (.bl (!c)))
theorem d_one {op} {x : DX} (h : PD X K a x) : PD X K (.BoolOp op [a] pos) x := ⟨h.mono, pe_one h.pe⟩
theorem d_and {x y : DX} {rest : List Expr} (h : PD X K a x) (r : PD X K (.BoolOp .And (b :: rest) pos) y) : PD X K (.BoolOp .And (a :: b :: rest) pos) (dAnd x y) := by
  refine ⟨fun δ Q Q' i q => h.mono δ (asB_mono fun c => ite_mono c (r.mono δ i) (i _)) q, pe_weak (pe_and h.pe r.pe) fun σ H Q ⟨Hb, B, O, δ, S, q⟩ => ⟨Hb, B, O, δ, S, h.mono δ (fun d k v H1 s1 a => ?_) q⟩⟩
  obtain ⟨c, rfl, k⟩ := asB_at k (.at_ a)
  exact ⟨c, rfl, ite_mono c (fun k => ⟨Hb, B, O, δ, S.grow s1, r.mono δ (fun d k v H2 s2 a => k v H2 (s1.trans s2) a) k⟩) (fun k => k _ H1 s1 (.bl false)) k⟩
theorem d_or {x y : DX} {rest : List Expr} (h : PD X K a x) (r : PD X K (.BoolOp .Or (b :: rest) pos) y) : PD X K (.BoolOp .Or (a :: b :: rest) pos) (dOr x y) := by
  refine ⟨fun δ Q Q' i q => h.mono δ (asB_mono fun c => ite_mono c (i _) (r.mono δ i)) q, pe_weak (pe_or h.pe r.pe) fun σ H Q ⟨Hb, B, O, δ, S, q⟩ => ⟨Hb, B, O, δ, S, h.mono δ (fun d k v H1 s1 a => ?_) q⟩⟩
  obtain ⟨c, rfl, k⟩ := asB_at k (.at_ a)
  exact ⟨c, rfl, ite_mono c (fun k => k _ H1 s1 (.bl true)) (fun k => ⟨Hb, B, O, δ, S.grow s1, r.mono δ (fun d k v H2 s2 a => k v H2 (s1.trans s2) a) k⟩) k⟩
theorem d_not {x : DX} (h : PD X K a x) : PD X K (.UnaryOp .Not a pos) (dNot x) := by
  refine ⟨fun δ Q Q' i q => h.mono δ (asB_mono fun c => i _) q, pe_weak (pe_not h.pe) fun σ H Q ⟨Hb, B, O, δ, S, q⟩ => ⟨Hb, B, O, δ, S, h.mono δ (fun d k v H1 s1 a => ?_) q⟩⟩
  obtain ⟨c, rfl, k⟩ := asB_at k (.at_ a)
  exact ⟨c, rfl, k _ H1 s1 (.bl _)⟩
def dIf (t : DT) (x y : DX) : DX := fun δ Q => t δ fun c => if c = true then x δ Q else y δ Q
theorem d_if {t : DT} {x y : DX} (h : TD X K c t) (ha : PD X K a x) (hb : PD X K b y) : PD X K (.IfExp c a b pos) (dIf t x y) := by
  refine ⟨fun δ Q Q' i q => h.mono δ (fun c => ite_mono c (ha.mono δ i) (hb.mono δ i)) q, pe_weak (pe_ifExp h.pt ha.pe hb.pe) fun σ H Q ⟨Hb, B, O, δ, S, q⟩ => ⟨Hb, B, O, δ, S, h.mono δ (fun c k H1 s1 => ?_) q⟩⟩
  exact ite_mono c (fun k => ⟨Hb, B, O, δ, S.grow s1, ha.mono δ (fun d k v H2 s2 a => k v H2 (s1.trans s2) a) k⟩) (fun k => ⟨Hb, B, O, δ, S.grow s1, hb.mono δ (fun d k v H2 s2 a => k v H2 (s1.trans s2) a) k⟩) k
/-- is None -/
def isNon : D → Bool
  | .non => true
  | _ => false
theorem isNon_at {O : List Addr} {H : Hp} {v : V} {d : D} (a : OAt K O H v d) : decide (v = .non) = isNon d := by
  cases d with
  | non => rw [a.non]; rfl
  | bl b => rw [a.bl]; rfl
  | int i => rw [a.int]; rfl
  | str i => rw [a.str]; rfl
  | lst l => obtain ⟨p, vs, rfl, _⟩ := a.list; rfl
  | tup l => obtain ⟨p, vs, rfl, _⟩ := a.tuple; rfl
  | scr l => obtain ⟨p, vs, rfl, _⟩ := a.script; rfl
  | dic ks l => obtain ⟨p, vs, rfl, _⟩ := a.dict; rfl
  | ptp l => obtain ⟨p, vs, rfl, _⟩ := a.tupOf.tuple; rfl
  | ref p => cases a with | at_ a => cases a; rfl
def dIsN (neg : Bool) (x : DX) : DX := fun δ Q => x δ fun d => Q (.bl (if neg then !isNon d else isNon d))
theorem d_isN {x : DX} {j pos'} (h : QD X K a x) : PD X K (.Compare a [.Is] [.Constant .none j pos'] pos) (dIsN false x) := by
  refine ⟨fun δ Q Q' i q => h.mono δ (fun d => i _) q, pe_weak (pe_cmp (pc_isN h.pe) rfl) fun σ H Q ⟨Hb, B, O, δ, S, q⟩ => ⟨Hb, B, O, δ, S, h.mono δ (fun d k v H1 s1 a => ?_) q⟩⟩
  dsimp only
  rw [isNon_at a]
  exact k _ H1 s1 (.bl _)
theorem d_notN {x : DX} {j pos'} (h : QD X K a x) : PD X K (.Compare a [.IsNot] [.Constant .none j pos'] pos) (dIsN true x) := by
  refine ⟨fun δ Q Q' i q => h.mono δ (fun d => i _) q, pe_weak (pe_cmp (pc_notN h.pe) rfl) fun σ H Q ⟨Hb, B, O, δ, S, q⟩ => ⟨Hb, B, O, δ, S, h.mono δ (fun d k v H1 s1 a => ?_) q⟩⟩
  dsimp only
  rw [isNon_at a]
  exact k _ H1 s1 (.bl _)
theorem t_isN {x : DX} {j pos'} (h : QD X K a x) : TD X K (.Compare a [.Is] [.Constant .none j pos'] pos) (tOf (dIsN false x)) := by
  refine ⟨fun δ Q Q' i q => h.mono δ (fun d => i _) q, pt_weak (pt_cmp (pc_isN h.pe) rfl) fun σ H Q ⟨Hb, B, O, δ, S, q⟩ => ⟨Hb, B, O, δ, S, h.mono δ (fun d k v H1 s1 a => ?_) q⟩⟩
  dsimp only
  rw [isNon_at a]
  exact ⟨_, rfl, k H1 s1⟩
theorem t_notN {x : DX} {j pos'} (h : QD X K a x) : TD X K (.Compare a [.IsNot] [.Constant .none j pos'] pos) (tOf (dIsN true x)) := by
  refine ⟨fun δ Q Q' i q => h.mono δ (fun d => i _) q, pt_weak (pt_cmp (pc_notN h.pe) rfl) fun σ H Q ⟨Hb, B, O, δ, S, q⟩ => ⟨Hb, B, O, δ, S, h.mono δ (fun d k v H1 s1 a => ?_) q⟩⟩
  dsimp only
  rw [isNon_at a]
  exact ⟨_, rfl, k H1 s1⟩
/-- a <= b < c -/
def tChD (o o' : D → D → (D → Prop) → Prop) (x y z : DX) : DT := fun δ Q => x δ fun a => y δ fun b => o a b (asB fun k => if k = true then z δ fun c => o' b c (asB Q) else Q false)
def dChD (o o' : D → D → (D → Prop) → Prop) (x y z : DX) : DX := fun δ Q => tChD o o' x y z δ fun b => Q (.bl b)
end
end DL

namespace DL
variable [Tbs]
open PySem L2
section
variable {X : Cx} {K : PySem.W.Frag} {e a b c : Expr} {pos : Pos}
theorem opR_or {f : Value → Value → Sem Value} {r r' : R2} (h : OpR X f r) (h' : OpR X f r') : OpR X f (fun x y H Q => r x y H Q ∨ r' x y H Q) := by
  intro pins s σ H x y v u Q I rx ry q
  rcases q with q | q
  · exact h pins s σ H x y v u Q I rx ry q
  · exact h' pins s σ H x y v u Q I rx ry q
theorem callR_or {f : Value} {r r' : List V → Hp → VK → Prop} (h : CallR X f r) (h' : CallR X f r') : CallR X f (fun x H Q => r x H Q ∨ r' x H Q) := by
  intro pins s σ H x u Q I rx q
  rcases q with q | q
  · exact h pins s σ H x u Q I rx q
  · exact h' pins s σ H x u Q I rx q
/-! ### ints -/
def oI (g : Int → Int → D) : D → D → (D → Prop) → Prop
  | .int i, .int j, Q => Q (g i j)
  | _, _, _ => False
def oIc (C : Int → Int → Prop) (g : Int → Int → D) : D → D → (D → Prop) → Prop
  | .int i, .int j, Q => C i j ∧ Q (g i j)
  | _, _, _ => False
theorem oI_mono {g : Int → Int → D} (a b : D) {Q Q' : D → Prop} (i : ∀ d, Q d → Q' d) (q : oI g a b Q) : oI g a b Q' := by
  unfold oI at q ⊢
  split at q
  · exact i _ q
  · exact q
theorem oIc_mono {C : Int → Int → Prop} {g : Int → Int → D} (a b : D) {Q Q' : D → Prop} (i : ∀ d, Q d → Q' d) (q : oIc C g a b Q) : oIc C g a b Q' := by
  unfold oIc at q ⊢
  split at q
  · exact ⟨q.1, i _ q.2⟩
  · exact q
theorem opI_d {f : Value → Value → Sem Value} {g : Int → Int → V} {g' : Int → Int → D} (h : OpR X f (rI0 g)) (k : ∀ i j H, At K H (g i j) (g' i j)) : OpD X K f (oI g') := by
  refine ⟨fun a b Q Q' => oI_mono a b, _, h, fun O H x y a b Q l ax ay q => ?_⟩
  unfold oI at q
  split at q
  · exact ⟨_, _, ax.int, ay.int, q _ H (.refl H) (k _ _ _)⟩
  · exact q.elim
theorem opIc_d {f : Value → Value → Sem Value} {C : Int → Int → Prop} {g : Int → Int → V} {g' : Int → Int → D} (h : OpR X f (rI C g)) (k : ∀ i j H, At K H (g i j) (g' i j)) : OpD X K f (oIc C g') := by
  refine ⟨fun a b Q Q' => oIc_mono a b, _, h, fun O H x y a b Q l ax ay q => ?_⟩
  unfold oIc at q
  split at q
  · exact ⟨_, _, ax.int, ay.int, q.1, q.2 _ H (.refl H) (k _ _ _)⟩
  · exact q.elim
abbrev oSub := oI fun i j => .int (i - j)
theorem o_sub : OpD X K (binaryOp .Sub) oSub := opI_d op_sub fun i j H => .int _
abbrev oMod := oIc (fun _ j => 0 < j) fun i j => .int (i % j)
theorem o_mod : OpD X K (binaryOp .Mod) oMod := opIc_d op_mod fun i j H => .int _
abbrev oDiv := oIc CDivW fun i j => .int (i / j)
theorem o_div : OpD X K (binaryOp .FloorDiv) oDiv := opIc_d op_fdivW fun i j H => .int _
abbrev oPow := oIc CPow fun i j => .int (i ^ j.toNat)
theorem o_pow : OpD X K (binaryOp .Pow) oPow := opIc_d op_pow fun i j H => .int _
abbrev oShl := oIc CPow fun i j => .int (i * 2 ^ j.toNat)
theorem o_shl : OpD X K (binaryOp .LShift) oShl := opIc_d op_shl fun i j H => .int _
abbrev oLt := oI fun i j => .bl (decide (i < j))
abbrev oLe := oI fun i j => .bl (decide (i ≤ j))
abbrev oGt := oI fun i j => .bl (decide (j < i))
abbrev oGe := oI fun i j => .bl (decide (j ≤ i))
theorem o_lt : OpD X K (compareOp .Lt) oLt := opI_d op_lt fun i j H => .bl _
theorem o_le : OpD X K (compareOp .LtE) oLe := opI_d op_le fun i j H => .bl _
theorem o_gt : OpD X K (compareOp .Gt) oGt := opI_d op_gt fun i j H => .bl _
theorem o_ge : OpD X K (compareOp .GtE) oGe := opI_d op_ge fun i j H => .bl _
/-! ### + -/
def oAdd : D → D → (D → Prop) → Prop
  | .int i, .int j, Q => Q (.int (i + j))
  | .str x, .str y, Q => x.length + y.length ≤ LIM ∧ Q (.str (x ++ y))
  | .tup l, .tup m, Q => l.length + m.length ≤ LIM ∧ Q (.tup (l ++ m))
  | .lst l, .lst m, Q => l.length + m.length ≤ LIM ∧ Q (.lst (l ++ m))
  | _, _, _ => False
theorem oAdd_mono (a b : D) {Q Q' : D → Prop} (i : ∀ d, Q d → Q' d) (q : oAdd a b Q) : oAdd a b Q' := by
  unfold oAdd at q ⊢
  split at q
  · exact i _ q
  · exact ⟨q.1, i _ q.2⟩
  · exact ⟨q.1, i _ q.2⟩
  · exact ⟨q.1, i _ q.2⟩
  · exact q
theorem lim_sz {n : Nat} (h : n ≤ LIM) : n ≤ sizeLine := Nat.le_of_lt (Nat.lt_of_le_of_lt h LIM_size)
theorem o_add (hK : X.K = K := by rfl) : OpD X K (binaryOp .Add) oAdd := by
  subst hK
  refine ⟨fun a b Q Q' => oAdd_mono a b, _, opR_or op_add (opR_or op_add_str (opR_or op_catA op_cat)), fun O H x y a b Q l ax ay q => ?_⟩
  unfold oAdd at q
  split at q
  · exact .inl ⟨_, _, ax.int, ay.int, q _ H (.refl H) (.int _)⟩
  · exact .inr (.inl ⟨_, _, ax.str, ay.str, lim_sz q.1, q.2 _ H (.refl H) (.str _)⟩)
  · obtain ⟨p, vs, rfl, h1, h2, h3, h4⟩ := ax.tuple
    obtain ⟨r, ws, rfl, g1, g2, g3, g4⟩ := ay.tuple
    refine .inr (.inr (.inl ⟨p, r, vs, ws, rfl, rfl, h1, g1, lim_sz (by rw [h3.len, g3.len]; exact q.1), fun e => ?_, fun _ e => ?_, fun _ _ t n => ?_⟩))
    · subst e
      cases h3
      exact q.2 _ H (.refl H) (.tup g4 g2 g3)
    · subst e
      cases g3
      exact q.2 _ H (.refl H) (by rw [List.append_nil]; exact .tup h4 h2 h3)
    · exact q.2 _ _ (same_new n) (At.newT l n (by rw [List.length_append]; exact q.1) (h3.append g3))
  · obtain ⟨p, vs, rfl, h1, h2, h3⟩ := ax.list
    obtain ⟨r, ws, rfl, g1, g2, g3⟩ := ay.list
    exact .inr (.inr (.inr ⟨p, r, vs, ws, rfl, rfl, h1, g1, lim_sz (by rw [h3.len, g3.len]; exact q.1), fun t n => q.2 _ _ (same_new n) (At.newL l n (by rw [List.length_append]; exact q.1) (h3.append g3))⟩))
  · exact q.elim
/-- two lists, a new one -/
def oCat : D → D → (List D → Prop) → Prop
  | .lst l, .lst m, Q => l.length + m.length ≤ LIM ∧ Q (l ++ m)
  | _, _, _ => False
theorem o_cat (hK : X.K = K := by rfl) : OpF X K (binaryOp .Add) oCat := by
  subst hK
  refine ⟨fun a b Q Q' i q => ?_, _, op_cat, fun O H x y a b Q l ax ay q => ?_⟩
  · unfold oCat at q ⊢
    split at q
    · exact ⟨q.1, i _ q.2⟩
    · exact q
  · unfold oCat at q
    split at q
    · obtain ⟨p, vs, rfl, h1, h2, h3⟩ := ax.list
      obtain ⟨r, ws, rfl, g1, g2, g3⟩ := ay.list
      exact ⟨p, r, vs, ws, rfl, rfl, h1, g1, lim_sz (by rw [h3.len, g3.len]; exact q.1), fun t n => q.2 t _ _ (same_new n) n upd_same (by rw [List.length_append]; exact q.1) ((h3.append g3).mono (hid_new n (same_new n)))⟩
    · exact q.elim
/-! ### * -/
def repD (l : List D) : Nat → List D
  | 0 => []
  | n + 1 => l ++ repD l n
theorem rep_len (l : List D) : ∀ n, (repD l n).length = l.length * n
  | 0 => by simp [repD]
  | n + 1 => by rw [repD, List.length_append, rep_len l n, Nat.mul_succ, Nat.add_comm]
theorem rep_at {H : Hp} {vs : List V} {l : List D} (h : AtAll K H vs l) : ∀ n, AtAll K H ((List.replicate n vs).flatten) (repD l n)
  | 0 => .nil
  | n + 1 => by
    rw [List.replicate_succ, List.flatten_cons, repD]
    exact h.append (rep_at h n)
def mulOk (i j : Int) : Prop := CMul i j ∨ CMulW i j
theorem op_mulA : OpR X (binaryOp .Mult) (rI mulOk fun i j => .int (i * j)) := by
  intro pins s σ H x y v u Q I rx ry q
  obtain ⟨i, j, e1, e2, c, q⟩ := q
  rcases c with c | c
  · exact op_mul pins s σ H x y v u Q I rx ry ⟨i, j, e1, e2, c, q⟩
  · exact op_mulW pins s σ H x y v u Q I rx ry ⟨i, j, e1, e2, c, q⟩
def oMul : D → D → (D → Prop) → Prop
  | .int i, .int j, Q => mulOk i j ∧ Q (.int (i * j))
  | .lst l, .int k, Q => (0 ≤ k ∧ k ≤ 1000000 ∧ l.length * k.toNat ≤ LIM) ∧ Q (.lst (repD l k.toNat))
  | _, _, _ => False
theorem oMul_mono (a b : D) {Q Q' : D → Prop} (i : ∀ d, Q d → Q' d) (q : oMul a b Q) : oMul a b Q' := by
  unfold oMul at q ⊢
  split at q
  · exact ⟨q.1, i _ q.2⟩
  · exact ⟨q.1, i _ q.2⟩
  · exact q
theorem o_mul (hK : X.K = K := by rfl) : OpD X K (binaryOp .Mult) oMul := by
  subst hK
  refine ⟨fun a b Q Q' => oMul_mono a b, _, opR_or op_mulA op_rep, fun O H x y a b Q l ax ay q => ?_⟩
  unfold oMul at q
  split at q
  · exact .inl ⟨_, _, ax.int, ay.int, q.1, q.2 _ H (.refl H) (.int _)⟩
  · obtain ⟨p, vs, rfl, h1, h2, h3⟩ := ax.list
    obtain ⟨⟨k1, k2, k3⟩, q⟩ := q
    refine .inr ⟨p, _, vs, rfl, ay.int, h1, by omega, by omega, lim_sz (by rw [h3.len]; exact k3), fun t n => q _ _ (same_new n) (At.newL l n (by rw [rep_len]; exact k3) (rep_at h3 _))⟩
  · exact q.elim
def oRep : D → D → (List D → Prop) → Prop
  | .lst l, .int k, Q => (0 ≤ k ∧ k ≤ 1000000 ∧ l.length * k.toNat ≤ LIM) ∧ Q (repD l k.toNat)
  | _, _, _ => False
theorem o_rep (hK : X.K = K := by rfl) : OpF X K (binaryOp .Mult) oRep := by
  subst hK
  refine ⟨fun a b Q Q' i q => ?_, _, op_rep, fun O H x y a b Q l ax ay q => ?_⟩
  · unfold oRep at q ⊢
    split at q
    · exact ⟨q.1, i _ q.2⟩
    · exact q
  · unfold oRep at q
    split at q
    · obtain ⟨p, vs, rfl, h1, h2, h3⟩ := ax.list
      obtain ⟨⟨k1, k2, k3⟩, q⟩ := q
      exact ⟨p, _, vs, rfl, ay.int, h1, by omega, by omega, lim_sz (by rw [h3.len]; exact k3), fun t n => q t _ _ (same_new n) n upd_same (by rw [rep_len]; exact k3) ((rep_at h3 _).mono (hid_new n (same_new n)))⟩
    · exact q.elim
/-! ### == -/
mutual
def toP : D → PyData
  | .non => .none
  | .bl b => .bool b
  | .int i => .int i
  | .str s => .str s
  | .tup l => .tuple (toPs l)
  | .lst l => .list (toPs l)
  | .scr l => .list (toPs l)
  | .ptp l => .tuple (toPs l)
  | .dic _ _ => .none
  | .ref _ => .none
def toPs : List D → List PyData
  | [] => []
  | d :: ds => toP d :: toPs ds
end
mutual
def isDat : D → Bool
  | .non | .bl _ | .int _ | .str _ => true
  | .tup l | .lst l => isDats l
  | .scr l => isDats l
  | .ptp l => isDats l
  | .dic _ _ | .ref _ => false
def isDats : List D → Bool
  | [] => true
  | d :: ds => isDat d && isDats ds
end
mutual
theorem At.dp {H : Hp} {v : V} {d : D} : At K H v d → isDat d = true → Dp K H v (toP d)
  | .non, _ => .non
  | .bl b, _ => .bl b
  | .int i, _ => .int i
  | .str z, _ => .str z
  | .ref a, h => by cases h
  | .tup e _ r, h => .tup e (AtAll.dp r h)
  | .lst e _ r, h => .lst (.inl (.inl e)) (AtAll.dp r h)
  | .scr e _ r, h => .lst e (AtAll.dp r h)
  | .dic _ _ _ _, h => by cases h
  | .ptp e _ _ r, h => .tup (.inl (.inr ⟨_, e⟩)) (AtAll.dp r h)
theorem AtAll.dp {H : Hp} {vs : List V} {ds : List D} : AtAll K H vs ds → isDats ds = true → DpAll K H vs (toPs ds)
  | .nil, _ => .nil
  | .cons a r, h => by
    unfold isDats at h
    rw [Bool.and_eq_true] at h
    exact .cons (At.dp a h.1) (AtAll.dp r h.2)
end
def okD (d : D) : Bool := isDat d && SeqAt.shaped (toP d)
def eqD (a b : D) : Bool := PyData.eqv (toP a) (toP b)
/-- == : Q is asked of its answer -/
def oEqB (Q : Bool → Prop) : D → D → Prop
  | .int i, .int j => Q (decide (i = j))
  | a, b => (okD a = true ∧ okD b = true) ∧ Q (eqD a b)
theorem oEqB_mono {Q Q' : Bool → Prop} (a b : D) (i : ∀ d, Q d → Q' d) (q : oEqB Q a b) : oEqB Q' a b := by
  unfold oEqB at q ⊢
  split at q
  · exact i _ q
  · exact ⟨q.1, i _ q.2⟩
theorem oEqB_at {O : List Addr} {H : Hp} {x y : V} {a b : D} {Q : Bool → Prop} (ax : OAt K O H x a) (ay : OAt K O H y b) (q : oEqB Q a b) : ∃ d e, Dp K H x d ∧ Dp K H y e ∧ SeqAt.shaped d = true ∧ SeqAt.shaped e = true ∧ Q (PyData.eqv d e) := by
  unfold oEqB at q
  split at q
  · rename_i i j
    rw [ax.int, ay.int]
    refine ⟨_, _, .int i, .int j, rfl, rfl, ?_⟩
    have : PyData.eqv (.int i) (.int j) = decide (i = j) := Bool.beq_eq_decide_eq i j
    rw [this]; exact q
  · obtain ⟨⟨h1, h2⟩, q⟩ := q
    unfold okD at h1 h2
    rw [Bool.and_eq_true] at h1 h2
    exact ⟨_, _, ax.plain.dp h1.1, ay.plain.dp h2.1, h1.2, h2.2, q⟩
def oEq : D → D → (D → Prop) → Prop := fun a b Q => oEqB (fun k => Q (.bl k)) a b
def oNe : D → D → (D → Prop) → Prop := fun a b Q => oEqB (fun k => Q (.bl (!k))) a b
theorem o_eq (hu : X.A.units + 64 < cLine) (hK : X.K = K := by rfl) : OpD X K (compareOp .Eq) oEq := by
  subst hK
  refine ⟨fun a b Q Q' i => oEqB_mono a b fun _ => i _, _, op_eqD hu, fun O H x y a b Q l ax ay q => ?_⟩
  obtain ⟨d, e, h1, h2, h3, h4, q⟩ := oEqB_at ax ay q
  exact ⟨d, e, h1, h2, h3, h4, q _ H (.refl H) (.bl _)⟩
theorem o_ne (hu : X.A.units + 64 < cLine) (hK : X.K = K := by rfl) : OpD X K (compareOp .NotEq) oNe := by
  subst hK
  refine ⟨fun a b Q Q' i => oEqB_mono a b fun _ => i _, _, op_neD hu, fun O H x y a b Q l ax ay q => ?_⟩
  obtain ⟨d, e, h1, h2, h3, h4, q⟩ := oEqB_at ax ay q
  exact ⟨d, e, h1, h2, h3, h4, q _ H (.refl H) (.bl _)⟩
mutual
theorem eqv_refl : ∀ d : PyData, d.canLay0 = true → PyData.eqv d d = true
  | .none, _ => rfl
  | .bool b, _ => by unfold PyData.eqv; exact beq_self_eq_true b
  | .int i, _ => by unfold PyData.eqv; exact beq_self_eq_true i
  | .str x, _ => by unfold PyData.eqv; exact beq_self_eq_true x
  | .list xs, h => by unfold PyData.eqv; exact eqv_refls xs (by unfold PyData.canLay0 at h; exact h)
  | .tuple xs, h => by unfold PyData.eqv; exact eqv_refls xs (by unfold PyData.canLay0 at h; exact h)
  | .dict kvs, h => by unfold PyData.canLay0 at h; cases h
theorem eqv_refls : ∀ ds : List PyData, PyData.canLayAll0 ds = true → PyData.eqvAll ds ds = true
  | [], _ => by unfold PyData.eqvAll; rfl
  | d :: ds, h => by
    unfold PyData.canLayAll0 at h
    rw [Bool.and_eq_true] at h
    unfold PyData.eqvAll
    rw [eqv_refl d h.1, eqv_refls ds h.2]; rfl
end
theorem eqD_refl {d : D} (h : okD d = true) : eqD d d = true := by
  unfold okD at h
  rw [Bool.and_eq_true] at h
  exact eqv_refl _ (SeqAt.canLay_of_shaped h.2)
/-- the same on both sides -/
theorem oEqB_refl {Q : Bool → Prop} {d : D} (h : okD d = true) (q : Q true) : oEqB Q d d := by
  have r : Q (eqD d d) := by rw [eqD_refl h]; exact q
  cases d with
  | int i => show Q (decide (i = i)); rw [decide_eq_true rfl]; exact q
  | non | bl b | str s | tup l | lst l | scr l | dic ks vs | ref a | ptp l => exact ⟨⟨h, h⟩, r⟩
/-! ### subscripts -/
def onSome {α : Type} (o : Option α) (Q : α → Prop) : Prop := match o with
  | some x => Q x
  | none => False
theorem onSome_of {α : Type} {o : Option α} {x : α} {Q : α → Prop} (h : o = some x) (q : Q x) : onSome o Q := by rw [h]; exact q
theorem of_onSome {α : Type} {o : Option α} {Q : α → Prop} (h : onSome o Q) : ∃ x, o = some x ∧ Q x := by
  cases o with
  | none => exact h.elim
  | some x => exact ⟨x, rfl, h⟩
theorem onSome_mono {α : Type} {o : Option α} {Q Q' : α → Prop} (i : ∀ x, Q x → Q' x) (h : onSome o Q) : onSome o Q' := by
  cases o with
  | none => exact h
  | some x => exact i x h
def ixD {α : Type} (l : List α) : Int → Option α
  | .ofNat n => l[n]?
  | .negSucc m => if m < l.length then l[l.length - (m + 1)]? else none
theorem ixD_at {α : Type} (l : List α) (k : Int) : ixD l k = atI l k := by
  unfold ixD atI ixN
  cases k with
  | ofNat n =>
    have e : (Int.ofNat n) = (n : Int) := rfl
    by_cases h : n < l.length
    · rw [if_pos (by omega), if_pos (by rw [e]; omega)]
      rfl
    · rw [if_pos (by omega), if_neg (by rw [e]; omega)]
      exact List.getElem?_eq_none_iff.mpr (by omega)
  | negSucc m =>
    have e : Int.negSucc m = -((m : Int) + 1) := by omega
    by_cases h : m < l.length
    · show (if m < l.length then _ else _) = _
      rw [if_pos h, if_neg (by omega), if_pos (by omega)]
      show _ = l[(Int.negSucc m + (l.length : Int)).toNat]?
      congr 1
      omega
    · show (if m < l.length then _ else _) = _
      rw [if_neg h, if_neg (by omega), if_neg (by omega)]
      rfl
theorem ixD_V {H : Hp} {vs : List V} {l : List D} (h : AtAll K H vs l) {k : Int} {d : D} (q : ixD l k = some d) : ∃ v, atI vs k = some v ∧ At K H v d := by
  rw [← ixD_at]
  unfold ixD at q ⊢
  cases k with
  | ofNat n => exact h.get' q
  | negSucc m =>
    dsimp only at q ⊢
    rw [h.len]
    by_cases c : m < l.length
    · rw [if_pos c] at q ⊢; exact h.get' q
    · rw [if_neg c] at q; cases q
def oIx : D → D → (D → Prop) → Prop
  | .lst l, .int k, Q => onSome (ixD l k) Q
  | .tup l, .int k, Q => onSome (ixD l k) Q
  | .scr l, .int k, Q => onSome (ixD l k) Q
  | .str z, .int k, Q => z.length ≤ LIM ∧ onSome (ixD z.cps.toList k) fun c => Q (.str ⟨#[c]⟩)
  | _, _, _ => False
theorem oIx_mono (a b : D) {Q Q' : D → Prop} (i : ∀ d, Q d → Q' d) (q : oIx a b Q) : oIx a b Q' := by
  unfold oIx at q ⊢
  split at q
  · exact onSome_mono i q
  · exact onSome_mono i q
  · exact onSome_mono i q
  · exact ⟨q.1, onSome_mono (fun c => i _) q.2⟩
  · exact q
theorem d_ix {x y : DX} (ha : QD X K a x) (hb : QD X K b y) (hK : X.K = K := by rfl) (hs : PlainIx b := by exact fun _ _ => rfl) : PD X K (.Subscript a b pos) (dOp oIx x y) := by
  subst hK
  refine ⟨fun δ Q Q' i q => ha.mono δ (fun d => hb.mono δ fun e => oIx_mono d e i) q, pe_weak (pe_ix ix_seq ha.pe hb.pe hs) fun σ H Q ⟨Hb, B, O, δ, S, q⟩ => bin_imp ha hb S q fun u v H2 d e s l au av g => ?_⟩
  unfold oIx at g
  split at g
  · obtain ⟨x, g1, g2⟩ := of_onSome g
    obtain ⟨p, vs, rfl, h1, h2, h3⟩ := au.list
    obtain ⟨w, h4, h5⟩ := ixD_V h3 g1
    exact .inl ⟨p, vs, _, w, rfl, av.int, .inl (.inl h1), h4, g2 w H2 s h5⟩
  · obtain ⟨x, g1, g2⟩ := of_onSome g
    obtain ⟨p, vs, rfl, h1, h2, h3, _⟩ := au.tuple
    obtain ⟨w, h4, h5⟩ := ixD_V h3 g1
    exact .inr (.inl ⟨p, vs, _, w, rfl, av.int, h1, h4, g2 w H2 s h5⟩)
  · obtain ⟨x, g1, g2⟩ := of_onSome g
    obtain ⟨p, vs, rfl, h1, h2, h3⟩ := au.script
    obtain ⟨w, h4, h5⟩ := ixD_V h3 g1
    exact .inl ⟨p, vs, _, w, rfl, av.int, h1, h4, g2 w H2 s h5⟩
  · obtain ⟨gl, g⟩ := g
    obtain ⟨x, g1, g2⟩ := of_onSome g
    rw [ixD_at] at g1
    exact .inr (.inr ⟨_, _, x, au.str, av.int, lim_sz gl, g1, g2 _ H2 s (.str _)⟩)
  · exact g.elim
/-! ### slices -/
abbrev DO := List Sl → (Option Int → Prop) → Prop
def tPo (K : PySem.W.Frag) (x : DO) : TO := fun σ H Q => ∃ Hb B O δ, Sta K Hb B O H σ δ ∧ x δ fun i => ∀ H', Same H H' → Q i H'
structure OD (X : Cx) (K : PySem.W.Frag) (e : Option Expr) (x : DO) : Prop where
  mono : ∀ δ {Q Q' : Option Int → Prop}, (∀ d, Q d → Q' d) → x δ Q → x δ Q'
  po : PO X e (tPo K x)
theorem po_weak {e : Option Expr} {t t' : TO} (h : PO X e t) (i : ∀ σ H Q, t' σ H Q → t σ H Q) : PO X e t' := ⟨fun pins s σ H Q I q => h.run pins s σ H Q I (i _ _ _ q)⟩
theorem o_none : OD X K none (fun _ Q => Q none) := ⟨fun δ Q Q' i q => i _ q, po_weak po_none fun σ H Q ⟨Hb, B, O, δ, S, q⟩ => q H (.refl H)⟩
def asI (Q : Int → Prop) : D → Prop
  | .int i => Q i
  | _ => False
theorem asI_mono {Q Q' : Int → Prop} (h : ∀ b, Q b → Q' b) : ∀ d, asI Q d → asI Q' d
  | .int b, q => h b q
  | .non, q | .bl _, q | .str _, q | .tup _, q | .lst _, q | .scr _, q | .dic _ _, q | .ref _, q | .ptp _, q => q.elim
theorem asI_at {Q : Int → Prop} {O : List Addr} {H : Hp} {v : V} : ∀ {d : D}, asI Q d → OAt K O H v d → ∃ b, v = .int b ∧ Q b
  | .int b, q, a => ⟨b, a.int, q⟩
  | .non, q, _ | .bl _, q, _ | .str _, q, _ | .tup _, q, _ | .lst _, q, _ | .scr _, q, _ | .dic _ _, q, _ | .ref _, q, _ | .ptp _, q, _ => q.elim
theorem o_some {x : DX} (h : QD X K e x) : OD X K (some e) (fun δ Q => x δ (asI fun i => Q (some i))) := by
  refine ⟨fun δ Q Q' i q => h.mono δ (asI_mono fun _ => i _) q, po_weak (po_some h.pe) fun σ H Q ⟨Hb, B, O, δ, S, q⟩ => ⟨Hb, B, O, δ, S, h.mono δ (fun d k v H' s a => ?_) q⟩⟩
  obtain ⟨i, rfl, k⟩ := asI_at k a
  exact ⟨i, rfl, k H' s⟩
def cutD {α : Type} (l : List α) (lo hi : Option Int) : List α := (l.drop (HT.sIx l.length 0 lo)).take (HT.sIx l.length l.length hi - HT.sIx l.length 0 lo)
theorem cutD_len {α : Type} (l : List α) (lo hi : Option Int) : (cutD l lo hi).length ≤ l.length := by
  unfold cutD
  rw [List.length_take, List.length_drop]
  omega
theorem cut_at {H : Hp} {vs : List V} {l : List D} (h : AtAll K H vs l) (lo hi : Option Int) : AtAll K H (cutV vs lo hi) (cutD l lo hi) := by
  unfold cutV cutD
  rw [h.len]
  exact (h.drop _).take _
def fSl (Q : List D → Prop) : D → Option Int → Option Int → Prop
  | .lst l, lo, hi => Q (cutD l lo hi)
  | .scr l, lo, hi => Q (cutD l lo hi)
  | _, _, _ => False
theorem fSl_mono {Q Q' : List D → Prop} (i : ∀ x, Q x → Q' x) (d : D) (lo hi : Option Int) (q : fSl Q d lo hi) : fSl Q' d lo hi := by
  unfold fSl at q ⊢
  split at q
  · exact i _ q
  · exact i _ q
  · exact q
theorem f_slice {lo hi : Option Expr} {p2 : Pos} {x : DX} {y z : DO} (ha : QD X K a x) (hl : OD X K lo y) (hh : OD X K hi z) (hK : X.K = K := by rfl) : FD X K (.Subscript a (.Slice lo hi none p2) pos) (fun δ Q => x δ fun d => y δ fun l => z δ fun u => fSl Q d l u) := by
  subst hK
  refine ⟨fun δ Q Q' i q => ha.mono δ (fun d => hl.mono δ fun l => hh.mono δ fun u => fSl_mono i d l u) q, pe_weak (pe_slice sl_list ha.pe hl.po hh.po) fun σ H Q ⟨Hb, B, O, δ, S, q⟩ =>
    ⟨Hb, B, O, δ, S, ha.mono δ (fun d g u H1 s1 au => ⟨Hb, B, O, δ, S.grow s1, hl.mono δ (fun l g H2 s2 => ⟨Hb, B, O, δ, S.grow (s1.trans s2), hh.mono δ (fun h g H3 s3 => ?_) g⟩) g⟩) q⟩⟩
  have au := au.grow (s2.trans s3)
  have s := s1.trans (s2.trans s3)
  unfold fSl at g
  split at g
  · obtain ⟨p, vs, rfl, h1, h2, h3⟩ := au.list
    exact ⟨p, vs, rfl, .inl (.inl h1), fun t n => g t _ _ (s.trans (same_new n)) (s.free n) upd_same (Nat.le_trans (cutD_len _ _ _) h2) ((cut_at h3 _ _).mono (hid_new n (same_new n)))⟩
  · obtain ⟨p, vs, rfl, h1, h2, h3⟩ := au.script
    exact ⟨p, vs, rfl, h1, fun t n => g t _ _ (s.trans (same_new n)) (s.free n) upd_same (Nat.le_trans (cutD_len _ _ _) h2) ((cut_at h3 _ _).mono (hid_new n (same_new n)))⟩
  · exact g.elim
def dSlT (Q : D → Prop) : D → Option Int → Option Int → Prop
  | .tup l, lo, hi => Q (.tup (cutD l lo hi))
  | _, _, _ => False
theorem dSlT_mono {Q Q' : D → Prop} (i : ∀ x, Q x → Q' x) (d : D) (lo hi : Option Int) (q : dSlT Q d lo hi) : dSlT Q' d lo hi := by
  unfold dSlT at q ⊢
  split at q
  · exact i _ q
  · exact q
theorem d_sliceT {lo hi : Option Expr} {p2 : Pos} {x : DX} {y z : DO} (ha : QD X K a x) (hl : OD X K lo y) (hh : OD X K hi z) (hK : X.K = K := by rfl) : PD X K (.Subscript a (.Slice lo hi none p2) pos) (fun δ Q => x δ fun d => y δ fun l => z δ fun u => dSlT Q d l u) := by
  subst hK
  refine ⟨fun δ Q Q' i q => ha.mono δ (fun d => hl.mono δ fun l => hh.mono δ fun u => dSlT_mono i d l u) q, pe_weak (pe_slice sl_tupA ha.pe hl.po hh.po) fun σ H Q ⟨Hb, B, O, δ, S, q⟩ =>
    ⟨Hb, B, O, δ, S, ha.mono δ (fun d g u H1 s1 au => ⟨Hb, B, O, δ, S.grow s1, hl.mono δ (fun l g H2 s2 => ⟨Hb, B, O, δ, S.grow (s1.trans s2), hh.mono δ (fun h g H3 s3 => ?_) g⟩) g⟩) q⟩⟩
  have au := au.grow (s2.trans s3)
  have s := s1.trans (s2.trans s3)
  unfold dSlT at g
  split at g
  · obtain ⟨p, vs, rfl, h1, h2, h3, h4⟩ := au.tuple
    refine ⟨p, vs, rfl, h1, fun w => g _ H3 s ?_, fun w t n => g _ _ (s.trans (same_new n)) (At.newT (fun b hb => live_same (S.live b hb) s) n (Nat.le_trans (cutD_len _ _ _) h2) (cut_at h3 _ _))⟩
    have e : ∀ lst : List D, lst.length = vs.length → cutD lst l h = lst := fun lst hl => by
      unfold cutD
      rw [hl, w.1, w.2, List.drop_zero, Nat.sub_zero, ← hl, List.take_length]
    rw [e _ h3.len.symm]
    exact .tup h4 h2 h3
  · exact g.elim
end
end DL

namespace DL
variable [Tbs]
open PySem L2
section
variable {X : Cx} {K : PySem.W.Frag} {e a b c : Expr} {pos : Pos}
/-! ### chains of two comparisons -/
theorem t_chain {op op' : CmpOp} {o o' : D → D → (D → Prop) → Prop} {x y z : DX} (ho : OpD X K (compareOp op) o) (ho' : OpD X K (compareOp op') o') (ha : QD X K a x) (hb : QD X K b y) (hc : QD X K c z)
    (hm : lastMarks [op, op'] [b, c] = false := by with_unfolding_all rfl) : TD X K (.Compare a [op, op'] [b, c] pos) (tChD o o' x y z) := by
  obtain ⟨r, hr, hi⟩ := ho.ex
  obtain ⟨r', hr', hi'⟩ := ho'.ex
  refine ⟨fun δ Q Q' i q => ha.mono δ (fun d => hb.mono δ fun e => ho.mono d e (asB_mono fun k => ite_mono k (hc.mono δ fun c => ho'.mono e c (asB_mono i)) (i _))) q,
    pt_weak (pt_chain hr hr' ha.pe hb.pe hc.pe hm) fun σ H Q ⟨Hb, B, O, δ, S, q⟩ => ⟨Hb, B, O, δ, S, ha.mono δ (fun d g u H1 s1 au => ⟨Hb, B, O, δ, S.grow s1, hb.mono δ (fun e g v H2 s2 av => ?_) g⟩) q⟩⟩
  refine hi O H2 u v d e _ (fun p hp => live_same (live_same (S.live p hp) s1) s2) (au.grow s2) av (ho.mono d e (fun w k v' H3 s3 a3 => ?_) g)
  obtain ⟨k0, rfl, k⟩ := asB_at k (.at_ a3)
  refine ⟨k0, rfl, ite_mono k0 (fun k => ⟨Hb, B, O, δ, S.grow (s1.trans (s2.trans s3)), hc.mono δ (fun cd g w H4 s4 aw => ?_) k⟩) (fun k => ⟨false, rfl, k H3 (s1.trans (s2.trans s3))⟩) k⟩
  have s := s1.trans (s2.trans (s3.trans s4))
  refine hi' O H4 v w e cd _ (fun p hp => live_same (S.live p hp) s) (av.grow (s3.trans s4)) aw (ho'.mono e cd (fun w k v' H5 s5 a5 => ?_) g)
  obtain ⟨k1, rfl, k⟩ := asB_at k (.at_ a5)
  exact ⟨k1, rfl, k H5 (s.trans s5)⟩
theorem d_chain {op op' : CmpOp} {o o' : D → D → (D → Prop) → Prop} {x y z : DX} (ho : OpD X K (compareOp op) o) (ho' : OpD X K (compareOp op') o') (ha : QD X K a x) (hb : QD X K b y) (hc : QD X K c z)
    (hm : lastMarks [op, op'] [b, c] = false := by with_unfolding_all rfl) : PD X K (.Compare a [op, op'] [b, c] pos) (dChD o o' x y z) := by
  obtain ⟨r, hr, hi⟩ := ho.ex
  obtain ⟨r', hr', hi'⟩ := ho'.ex
  refine ⟨fun δ Q Q' i q => ha.mono δ (fun d => hb.mono δ fun e => ho.mono d e (asB_mono fun k => ite_mono k (hc.mono δ fun c => ho'.mono e c (asB_mono fun _ => i _)) (i _))) q,
    pe_weak (pe_chain hr hr' ha.pe hb.pe hc.pe hm) fun σ H Q ⟨Hb, B, O, δ, S, q⟩ => ⟨Hb, B, O, δ, S, ha.mono δ (fun d g u H1 s1 au => ⟨Hb, B, O, δ, S.grow s1, hb.mono δ (fun e g v H2 s2 av => ?_) g⟩) q⟩⟩
  refine hi O H2 u v d e _ (fun p hp => live_same (live_same (S.live p hp) s1) s2) (au.grow s2) av (ho.mono d e (fun w k v' H3 s3 a3 => ?_) g)
  obtain ⟨k0, rfl, k⟩ := asB_at k (.at_ a3)
  refine ⟨k0, rfl, ite_mono k0 (fun k => ⟨Hb, B, O, δ, S.grow (s1.trans (s2.trans s3)), hc.mono δ (fun cd g w H4 s4 aw => ?_) k⟩) (fun k => k _ H3 (s1.trans (s2.trans s3)) (.bl _)) k⟩
  have s := s1.trans (s2.trans (s3.trans s4))
  refine hi' O H4 v w e cd _ (fun p hp => live_same (S.live p hp) s) (av.grow (s3.trans s4)) aw (ho'.mono e cd (fun w k v' H5 s5 a5 => ?_) g)
  obtain ⟨k1, rfl, k⟩ := asB_at k (.at_ a5)
  exact k _ H5 (s.trans s5) (.bl _)
/-! ### calls of built-in functions -/
structure CaD (X : Cx) (K : PySem.W.Frag) (f : Value) (o : List D → (D → Prop) → Prop) : Prop where
  mono : ∀ ds {Q Q' : D → Prop}, (∀ d, Q d → Q' d) → o ds Q → o ds Q'
  ex : ∃ r, CallR X f r ∧ ∀ O H vs ds Q, (∀ p ∈ O, H p ≠ none) → OAll K O H vs ds → (o ds fun d => ∀ v H', Same H H' → At K (hid O H') v d → Q v H') → r vs H Q
structure CaF (X : Cx) (K : PySem.W.Frag) (f : Value) (o : List D → (List D → Prop) → Prop) : Prop where
  mono : ∀ ds {Q Q' : List D → Prop}, (∀ d, Q d → Q' d) → o ds Q → o ds Q'
  ex : ∃ r, CallR X f r ∧ ∀ O H vs ds Q, (∀ p ∈ O, H p ≠ none) → OAll K O H vs ds →
    (o ds fun l => ∀ p vs H', Same H H' → H p = none → H' p = some (.lst vs) → l.length ≤ LIM → AtAll K (hid (p :: O) H') vs l → Q (.ref p) H') → r vs H Q
def dCa (o : List D → (D → Prop) → Prop) (xs : List DX) : DX := fun δ Q => dArgs xs δ fun ds => o ds Q
def fCa (o : List D → (List D → Prop) → Prop) (xs : List DX) : DAs := fun δ Q => dArgs xs δ fun ds => o ds Q
theorem d_callB {o : List D → (D → Prop) → Prop} {x : Str} {id : String} {p : Pos} {es : List Expr} {xs : List DX} (ho : CaD X K (.builtin id) o) (hm : X.mg x = none) (ha : BD X K (e :: es) xs) (hg : Gl X x := by rfl) (hv : bootBuiltins x = some (.builtin id) := by decide +kernel) (hn : x ≠ "__name__" := by decide) (hdb : (x == ("__debug__" : Str)) = false := by decide)
    (he : starEach (e :: es) X.env = (false, eval e X.env) :: starEach es X.env := by rfl) (hpl : (backTo pos (starEach es X.env)).any (·.1) = false := by rfl) : PD X K (.Call (.Name x p) (e :: es) [] pos) (dCa o xs) := by
  obtain ⟨r, hr, hi⟩ := ho.ex
  refine ⟨fun δ Q Q' i q => ha.mono δ (fun ds => ho.mono ds i) q, pe_weak (pe_callB hr hg hm hv ha.pa hn hdb he hpl) fun σ H Q ⟨Hb, B, O, δ, S, q⟩ => ⟨Hb, B, O, δ, S, ha.mono δ (fun ds g vs H1 s1 as => ?_) q⟩⟩
  exact hi O H1 vs ds Q (fun p hp => live_same (S.live p hp) s1) as (ho.mono ds (fun d k v H' s a => k v H' (s1.trans s) a) g)
theorem d_callT {o : List D → (D → Prop) → Prop} {x : Str} {T : String} {p : Pos} {es : List Expr} {xs : List DX} (ho : CaD X K (.type T) o) (hm : X.mg x = none) (ha : BD X K (e :: es) xs) (hg : Gl X x := by rfl) (hv : bootBuiltins x = some (.type T) := by decide +kernel) (hn : x ≠ "__name__" := by decide) (hdb : (x == ("__debug__" : Str)) = false := by decide)
    (he : starEach (e :: es) X.env = (false, eval e X.env) :: starEach es X.env := by rfl) (hpl : (backTo pos (starEach es X.env)).any (·.1) = false := by rfl) : PD X K (.Call (.Name x p) (e :: es) [] pos) (dCa o xs) := by
  obtain ⟨r, hr, hi⟩ := ho.ex
  refine ⟨fun δ Q Q' i q => ha.mono δ (fun ds => ho.mono ds i) q, pe_weak (pe_callTy hr hg hm hv ha.pa hn hdb he hpl) fun σ H Q ⟨Hb, B, O, δ, S, q⟩ => ⟨Hb, B, O, δ, S, ha.mono δ (fun ds g vs H1 s1 as => ?_) q⟩⟩
  exact hi O H1 vs ds Q (fun p hp => live_same (S.live p hp) s1) as (ho.mono ds (fun d k v H' s a => k v H' (s1.trans s) a) g)
theorem f_callB {o : List D → (List D → Prop) → Prop} {x : Str} {id : String} {p : Pos} {es : List Expr} {xs : List DX} (ho : CaF X K (.builtin id) o) (hm : X.mg x = none) (ha : BD X K (e :: es) xs) (hg : Gl X x := by rfl) (hv : bootBuiltins x = some (.builtin id) := by decide +kernel) (hn : x ≠ "__name__" := by decide) (hdb : (x == ("__debug__" : Str)) = false := by decide)
    (he : starEach (e :: es) X.env = (false, eval e X.env) :: starEach es X.env := by rfl) (hpl : (backTo pos (starEach es X.env)).any (·.1) = false := by rfl) : FD X K (.Call (.Name x p) (e :: es) [] pos) (fCa o xs) := by
  obtain ⟨r, hr, hi⟩ := ho.ex
  refine ⟨fun δ Q Q' i q => ha.mono δ (fun ds => ho.mono ds i) q, pe_weak (pe_callB hr hg hm hv ha.pa hn hdb he hpl) fun σ H Q ⟨Hb, B, O, δ, S, q⟩ => ⟨Hb, B, O, δ, S, ha.mono δ (fun ds g vs H1 s1 as => ?_) q⟩⟩
  exact hi O H1 vs ds Q (fun p hp => live_same (S.live p hp) s1) as (ho.mono ds (fun l k p vs H' s n hp hl a => k p vs H' (s1.trans s) (s1.free n) hp hl a) g)
theorem f_callT {o : List D → (List D → Prop) → Prop} {x : Str} {T : String} {p : Pos} {es : List Expr} {xs : List DX} (ho : CaF X K (.type T) o) (hm : X.mg x = none) (ha : BD X K (e :: es) xs) (hg : Gl X x := by rfl) (hv : bootBuiltins x = some (.type T) := by decide +kernel) (hn : x ≠ "__name__" := by decide) (hdb : (x == ("__debug__" : Str)) = false := by decide)
    (he : starEach (e :: es) X.env = (false, eval e X.env) :: starEach es X.env := by rfl) (hpl : (backTo pos (starEach es X.env)).any (·.1) = false := by rfl) : FD X K (.Call (.Name x p) (e :: es) [] pos) (fCa o xs) := by
  obtain ⟨r, hr, hi⟩ := ho.ex
  refine ⟨fun δ Q Q' i q => ha.mono δ (fun ds => ho.mono ds i) q, pe_weak (pe_callTy hr hg hm hv ha.pa hn hdb he hpl) fun σ H Q ⟨Hb, B, O, δ, S, q⟩ => ⟨Hb, B, O, δ, S, ha.mono δ (fun ds g vs H1 s1 as => ?_) q⟩⟩
  exact hi O H1 vs ds Q (fun p hp => live_same (S.live p hp) s1) as (ho.mono ds (fun l k p vs H' s n hp hl a => k p vs H' (s1.trans s) (s1.free n) hp hl a) g)
theorem OAll.one {O : List Addr} {H : Hp} {vs : List V} {d : D} (h : OAll K O H vs [d]) : ∃ v, vs = [v] ∧ OAt K O H v d := by
  cases h with
  | cons a r => cases r; exact ⟨_, rfl, a⟩
theorem OAll.two {O : List Addr} {H : Hp} {vs : List V} {d d' : D} (h : OAll K O H vs [d, d']) : ∃ v v', vs = [v, v'] ∧ OAt K O H v d ∧ OAt K O H v' d' := by
  cases h with
  | cons a r => cases r with
    | cons b r => cases r; exact ⟨_, _, rfl, a, b⟩
/-- of one thing -/
def o1 (g : D → (D → Prop) → Prop) : List D → (D → Prop) → Prop
  | [d], Q => g d Q
  | _, _ => False
theorem ca1 {f : Value} {g : D → (D → Prop) → Prop} {r : List V → Hp → VK → Prop} (hr : CallR X f r) (hm : ∀ d {Q Q' : D → Prop}, (∀ d, Q d → Q' d) → g d Q → g d Q')
    (hi : ∀ O H v d Q, (∀ p ∈ O, H p ≠ none) → OAt K O H v d → (g d fun d => ∀ v H', Same H H' → At K (hid O H') v d → Q v H') → r [v] H Q) : CaD X K f (o1 g) := by
  refine ⟨fun ds Q Q' i q => ?_, r, hr, fun O H vs ds Q l as q => ?_⟩
  · unfold o1 at q ⊢
    split at q
    · exact hm _ i q
    · exact q
  · unfold o1 at q
    split at q
    · obtain ⟨v, rfl, a⟩ := as.one
      exact hi O H v _ Q l a q
    · exact q.elim
def o1F (g : D → (List D → Prop) → Prop) : List D → (List D → Prop) → Prop
  | [d], Q => g d Q
  | _, _ => False
theorem ca1F {f : Value} {g : D → (List D → Prop) → Prop} {r : List V → Hp → VK → Prop} (hr : CallR X f r) (hm : ∀ d {Q Q' : List D → Prop}, (∀ d, Q d → Q' d) → g d Q → g d Q')
    (hi : ∀ O H v d Q, (∀ p ∈ O, H p ≠ none) → OAt K O H v d → (g d fun l => ∀ p vs H', Same H H' → H p = none → H' p = some (.lst vs) → l.length ≤ LIM → AtAll K (hid (p :: O) H') vs l → Q (.ref p) H') → r [v] H Q) : CaF X K f (o1F g) := by
  refine ⟨fun ds Q Q' i q => ?_, r, hr, fun O H vs ds Q l as q => ?_⟩
  · unfold o1F at q ⊢
    split at q
    · exact hm _ i q
    · exact q
  · unfold o1F at q
    split at q
    · obtain ⟨v, rfl, a⟩ := as.one
      exact hi O H v _ Q l a q
    · exact q.elim
/-- len -/
def gLen : D → (D → Prop) → Prop
  | .lst l, Q | .tup l, Q | .scr l, Q => Q (.int l.length)
  | .str z, Q => z.length ≤ LIM ∧ Q (.int z.length)
  | _, _ => False
theorem c_len (hK : X.K = K := by rfl) : CaD X K (.builtin "len") (o1 gLen) := by
  subst hK
  refine ca1 (callR_or call_len_seq call_len_str) (fun d Q Q' i q => ?_) fun O H v d Q l a q => ?_
  · unfold gLen at q ⊢
    split at q
    · exact i _ q
    · exact i _ q
    · exact i _ q
    · exact ⟨q.1, i _ q.2⟩
    · exact q
  · unfold gLen at q
    split at q
    · obtain ⟨p, vs, rfl, h1, h2, h3⟩ := a.list
      exact .inl ⟨p, vs, rfl, .inl (.inl (.inl h1)), by rw [h3.len]; exact q _ H (.refl H) (.int _)⟩
    · obtain ⟨p, vs, rfl, h1, h2, h3, _⟩ := a.tuple
      exact .inl ⟨p, vs, rfl, .inr h1, by rw [h3.len]; exact q _ H (.refl H) (.int _)⟩
    · obtain ⟨p, vs, rfl, h1, h2, h3⟩ := a.script
      exact .inl ⟨p, vs, rfl, .inl h1, by rw [h3.len]; exact q _ H (.refl H) (.int _)⟩
    · rw [a.str]
      exact .inr ⟨_, rfl, lim_sz q.1, q.2 _ H (.refl H) (.int _)⟩
    · exact q.elim
/-- abs -/
def gI (g : Int → D) : D → (D → Prop) → Prop
  | .int i, Q => Q (g i)
  | _, _ => False
theorem gI_mono {g : Int → D} (d : D) {Q Q' : D → Prop} (i : ∀ d, Q d → Q' d) (q : gI g d Q) : gI g d Q' := by
  unfold gI at q ⊢
  split at q
  · exact i _ q
  · exact q
abbrev gAbs := gI fun i => .int (if i < 0 then -i else i)
theorem c_abs : CaD X K (.builtin "abs") (o1 gAbs) := by
  refine ca1 call_abs (fun d => gI_mono d) fun O H v d Q l a q => ?_
  unfold gAbs gI at q
  split at q
  · exact ⟨_, by rw [a.int], q _ H (.refl H) (.int _)⟩
  · exact q.elim
/-- int of an int, of a bool -/
def gInt : D → (D → Prop) → Prop
  | .int i, Q => Q (.int i)
  | .bl k, Q => Q (.int (if k then 1 else 0))
  | _, _ => False
theorem c_int : CaD X K (.type "int") (o1 gInt) := by
  refine ca1 call_int1 (fun d Q Q' i q => ?_) fun O H v d Q l a q => ?_
  · unfold gInt at q ⊢
    split at q
    · exact i _ q
    · exact i _ q
    · exact q
  · unfold gInt at q
    split at q
    · exact .inl ⟨_, by rw [a.int], q _ H (.refl H) (.int _)⟩
    · exact .inr ⟨_, by rw [a.bl], q _ H (.refl H) (.int _)⟩
    · exact q.elim
/-- sum, any, all of a list -/
def gSum : D → (D → Prop) → Prop
  | .lst l, Q => ∃ ns : List Int, l = ns.map D.int ∧ Q (.int ns.sum)
  | _, _ => False
theorem c_sum (hc : X.calm = true := by rfl) (hK : X.K = K := by rfl) : CaD X K (.builtin "sum") (o1 gSum) := by
  subst hK
  refine ca1 (cr_sum hc) (fun d Q Q' i q => ?_) fun O H v d Q l a q => ?_
  · unfold gSum at q ⊢
    split at q
    · obtain ⟨ns, h, q⟩ := q; exact ⟨ns, h, i _ q⟩
    · exact q
  · unfold gSum at q
    split at q
    · obtain ⟨ns, rfl, q⟩ := q
      obtain ⟨p, vs, rfl, h1, h2, h3⟩ := a.list
      obtain rfl := h3.ints_of
      exact ⟨p, ns, rfl, .inl (.inl h1), q _ H (.refl H) (.int _)⟩
    · exact q.elim
def gAny (f : List Bool → Bool) : D → (D → Prop) → Prop
  | .lst l, Q => ∃ ns : List Bool, l = ns.map D.bl ∧ Q (.bl (f ns))
  | _, _ => False
theorem gAny_mono {f : List Bool → Bool} (d : D) {Q Q' : D → Prop} (i : ∀ d, Q d → Q' d) (q : gAny f d Q) : gAny f d Q' := by
  unfold gAny at q ⊢
  split at q
  · obtain ⟨ns, h, q⟩ := q; exact ⟨ns, h, i _ q⟩
  · exact q
theorem c_any (hc : X.calm = true := by rfl) (hK : X.K = K := by rfl) : CaD X K (.builtin "any") (o1 (gAny fun bs => bs.any id)) := by
  subst hK
  refine ca1 (cr_any hc) (fun d => gAny_mono d) fun O H v d Q l a q => ?_
  unfold gAny at q
  split at q
  · obtain ⟨ns, rfl, q⟩ := q
    obtain ⟨p, vs, rfl, h1, h2, h3⟩ := a.list
    obtain rfl := h3.bls_of
    exact ⟨p, ns, rfl, .inl (.inl h1), q _ H (.refl H) (.bl _)⟩
  · exact q.elim
theorem c_all (hc : X.calm = true := by rfl) (hK : X.K = K := by rfl) : CaD X K (.builtin "all") (o1 (gAny fun bs => bs.all id)) := by
  subst hK
  refine ca1 (cr_all hc) (fun d => gAny_mono d) fun O H v d Q l a q => ?_
  unfold gAny at q
  split at q
  · obtain ⟨ns, rfl, q⟩ := q
    obtain ⟨p, vs, rfl, h1, h2, h3⟩ := a.list
    obtain rfl := h3.bls_of
    exact ⟨p, ns, rfl, .inl (.inl h1), q _ H (.refl H) (.bl _)⟩
  · exact q.elim
/-- max, min of two; of a list -/
def o2I (g : Int → Int → D) : List D → (D → Prop) → Prop
  | [.int i, .int j], Q => Q (g i j)
  | _, _ => False
theorem ca2 {f : Value} {g : Int → Int → Int} {r : List V → Hp → VK → Prop} (hr : CallR X f r) (hi : ∀ i j H Q, Q (.int (g i j)) H → r [.int i, .int j] H Q) : CaD X K f (o2I fun i j => .int (g i j)) := by
  refine ⟨fun ds Q Q' i q => ?_, r, hr, fun O H vs ds Q l as q => ?_⟩
  · unfold o2I at q ⊢
    split at q
    · exact i _ q
    · exact q
  · unfold o2I at q
    split at q
    · obtain ⟨v, w, rfl, a, b⟩ := as.two
      rw [a.int, b.int]
      exact hi _ _ H Q (q _ H (.refl H) (.int _))
    · exact q.elim
theorem c_max2 (hc : X.calm = true := by rfl) : CaD X K (.builtin "max") (o2I fun i j => .int (if j > i then j else i)) := ca2 (call_max2 hc) fun i j H Q q => ⟨i, j, rfl, q⟩
theorem c_min2 (hc : X.calm = true := by rfl) : CaD X K (.builtin "min") (o2I fun i j => .int (if j < i then j else i)) := ca2 (call_min2 hc) fun i j H Q q => ⟨i, j, rfl, q⟩
def gMost (R : Int → Int → Prop) : D → (D → Prop) → Prop
  | .lst l, Q => ∃ ns : List Int, l = ns.map D.int ∧ 0 < ns.length ∧ ∀ m, m ∈ ns → (∀ y, y ∈ ns → R m y) → Q (.int m)
  | _, _ => False
theorem gMost_mono {R : Int → Int → Prop} (d : D) {Q Q' : D → Prop} (i : ∀ d, Q d → Q' d) (q : gMost R d Q) : gMost R d Q' := by
  unfold gMost at q ⊢
  split at q
  · obtain ⟨ns, h, h2, q⟩ := q; exact ⟨ns, h, h2, fun m a b => i _ (q m a b)⟩
  · exact q
theorem c_max (hc : X.calm = true := by rfl) (hK : X.K = K := by rfl) : CaD X K (.builtin "max") (o1 (gMost fun m y => y ≤ m)) := by
  subst hK
  refine ca1 (cr_max hc) (fun d => gMost_mono d) fun O H v d Q l a q => ?_
  unfold gMost at q
  split at q
  · obtain ⟨ns, rfl, h0, q⟩ := q
    obtain ⟨p, vs, rfl, h1, h2, h3⟩ := a.list
    obtain rfl := h3.ints_of
    exact ⟨p, ns, rfl, .inl (.inl h1), h0, fun m a b => q m a b _ H (.refl H) (.int _)⟩
  · exact q.elim
theorem c_min (hc : X.calm = true := by rfl) (hK : X.K = K := by rfl) : CaD X K (.builtin "min") (o1 (gMost fun m y => m ≤ y)) := by
  subst hK
  refine ca1 (cr_min hc) (fun d => gMost_mono d) fun O H v d Q l a q => ?_
  unfold gMost at q
  split at q
  · obtain ⟨ns, rfl, h0, q⟩ := q
    obtain ⟨p, vs, rfl, h1, h2, h3⟩ := a.list
    obtain rfl := h3.ints_of
    exact ⟨p, ns, rfl, .inl (.inl h1), h0, fun m a b => q m a b _ H (.refl H) (.int _)⟩
  · exact q.elim
/-- sorted of ints -/
def gSort : D → (List D → Prop) → Prop
  | .lst l, Q => ∃ ns : List Int, l = ns.map D.int ∧ ∀ ns' : List Int, ns'.Perm ns → ns'.Pairwise (· ≤ ·) → Q (ns'.map D.int)
  | _, _ => False
theorem c_sorted (hK : X.K = K := by rfl) : CaF X K (.builtin "sorted") (o1F gSort) := by
  subst hK
  refine ca1F cr_sortedI (fun d Q Q' i q => ?_) fun O H v d Q l a q => ?_
  · unfold gSort at q ⊢
    split at q
    · obtain ⟨ns, h, q⟩ := q; exact ⟨ns, h, fun m a b => i _ (q m a b)⟩
    · exact q
  · unfold gSort at q
    split at q
    · obtain ⟨ns, rfl, q⟩ := q
      obtain ⟨p, vs, rfl, h1, h2, h3⟩ := a.list
      obtain rfl := h3.ints_of
      refine ⟨p, ns, rfl, .inl (.inl h1), fun ns' t pm pw n => q ns' pm pw t _ _ (same_new n) n upd_same ?_ (.ints _)⟩
      rw [List.length_map] at h2 ⊢
      rw [pm.length_eq]; exact h2
    · exact q.elim
/-- list(xs) -/
def gList : D → (List D → Prop) → Prop
  | .lst l, Q | .tup l, Q | .scr l, Q => Q l
  | _, _ => False
theorem c_list (hK : X.K = K := by rfl) : CaF X K (.type "list") (o1F gList) := by
  subst hK
  refine ca1F call_list_of (fun d Q Q' i q => ?_) fun O H v d Q l a q => ?_
  · unfold gList at q ⊢
    split at q
    · exact i _ q
    · exact i _ q
    · exact i _ q
    · exact q
  · unfold gList at q
    split at q
    · obtain ⟨p, vs, rfl, h1, h2, h3⟩ := a.list
      exact ⟨p, vs, rfl, .inl (.inl (.inl h1)), fun t n => q t _ _ (same_new n) n upd_same h2 (h3.mono (hid_new n (same_new n)))⟩
    · obtain ⟨p, vs, rfl, h1, h2, h3, _⟩ := a.tuple
      exact ⟨p, vs, rfl, .inr h1, fun t n => q t _ _ (same_new n) n upd_same h2 (h3.mono (hid_new n (same_new n)))⟩
    · obtain ⟨p, vs, rfl, h1, h2, h3⟩ := a.script
      exact ⟨p, vs, rfl, .inl h1, fun t n => q t _ _ (same_new n) n upd_same h2 (h3.mono (hid_new n (same_new n)))⟩
    · exact q.elim
/-- tuple(xs) -/
def gTuple : D → (D → Prop) → Prop
  | .lst l, Q | .tup l, Q | .scr l, Q => Q (.tup l)
  | _, _ => False
theorem c_tuple (hK : X.K = K := by rfl) : CaD X K (.type "tuple") (o1 gTuple) := by
  subst hK
  refine ca1 call_tuple_of (fun d Q Q' i q => ?_) fun O H v d Q l a q => ?_
  · unfold gTuple at q ⊢
    split at q
    · exact i _ q
    · exact i _ q
    · exact i _ q
    · exact q
  · unfold gTuple at q
    split at q
    · obtain ⟨p, vs, rfl, h1, h2, h3⟩ := a.list
      exact ⟨p, vs, rfl, .inl ⟨.inl (.inl h1), fun t n => q _ _ (same_new n) (At.newT l n h2 h3)⟩⟩
    · obtain ⟨p, vs, rfl, h1, h2, h3, h4⟩ := a.tuple
      exact ⟨p, vs, rfl, .inr ⟨h1, q _ H (.refl H) (.tup h4 h2 h3)⟩⟩
    · obtain ⟨p, vs, rfl, h1, h2, h3⟩ := a.script
      exact ⟨p, vs, rfl, .inl ⟨h1, fun t n => q _ _ (same_new n) (At.newT l n h2 h3)⟩⟩
    · exact q.elim
/-! ### isinstance -/
def tyN : D → String
  | .non => "NoneType"
  | .bl _ => "bool"
  | .int _ => "int"
  | .str _ => "str"
  | .tup _ => "tuple"
  | .ptp _ => "tuple"
  | .lst _ | .scr _ => "list"
  | .dic _ _ => "dict"
  | .ref _ => ""
def notRef : D → Bool
  | .ref _ => false
  | _ => true
theorem OAt.ty {O : List Addr} {H : Hp} {v : V} {d : D} (h : OAt K O H v d) (n : notRef d = true) : TyX K H v (.type (tyN d)) := by
  cases d with
  | non => rw [h.non]; exact .base .non
  | bl b => rw [h.bl]; exact .base (.bl b)
  | int i => rw [h.int]; exact .base (.int i)
  | str z => rw [h.str]; exact .base (.str z)
  | lst l => obtain ⟨p, vs, rfl, h1, _⟩ := h.list; exact .base (.lst h1)
  | tup l =>
    obtain ⟨p, vs, rfl, h1, _⟩ := h.tuple
    rcases h1 with (h1 | ⟨o, h1⟩) | ⟨o, its, n, h1, h2, _⟩
    · exact .base (.tup h1)
    · exact .fTuple h1
    · exact .kTuple h1 h2
  | ptp l =>
    obtain ⟨p, vs, rfl, h1, _⟩ := h.tupOf.tuple
    rcases h1 with (h1 | ⟨o, h1⟩) | ⟨o, its, n, h1, h2, _⟩
    · exact .base (.tup h1)
    · exact .fTuple h1
    · exact .kTuple h1 h2
  | scr l =>
    obtain ⟨p, vs, rfl, h1, _⟩ := h.script
    rcases h1 with (h1 | ⟨o, h1⟩) | ⟨o, its, n, h1, h2, _⟩
    · exact .base (.lst h1)
    · exact .base (.frz h1)
    · exact .kList h1 h2
  | dic ks l =>
    obtain ⟨p, vs, rfl, h1, _⟩ := h.dict
    rcases h1 with h1 | ⟨o, h1⟩
    · exact .base (.dK h1)
    · exact .fDict h1
  | ref a => cases n
structure Kind (K : PySem.W.Frag) (T : String) (p : D → Bool) : Prop where
  is : ∀ d, notRef d = true → PySem.W.kitOne K (.type (tyN d)) (.type T) = some (p d)
def isInt : D → Bool
  | .int _ | .bl _ => true
  | _ => false
def isBl : D → Bool
  | .bl _ => true
  | _ => false
def isLst : D → Bool
  | .lst _ | .scr _ => true
  | _ => false
def isTup : D → Bool
  | .tup _ => true
  | .ptp _ => true
  | _ => false
def isStr : D → Bool
  | .str _ => true
  | _ => false
def isDic : D → Bool
  | .dic _ _ => true
  | _ => false
theorem k_int : Kind K "int" isInt := ⟨fun d h => by
  cases d with
  | ref a => cases h
  | non => exact kit_ty (a := "NoneType") (show kitB "NoneType" "int" = some false by decide +kernel)
  | bl b => exact kit_ty (a := "bool") (show kitB "bool" "int" = some true by decide +kernel)
  | int i => exact kit_ty (a := "int") (show kitB "int" "int" = some true by decide +kernel)
  | str z => exact kit_ty (a := "str") (show kitB "str" "int" = some false by decide +kernel)
  | tup l => exact kit_ty (a := "tuple") (show kitB "tuple" "int" = some false by decide +kernel)
  | ptp l => exact kit_ty (a := "tuple") (show kitB "tuple" "int" = some false by decide +kernel)
  | lst l => exact kit_ty (a := "list") (show kitB "list" "int" = some false by decide +kernel)
  | scr l => exact kit_ty (a := "list") (show kitB "list" "int" = some false by decide +kernel)
  | dic ks l => exact kit_ty (a := "dict") (show kitB "dict" "int" = some false by decide +kernel)⟩
theorem k_bool : Kind K "bool" isBl := ⟨fun d h => by
  cases d with
  | ref a => cases h
  | non => exact kit_ty (a := "NoneType") (show kitB "NoneType" "bool" = some false by decide +kernel)
  | bl b => exact kit_ty (a := "bool") (show kitB "bool" "bool" = some true by decide +kernel)
  | int i => exact kit_ty (a := "int") (show kitB "int" "bool" = some false by decide +kernel)
  | str z => exact kit_ty (a := "str") (show kitB "str" "bool" = some false by decide +kernel)
  | tup l => exact kit_ty (a := "tuple") (show kitB "tuple" "bool" = some false by decide +kernel)
  | ptp l => exact kit_ty (a := "tuple") (show kitB "tuple" "bool" = some false by decide +kernel)
  | lst l => exact kit_ty (a := "list") (show kitB "list" "bool" = some false by decide +kernel)
  | scr l => exact kit_ty (a := "list") (show kitB "list" "bool" = some false by decide +kernel)
  | dic ks l => exact kit_ty (a := "dict") (show kitB "dict" "bool" = some false by decide +kernel)⟩
theorem k_list : Kind K "list" isLst := ⟨fun d h => by
  cases d with
  | ref a => cases h
  | non => exact kit_ty (a := "NoneType") (show kitB "NoneType" "list" = some false by decide +kernel)
  | bl b => exact kit_ty (a := "bool") (show kitB "bool" "list" = some false by decide +kernel)
  | int i => exact kit_ty (a := "int") (show kitB "int" "list" = some false by decide +kernel)
  | str z => exact kit_ty (a := "str") (show kitB "str" "list" = some false by decide +kernel)
  | tup l => exact kit_ty (a := "tuple") (show kitB "tuple" "list" = some false by decide +kernel)
  | ptp l => exact kit_ty (a := "tuple") (show kitB "tuple" "list" = some false by decide +kernel)
  | lst l => exact kit_ty (a := "list") (show kitB "list" "list" = some true by decide +kernel)
  | scr l => exact kit_ty (a := "list") (show kitB "list" "list" = some true by decide +kernel)
  | dic ks l => exact kit_ty (a := "dict") (show kitB "dict" "list" = some false by decide +kernel)⟩
theorem k_tuple : Kind K "tuple" isTup := ⟨fun d h => by
  cases d with
  | ref a => cases h
  | non => exact kit_ty (a := "NoneType") (show kitB "NoneType" "tuple" = some false by decide +kernel)
  | bl b => exact kit_ty (a := "bool") (show kitB "bool" "tuple" = some false by decide +kernel)
  | int i => exact kit_ty (a := "int") (show kitB "int" "tuple" = some false by decide +kernel)
  | str z => exact kit_ty (a := "str") (show kitB "str" "tuple" = some false by decide +kernel)
  | tup l => exact kit_ty (a := "tuple") (show kitB "tuple" "tuple" = some true by decide +kernel)
  | ptp l => exact kit_ty (a := "tuple") (show kitB "tuple" "tuple" = some true by decide +kernel)
  | lst l => exact kit_ty (a := "list") (show kitB "list" "tuple" = some false by decide +kernel)
  | scr l => exact kit_ty (a := "list") (show kitB "list" "tuple" = some false by decide +kernel)
  | dic ks l => exact kit_ty (a := "dict") (show kitB "dict" "tuple" = some false by decide +kernel)⟩
theorem k_str : Kind K "str" isStr := ⟨fun d h => by
  cases d with
  | ref a => cases h
  | non => exact kit_ty (a := "NoneType") (show kitB "NoneType" "str" = some false by decide +kernel)
  | bl b => exact kit_ty (a := "bool") (show kitB "bool" "str" = some false by decide +kernel)
  | int i => exact kit_ty (a := "int") (show kitB "int" "str" = some false by decide +kernel)
  | str z => exact kit_ty (a := "str") (show kitB "str" "str" = some true by decide +kernel)
  | tup l => exact kit_ty (a := "tuple") (show kitB "tuple" "str" = some false by decide +kernel)
  | ptp l => exact kit_ty (a := "tuple") (show kitB "tuple" "str" = some false by decide +kernel)
  | lst l => exact kit_ty (a := "list") (show kitB "list" "str" = some false by decide +kernel)
  | scr l => exact kit_ty (a := "list") (show kitB "list" "str" = some false by decide +kernel)
  | dic ks l => exact kit_ty (a := "dict") (show kitB "dict" "str" = some false by decide +kernel)⟩
theorem k_dict : Kind K "dict" isDic := ⟨fun d h => by
  cases d with
  | ref a => cases h
  | non => exact kit_ty (a := "NoneType") (show kitB "NoneType" "dict" = some false by decide +kernel)
  | bl b => exact kit_ty (a := "bool") (show kitB "bool" "dict" = some false by decide +kernel)
  | int i => exact kit_ty (a := "int") (show kitB "int" "dict" = some false by decide +kernel)
  | str z => exact kit_ty (a := "str") (show kitB "str" "dict" = some false by decide +kernel)
  | tup l => exact kit_ty (a := "tuple") (show kitB "tuple" "dict" = some false by decide +kernel)
  | ptp l => exact kit_ty (a := "tuple") (show kitB "tuple" "dict" = some false by decide +kernel)
  | lst l => exact kit_ty (a := "list") (show kitB "list" "dict" = some false by decide +kernel)
  | scr l => exact kit_ty (a := "list") (show kitB "list" "dict" = some false by decide +kernel)
  | dic ks l => exact kit_ty (a := "dict") (show kitB "dict" "dict" = some true by decide +kernel)⟩
def dIsi (p : D → Bool) (x : DX) : DX := fun δ Q => x δ fun d => notRef d = true ∧ Q (.bl (p d))
theorem d_isi {T : String} {x : Str} {p : D → Bool} {y : DX} {p1 p2 pos : Pos} (k : Kind K T p) (hm : X.mg "isinstance" = none) (hT : X.mg x = none) (ha : QD X K e y) (hK : X.K = K := by rfl) (hv : bootBuiltins x = some (.type T) := by decide +kernel)
    (hg : Gl X "isinstance" := by rfl) (hgT : Gl X x := by rfl) (hn : x ≠ "__name__" := by decide) (hd : (x == ("__debug__" : Str)) = false := by decide)
    (he : starEach [e, .Name x p2] X.env = (false, eval e X.env) :: starEach [.Name x p2] X.env := by rfl) (hpl : (backTo pos (starEach [.Name x p2] X.env)).any (·.1) = false := by rfl) (hs : starEach [.Name x p2] X.env = (false, eval (.Name x p2) X.env) :: starEach [] X.env := by rfl) :
    PD X K (.Call (.Name "isinstance" p1) [e, .Name x p2] [] pos) (dIsi p y) := by
  subst hK
  refine ⟨fun δ Q Q' i q => ha.mono δ (fun d q => ⟨q.1, i _ q.2⟩) q, pe_weak (pe_callB call_isi hg hm (by decide +kernel) (pa_cons ha.pe (pa_cons (pe_bltn (v := .ty T) hgT hT hv rfl hn hd) pa_nil hs) he) (he := he) (hpl := hpl)) fun σ H Q ⟨Hb, B, O, δ, S, q⟩ => ⟨Hb, B, O, δ, S, ha.mono δ (fun d g v H1 s1 a => ?_) q⟩⟩
  exact ⟨v, .ty T, _, _, p d, rfl, .ty T, a.ty g.1, k.is d g.1, g.2 _ H1 s1 (.bl _)⟩
end
end DL

namespace DL
variable [Tbs]
open PySem PySem.Spec PySem.Calls PyProof.Rows L2
/-! # calls counted one by one: a call takes one level of the limit of recursion, not three -/
structure Ro (k : Nat) (A : Around) : Prop where
  hd : A.handled = none
  dp : A.depth + k + 20 < recursionLimit
  un : A.units + 8 * k + 400 < cLine
theorem Ro.mono {j k : Nat} {A : Around} (r : Ro k A) (h : j ≤ k) : Ro j A := ⟨r.hd, by have := r.dp; omega, by have := r.un; omega⟩
theorem Ro.inner {k : Nat} {A : Around} (r : Ro (k + 1) A) (env : Env) : Ro k (A.deeper env) :=
  ⟨r.hd, by have := r.dp; show A.depth + 1 + k + 20 < _; omega, by have := r.un; show A.units + 3 + 8 * k + 400 < _; omega⟩
theorem ro_of {j k : Nat} {A : Around} (r : Room k A) (h1 : j + 15 ≤ 3 * k) (h2 : j + 25 ≤ 2 * k) : Ro j A := ⟨r.hd, by have := r.dp; omega, by have := r.un; omega⟩
structure FnG (P : Program) (w : World) (K : PySem.W.Frag) (mg : Str → Option Value) (base : Heap) (CX : CXT) (k : Nat) (f : Addr) (fd : FuncData) (ps : List Str) (sp : Sp) : Prop where
  len : ∀ vs H Q E, sp vs H Q E → vs.length = ps.length
  go : ∀ {A : Around}, Ro k A → ∀ {outer : List Env} {s : Shared} {H : Hp} {args : Args} {us : List Value} {vs : List V} {Q : VK} {E : XK}, Env0 P w K mg base A outer s H → BindsTo s fd args (ps.zip us) → Vals vs us → sp vs H Q E → codeAny (model P w) A (.call (.ref f) args) (CR CX outer P w H s Q E) s
section
variable {P : Program} {w : World} {K : PySem.W.Frag} {mg : Str → Option Value} {base : Heap} {CX : CXT} {f : Addr} {fd : FuncData} {ps : List Str} {sp : Sp}
theorem FnG.mono {j k : Nat} (F : FnG P w K mg base CX j f fd ps sp) (h : j ≤ k) : FnG P w K mg base CX k f fd ps sp := ⟨F.len, fun r => F.go (r.mono h)⟩
theorem FnG.imp {k : Nat} {sp' : Sp} (F : FnG P w K mg base CX k f fd ps sp) (h : ∀ vs H Q E, sp' vs H Q E → sp vs H Q E) : FnG P w K mg base CX k f fd ps sp' :=
  ⟨fun vs H Q E q => F.len vs H Q E (h vs H Q E q), fun r _ _ _ _ _ _ _ _ e b v q => F.go r e b v (h _ _ _ _ q)⟩
/-- as the library counts -/
theorem FnG.fn {j k : Nat} (F : FnG P w K mg base CX j f fd ps sp) (h1 : j + 15 ≤ 3 * k) (h2 : j + 25 ≤ 2 * k) : FnOk P w K mg base CX k f fd ps sp :=
  ⟨F.len, fun _ _ _ _ _ _ _ _ _ r e b v q => F.go (ro_of r h1 h2) e b v q⟩
/-- a def by its body -/
theorem body_go {k : Nat} {x qual : Str} {st : Stmt} {N : List Str} (F : Fun K x qual st f fd) (S : FnScope N ps (defScope st)) (len : ∀ vs H Q E, sp vs H Q E → vs.length = ps.length)
    (hb : ∀ (cdv : Value) (A : Around) (outer : List Env) (s : Shared) (H : Hp) (vs : List V) (Q : VK) (E : XK), Ro k (A.deeper (envOfC qual (defScope st) s.heap.objs.size f cdv)) → sp vs H Q E →
      ∃ t, PSs (cxOf CX P w K mg base N qual (defScope st) f cdv A outer s H E) (defBody st) t ∧ t { nx := fun _ H' => Q .non H', rt := Q } (start N vs) H) : FnG P w K mg base CX (k + 1) f fd ps sp := by
  obtain ⟨oc, od, kV, doc, pm, an, cdv, ct, osl, rfl, lk, hcd⟩ := F.ex
  refine ⟨len, fun {A} hr {outer s H args us vs Q E} e0 bd rv q => ?_⟩
  have same := fun b o e => (e0.bs b o e).1
  have ln := len _ _ _ _ q
  refine codeAny_call_function (by have := hr.dp; omega) ((e0.mod.kin.keeps same) _ _ lk) rfl S.co S.gen rfl (PySem.W.codeRec_of (e0.mod.kin.keeps same) hcd) (bd _ _ _ _ ?_)
  have vis : ∀ y ∈ ps.zip us, (defScope st).names.lookup y.1 = some .local ∨ ((defScope st).names.lookup y.1 = some .cell ∧ ((cellsFrom (s.heap.objs.size + 1) (defScope st).names []).lookup y.1).isSome = true) := fun y hy =>
    (S.par y.1 (List.of_mem_zip hy).1).elim .inl fun c => .inr ⟨c, PySem.W.cellsFrom_some _ _ _ (.inl c)⟩
  refine wpAny_newFunctionEnv_cells S.kind vis fun env he s1 x => ?_
  cases he
  refine ⟨(e0.mod.nolimit.keeps same).keeps x.toInCall.keep, codeAny_func ?_⟩
  obtain ⟨t, run, h⟩ := hb cdv A outer s H vs Q E (hr.inner _) q
  have I : Inv (cxOf CX P w K mg base N qual (defScope st) f cdv A outer s H E) [] (start N vs) H s1 := inv_start S hr.hd e0 ln rv x
  refine wpAny_mono (run.run [] s1 (start N vs) H _ I h) (fun fl s' z => ?_) fun _ _ z => z
  cases fl with
  | ret u =>
    obtain ⟨v, σ', H', J, r, k⟩ := z
    exact ⟨v, H', J.os, J.bare, J.base, J.hok, r, k⟩
  | next =>
    obtain ⟨σ', H', J, k⟩ := z
    exact ⟨.non, H', J.os, J.bare, J.base, J.hok, rfl, k⟩
  | brk => obtain ⟨_, _, _, k⟩ := z; exact k.elim
  | cont => obtain ⟨_, _, _, k⟩ := z; exact k.elim
theorem Fun_okG {k : Nat} {x qual : Str} {st : Stmt} {N : List Str} (F : Fun K x qual st f fd) (S : FnScope N ps (defScope st)) (len : ∀ vs H Q E, sp vs H Q E → vs.length = ps.length)
    (hb : ∀ (cdv : Value) (A : Around) (outer : List Env) (s : Shared) (H : Hp) (vs : List V) (Q : VK) (E : XK), Ro k (A.deeper (envOfC qual (defScope st) s.heap.objs.size f cdv)) → sp vs H Q E →
      ∃ t, PSs (cxOf CX0 P w K mg base N qual (defScope st) f cdv A outer s H E).nox (defBody st) t ∧ t { nx := fun _ H' => Q .non H', rt := Q } (start N vs) H) : FnG P w K mg base CX0 (k + 1) f fd ps sp :=
  body_go F S len fun cdv A outer s H vs Q E hr q => by
    obtain ⟨t, h, k⟩ := hb cdv A outer s H vs Q E hr q
    exact ⟨t, h.nox, k⟩
end
section
variable {X : Cx} {CX : CXT} {k : Nat} {f : Addr} {fd : FuncData} {ps : List Str} {sp : Sp} {dvs : List V} {ds : List Value} {x : Str} {p pos : Pos} {e : Expr} {es : List Expr} {t : TA}
/-- the callee, from within a body -/
theorem into {E : XK} {pins : List (Addr × Obj)} {σ : L2.St} {H : Hp} {s : Shared} {Q : VK} {us : List Value} {vs : List V} (F : FnG X.prog X.w X.K X.mg X.base CX k f fd ps sp) (hr : Ro k X.A) (hb : Binds X.K fd ps ds) (hd : Vals dvs ds)
    (hx : ∀ (s : Shared) (e : Value) (s' : Shared), Inv X pins σ H s → CX X.stack H s E e s' → X.xe e s') (I : Inv X pins σ H s) (r : Vals vs us) (h : sp (vs ++ dvs) H Q E) : wpAny (model X.prog X.w) X.A (call (.ref f) us) (EP X pins σ Q) X.xe s := by
  have rr := r.append hd
  refine wpAny_call (codeAny_mono (F.go hr I.env0 (hb s us I.kIn (rr.length ▸ F.len _ _ _ _ h)) rr h) fun o s' z => ?_)
  match o, z with
  | .error e, z => exact hx s e s' I z
  | .ok (.ret u), z => exact I.after z
  | .ok .next, z => exact z.elim
  | .ok .brk, z => exact z.elim
  | .ok .cont, z => exact z.elim
theorem peg_call {E : XK} (F : FnG X.prog X.w X.K X.mg X.base CX k f fd ps sp) (hr : Ro k X.A) (hg : Gl X x) (hm : X.mg x = some (.ref f)) (hk : PySem.W.keepIn X.K (.ref f) = true) (hb : Binds X.K fd ps ds) (hd : Vals dvs ds) (hx : Passes CX X E) (ha : PA X (e :: es) t) (hdb : (x == ("__debug__" : Str)) = false)
    (he : starEach (e :: es) X.env = (false, eval e X.env) :: starEach es X.env) (hpl : (backTo pos (starEach es X.env)).any (·.1) = false) : PE X (.Call (.Name x p) (e :: es) [] pos) (tCall sp dvs E t) :=
  ⟨fun pins s σ H Q I h => wpAny_Call_Name_kw (ld_glob I hg hm (PySem.W.callWith_K (h₀ := X.base) I.ok.mod.kin hk (thn (ha.run pos pins s σ H _ I h) fun us s1 ⟨vs, H1, I1, r, q⟩ => ⟨I1.kIn, into F hr hb hd (fun s e s' J z => hx pins σ H1 s e s' J z) I1 r q⟩) he hpl) hdb)⟩
theorem peg_call0 {E : XK} (F : FnG X.prog X.w X.K X.mg X.base CX k f fd ps sp) (hr : Ro k X.A) (hg : Gl X x) (hm : X.mg x = some (.ref f)) (hk : PySem.W.keepIn X.K (.ref f) = true) (hb : Binds X.K fd ps ds) (hd : Vals dvs ds) (hx : Passes CX X E) (hdb : (x == ("__debug__" : Str)) = false) : PE X (.Call (.Name x p) [] [] pos) (tCall sp dvs E tNil) :=
  ⟨fun pins s σ H Q I h => wpAny_Call_Name_kw (ld_glob I hg hm (PySem.W.callWith_K0 I.kIn hk (into (us := []) F hr hb hd (fun s e s' J z => hx pins σ H s e s' J z) I .nil h)) hdb)⟩
theorem peg_callS {E : L2.St → XK} (F : FnG X.prog X.w X.K X.mg X.base CX k f fd ps sp) (hr : Ro k X.A) (hg : Gl X x) (hm : X.mg x = some (.ref f)) (hk : PySem.W.keepIn X.K (.ref f) = true) (hb : Binds X.K fd ps []) (hx : ∀ σ, PassesAt CX X σ (E σ)) (ha : PA X (e :: es) t) (hdb : (x == ("__debug__" : Str)) = false)
    (he : starEach (e :: es) X.env = (false, eval e X.env) :: starEach es X.env) (hpl : (backTo pos (starEach es X.env)).any (·.1) = false) : PE X (.Call (.Name x p) (e :: es) [] pos) (tCallS sp E t) :=
  ⟨fun pins s σ H Q I h => wpAny_Call_Name_kw (ld_glob I hg hm (PySem.W.callWith_K (h₀ := X.base) I.ok.mod.kin hk (thn (ha.run pos pins s σ H _ I h) fun us s1 ⟨vs, H1, I1, r, q⟩ => ⟨I1.kIn, into (dvs := []) F hr hb .nil (fun s e s' J z => hx σ pins H1 s e s' J z) I1 r (by rw [List.append_nil]; exact q)⟩) he hpl) hdb)⟩
theorem peg_callL {E : XK} {i : Nat} (F : FnG X.prog X.w X.K X.mg X.base CX k f fd ps sp) (hr : Ro k X.A) (hN : X.N[i]? = some x) (hv : Vis X.env.scope x) (hk : PySem.W.keepIn X.K (.ref f) = true) (hb : Binds X.K fd ps ds) (hd : Vals dvs ds) (hx : Passes CX X E) (ha : PA X (e :: es) t) (hdb : (x == ("__debug__" : Str)) = false) (hcd : (x == ("__classdict__" : Str)) = false)
    (he : starEach (e :: es) X.env = (false, eval e X.env) :: starEach es X.env) (hpl : (backTo pos (starEach es X.env)).any (·.1) = false) : PE X (.Call (.Name x p) (e :: es) [] pos) (tCallL i f sp dvs E t) :=
  ⟨fun pins s σ H Q I ⟨hs, h⟩ => wpAny_Call_Name_kw (thn ((pe_var (pos := p) hN hv hdb hcd).run pins s σ H (fun v H1 => v = .ref f ∧ H1 = H) I ⟨.ref f, hs, rfl, rfl⟩) fun u s1 ⟨v, H1, I1, r1, e1, e2⟩ => by
    cases e1; cases e2; cases r1
    exact PySem.W.callWith_K (h₀ := X.base) I.ok.mod.kin hk (thn (ha.run pos pins s1 σ _ _ I1 h) fun us s2 ⟨vs, H2, I2, r, q⟩ => ⟨I2.kIn, into F hr hb hd (fun s e s' J z => hx pins σ H2 s e s' J z) I2 r q⟩) he hpl)⟩
end
end DL

namespace DL
variable [Tbs]
open PySem L2
/-! ### own defs -/
structure Cal (P : Program) (w : World) (K : PySem.W.Frag) (mg : Str → Option Value) (base : Heap) (CX : CXT) (k : Nat) (x : Str) (ps : List Str) (sp : Sp) : Prop where
  ex : ∃ (f : Addr) (fd : FuncData), mg x = some (.ref f) ∧ PySem.W.keepIn K (.ref f) = true ∧ Binds K fd ps [] ∧ FnG P w K mg base CX k f fd ps sp
def Df (K : PySem.W.Frag) (mg : Str → Option Value) (x : Str) (st : Stmt) (ps : List Str) : Prop :=
  ∃ (f : Addr) (fd : FuncData), mg x = some (.ref f) ∧ Fun K x x st f fd ∧ Binds K fd ps []
theorem Cal.mono {P : Program} {w : World} {K : PySem.W.Frag} {mg : Str → Option Value} {base : Heap} {CX : CXT} {j k : Nat} {x : Str} {ps : List Str} {sp : Sp} (C : Cal P w K mg base CX j x ps sp) (h : j ≤ k) : Cal P w K mg base CX k x ps sp := by
  obtain ⟨f, fd, a, b, c, d⟩ := C.ex
  exact ⟨f, fd, a, b, c, d.mono h⟩
theorem Cal.imp {P : Program} {w : World} {K : PySem.W.Frag} {mg : Str → Option Value} {base : Heap} {CX : CXT} {k : Nat} {x : Str} {ps : List Str} {sp sp' : Sp} (C : Cal P w K mg base CX k x ps sp) (h : ∀ vs H Q E, sp' vs H Q E → sp vs H Q E) : Cal P w K mg base CX k x ps sp' := by
  obtain ⟨f, fd, a, b, c, d⟩ := C.ex
  exact ⟨f, fd, a, b, c, d.imp h⟩
abbrev Rf := List D → (D → Prop) → Prop
/-- what a def gives: R from its arguments, nothing changed -/
def spW (K : PySem.W.Frag) (R : Rf) : Sp := fun vs H Q _ => ∃ B ds, (∀ b ∈ B, H b ≠ none) ∧ Tabs H ∧ AtAll K (hid B H) vs ds ∧ R ds fun d => ∀ v H', Same H H' → At K (hid B H') v d → Q v H'
abbrev Rx := List D → (D → Prop) → (Addr → Prop) → Prop
/-- .. of a def that may raise an error of a class without more -/
def spX (K : PySem.W.Frag) (R : Rx) : Sp := fun vs H Q E => ∃ B ds, (∀ b ∈ B, H b ≠ none) ∧ Tabs H ∧ AtAll K (hid B H) vs ds ∧ R ds (fun d => ∀ v H', Same H H' → At K (hid B H') v d → Q v H') fun C => ∀ H', Same H H' → E (.ref C) none H'
def MonoR (R : Rf) : Prop := ∀ ds {Q Q' : D → Prop}, (∀ d, Q d → Q' d) → R ds Q → R ds Q'
section
variable {X : Cx} {K : PySem.W.Frag} {e a b c : Expr} {pos : Pos}
def dCall (R : Rf) (xs : List DX) : DX := fun δ Q => dArgs xs δ fun ds => R ds Q
theorem d_call {k : Nat} {x : Str} {ps : List Str} {R : Rf} {es : List Expr} {xs : List DX} {p : Pos} (C : Cal X.prog X.w X.K X.mg X.base CX0 k x ps (spW K R)) (hm : MonoR R) (hr : Ro k X.A) (ha : AD X K (e :: es) xs) (hg : Gl X x := by rfl) (hdb : (x == ("__debug__" : Str)) = false := by decide)
    (he : starEach (e :: es) X.env = (false, eval e X.env) :: starEach es X.env := by rfl) (hpl : (backTo pos (starEach es X.env)).any (·.1) = false := by rfl) : PD X K (.Call (.Name x p) (e :: es) [] pos) (dCall R xs) := by
  obtain ⟨f, fd, h1, h2, h3, h4⟩ := C.ex
  refine ⟨fun δ Q Q' i q => ha.mono δ (fun ds => hm ds i) q, pe_weak (peg_call h4 hr hg h1 h2 h3 .nil pass0 ha.pa hdb he hpl) fun σ H Q ⟨Hb, B, O, δ, S, q⟩ => ⟨Hb, B, O, δ, S, ha.mono δ (fun ds g vs H1 s1 as => ?_) q⟩⟩
  show spW K R (vs ++ []) H1 Q E0
  rw [List.append_nil]
  exact ⟨O, ds, fun p hp => live_same (S.live p hp) s1, s1.t S.tab, as, hm ds (fun d k v H' s a => k v H' (s1.trans s) a) g⟩
theorem d_call0 {k : Nat} {x : Str} {ps : List Str} {R : Rf} {p : Pos} (C : Cal X.prog X.w X.K X.mg X.base CX0 k x ps (spW K R)) (hm : MonoR R) (hr : Ro k X.A) (hg : Gl X x := by rfl) (hdb : (x == ("__debug__" : Str)) = false := by decide) : PD X K (.Call (.Name x p) [] [] pos) (dCall R []) := by
  obtain ⟨f, fd, h1, h2, h3, h4⟩ := C.ex
  refine ⟨fun δ Q Q' i q => hm [] i q, pe_weak (peg_call0 h4 hr hg h1 h2 h3 .nil pass0 hdb) fun σ H Q ⟨Hb, B, O, δ, S, q⟩ => ?_⟩
  exact ⟨O, [], S.live, S.tab, .nil, q⟩
/-! ### lists of ranges -/
def rgD (a b : Int) : List D := (List.range (b - a).toNat).map fun i => D.int (a + (i : Nat))
theorem rg_at {H : Hp} (a b : Int) : AtAll K H (rgV a b) (rgD a b) := by
  have : ∀ l : List Nat, AtAll K H (l.map fun i => V.int (a + (i : Nat))) (l.map fun i => D.int (a + (i : Nat))) := fun l => by
    induction l with
    | nil => exact .nil
    | cons x l ih => exact .cons (.int _) ih
  exact this _
theorem rg_len (a b : Int) : (rgD a b).length = (b - a).toNat := by unfold rgD; rw [List.length_map, List.length_range]
def RgB (a b : Int) : Prop := -1000000 ≤ a ∧ a ≤ 1000000 ∧ -1000000 ≤ b ∧ b ≤ 1000000 ∧ (b - a).toNat ≤ LIM
theorem RgB.ok {a b : Int} (h : RgB a b) : RgOk a b := by
  obtain ⟨h1, h2, h3, h4, h5⟩ := h
  exact ⟨by omega, by omega, by omega, by omega, Nat.le_trans h5 (by decide)⟩
abbrev DR := List Sl → (Int → Int → Prop) → Prop
def tR (K : PySem.W.Frag) (x : DR) : St → Hp → (Int → Int → Hp → Prop) → Prop := fun σ H Q => ∃ Hb B O δ, Sta K Hb B O H σ δ ∧ x δ fun i j => ∀ H', Same H H' → Q i j H'
structure RD (X : Cx) (K : PySem.W.Frag) (e : Expr) (x : DR) : Prop where
  mono : ∀ δ {Q Q' : Int → Int → Prop}, (∀ i j, Q i j → Q' i j) → x δ Q → x δ Q'
  rg : PRg X e (tR K x)
theorem r_1 {x : DX} {p : Pos} (hm : X.mg "range" = none) (ha : QD X K a x) (hg : Gl X "range" := by rfl) (na : starEach [a] X.env = (false, eval a X.env) :: starEach [] X.env := by rfl) : RD X K (.Call (.Name "range" p) [a] [] pos) (fun δ Q => x δ (asI fun n => Q 0 n)) := by
  refine ⟨fun δ Q Q' i q => ha.mono δ (asI_mono fun _ => i _ _) q, fun pins s σ H Q I ⟨Hb, B, O, δ, S, q⟩ => prg_1 hg hm ha.pe na pins s σ H Q I ⟨Hb, B, O, δ, S, ha.mono δ (fun d k v H' s a => ?_) q⟩⟩
  obtain ⟨i, rfl, k⟩ := asI_at k a
  exact ⟨i, rfl, k H' s⟩
theorem r_2 {x y : DX} {p : Pos} (hm : X.mg "range" = none) (ha : QD X K a x) (hb : QD X K b y) (hg : Gl X "range" := by rfl) (na : starEach [a, b] X.env = (false, eval a X.env) :: starEach [b] X.env := by rfl)
    (nb : starEach [b] X.env = (false, eval b X.env) :: starEach [] X.env := by rfl) (hp : (backTo pos (starEach [b] X.env)).any (·.1) = false := by rfl) : RD X K (.Call (.Name "range" p) [a, b] [] pos) (fun δ Q => x δ (asI fun n => y δ (asI fun m => Q n m))) := by
  refine ⟨fun δ Q Q' i q => ha.mono δ (asI_mono fun _ => hb.mono δ (asI_mono fun _ => i _ _)) q, fun pins s σ H Q I ⟨Hb, B, O, δ, S, q⟩ => prg_2 hg hm ha.pe hb.pe na nb hp pins s σ H Q I ⟨Hb, B, O, δ, S, ha.mono δ (fun d k v H1 s1 a => ?_) q⟩⟩
  obtain ⟨i, rfl, k⟩ := asI_at k a
  refine ⟨Hb, B, O, δ, S.grow s1, hb.mono δ (fun d k v H2 s2 a => ?_) k⟩
  obtain ⟨j, rfl, k⟩ := asI_at k a
  exact ⟨i, j, rfl, rfl, k H2 (s1.trans s2)⟩
def fRg (x : DR) : DAs := fun δ Q => x δ fun i j => RgB i j ∧ Q (rgD i j)
theorem f_listRg {x : DR} {p : Pos} (hm : X.mg "list" = none) (ha : RD X K e x) (hc : X.calm = true := by rfl) (hg : Gl X "list" := by rfl) (na : starEach [e] X.env = (false, eval e X.env) :: starEach [] X.env := by rfl) : FD X K (.Call (.Name "list" p) [e] [] pos) (fRg x) := by
  refine ⟨fun δ Q Q' i q => ha.mono δ (fun _ _ q => ⟨q.1, i _ q.2⟩) q, pe_weak (pe_listRg hc hg hm ha.rg na) fun σ H Q ⟨Hb, B, O, δ, S, q⟩ => ⟨Hb, B, O, δ, S, ha.mono δ (fun i j ⟨k1, k2⟩ H1 s1 => ⟨k1.ok, fun t n => ?_⟩) q⟩⟩
  exact k2 t _ _ (s1.trans (same_new n)) (s1.free n) upd_same (by rw [rg_len]; exact k1.2.2.2.2) (rg_at _ _)
def dRg (x : DR) : DX := fun δ Q => x δ fun i j => RgB i j ∧ Q (.tup (rgD i j))
theorem d_tupRg {x : DR} {p : Pos} (hm : X.mg "tuple" = none) (ha : RD X K e x) (hc : X.calm = true := by rfl) (hg : Gl X "tuple" := by rfl) (na : starEach [e] X.env = (false, eval e X.env) :: starEach [] X.env := by rfl) : PD X K (.Call (.Name "tuple" p) [e] [] pos) (dRg x) := by
  refine ⟨fun δ Q Q' i q => ha.mono δ (fun _ _ q => ⟨q.1, i _ q.2⟩) q, pe_weak (pe_tupRg hc hg hm ha.rg na) fun σ H Q ⟨Hb, B, O, δ, S, q⟩ => ⟨Hb, B, O, δ, S, ha.mono δ (fun i j ⟨k1, k2⟩ H1 s1 => ⟨k1.ok, fun t n => ?_⟩) q⟩⟩
  exact k2 _ _ (s1.trans (same_new n)) (At.newT (fun b hb => live_same (S.live b hb) s1) n (by rw [rg_len]; exact k1.2.2.2.2) (rg_at _ _))
end
/-! ### what is walked -/
/-- from the things that stand in H0 and are values in Hf: the items l, one after the other -/
def WalkD (K : PySem.W.Frag) (H0 Hf : Hp) (l : List D) (J : It) : Prop := ∀ i H, Keep H0 H →
  (∀ d, l[i]? = some d → J.go i H ∧ ∀ x H', J.yld i H x H' → Same H H' ∧ ∀ O, (∀ q ∈ O, H q ≠ none) → Keep Hf (hid O H) → At K (hid O H') x d) ∧ (l.length ≤ i → J.stop i H)
/-- over values: what is walked stands among the values; over own things too -/
def iP (K : PySem.W.Frag) (src : DAs) : TI := fun σ H R => ∃ Hb B O δ, Sta K Hb B O H σ δ ∧ src δ fun l => ∀ J H', Same H H' → l.length ≤ LIM → WalkD K (hid O H') (hid O H') l J → R J H'
def iQ (K : PySem.W.Frag) (src : DAs) : TI := fun σ H R => ∃ Hb B O δ, Sta K Hb B O H σ δ ∧ src δ fun l => ∀ J H', Same H H' → l.length ≤ LIM → WalkD K H' (hid O H') l J → R J H'
structure IP (X : Cx) (K : PySem.W.Frag) (tg e : Expr) (src : DAs) : Prop where
  mono : MonoA src
  pi : PI X tg e (iP K src)
structure IQ (X : Cx) (K : PySem.W.Frag) (tg e : Expr) (src : DAs) : Prop where
  mono : MonoA src
  pi : PI X tg e (iQ K src)
section
variable {X : Cx} {K : PySem.W.Frag} {tg e a b c : Expr} {pos : Pos}
theorem pi_weak {t t' : TI} (h : PI X tg e t) (i : ∀ σ H Q, t' σ H Q → t σ H Q) : PI X tg e t' := ⟨fun pins s σ H Q I q => h.run pins s σ H Q I (i _ _ _ q)⟩
theorem IP.q {src : DAs} (h : IP X K tg e src) : IQ X K tg e src := ⟨h.mono, pi_weak h.pi fun σ H R ⟨Hb, B, O, δ, S, q⟩ => ⟨Hb, B, O, δ, S, h.mono δ (fun l k J H' s n w => k J H' s n fun i H2 s2 => w i H2 (hid_out.trans s2)) q⟩⟩
theorem walk_list {H0 Hf : Hp} {p : Addr} {vs : List V} {l : List D} (h : SqL K H0 p vs) (a : AtAll K Hf vs l) : WalkD K H0 Hf l (Itl K p) := fun i H s => by
  refine ⟨fun d e => ?_, fun n => ⟨vs, s.seq h, by rw [a.len]; exact n⟩⟩
  obtain ⟨v, ev, av⟩ := a.get' e
  refine ⟨⟨vs, v, s.seq h, ev⟩, fun x H' y => ?_⟩
  obtain ⟨rfl, y⟩ := y
  have := y vs (s.seq h)
  rw [ev] at this
  obtain rfl := Option.some.inj this
  exact ⟨.refl _, fun O hO sf => av.mono sf⟩
theorem walk_tup {H0 Hf : Hp} {p : Addr} {vs : List V} {l : List D} (h : SqT K H0 p vs) (a : AtAll K Hf vs l) : WalkD K H0 Hf l (Itt K p) := fun i H s => by
  refine ⟨fun d e => ?_, fun n => ⟨vs, sqT_mono s h, by rw [a.len]; exact n⟩⟩
  obtain ⟨v, ev, av⟩ := a.get' e
  refine ⟨⟨vs, v, sqT_mono s h, ev⟩, fun x H' y => ?_⟩
  obtain ⟨rfl, y⟩ := y
  have := y vs (sqT_mono s h)
  rw [ev] at this
  obtain rfl := Option.some.inj this
  exact ⟨.refl _, fun O hO sf => av.mono sf⟩
theorem rgD_get {lo hi : Int} {i : Nat} {d : D} (h : (rgD lo hi)[i]? = some d) : i < (hi - lo).toNat ∧ d = .int (lo + (i : Nat)) := by
  have hi' := (List.getElem?_eq_some_iff.mp h).1
  rw [rg_len] at hi'
  refine ⟨hi', ?_⟩
  unfold rgD at h
  rw [List.getElem?_map, List.getElem?_range hi'] at h
  exact (Option.some.inj h).symm
theorem walk_range {H0 Hf : Hp} (lo hi : Int) : WalkD K H0 Hf (rgD lo hi) (Itr lo (hi - lo).toNat) := fun i H s => by
  refine ⟨fun d e => ?_, fun n => by rw [rg_len] at n; exact n⟩
  obtain ⟨h1, rfl⟩ := rgD_get e
  refine ⟨h1, fun x H' y => ?_⟩
  obtain ⟨rfl, rfl⟩ := y
  exact ⟨.refl _, fun O _ _ => .int _⟩
/-- a list or a tuple of values -/
def asL (Q : List D → Prop) : D → Prop
  | .lst l => Q l
  | .scr l => Q l
  | _ => False
theorem asL_mono {Q Q' : List D → Prop} (i : ∀ l, Q l → Q' l) (d : D) (q : asL Q d) : asL Q' d := by
  unfold asL at q ⊢
  split at q
  · exact i _ q
  · exact i _ q
  · exact q
theorem asL_of {Q : List D → Prop} {d : D} (q : asL Q d) : ∃ l, (d = .lst l ∨ d = .scr l) ∧ Q l := by
  unfold asL at q
  split at q
  · exact ⟨_, .inl rfl, q⟩
  · exact ⟨_, .inr rfl, q⟩
  · exact q.elim
theorem At.asL {H : Hp} {v : V} {d : D} {l : List D} (h : d = .lst l ∨ d = .scr l) (a : At K H v d) : ∃ p vs, v = .ref p ∧ SqL K H p vs ∧ l.length ≤ LIM ∧ AtAll K H vs l := by
  rcases h with rfl | rfl
  · cases a with
    | lst h1 h2 h3 => exact ⟨_, _, rfl, .inl (.inl h1), h2, h3⟩
  · cases a with
    | scr h1 h2 h3 => exact ⟨_, _, rfl, h1, h2, h3⟩
def asT (Q : List D → Prop) : D → Prop
  | .tup l => Q l
  | _ => False
theorem asT_mono {Q Q' : List D → Prop} (i : ∀ l, Q l → Q' l) (d : D) (q : asT Q d) : asT Q' d := by
  unfold asT at q ⊢
  split at q
  · exact i _ q
  · exact q
def sL (x : DX) : DAs := fun δ Q => x δ (asL Q)
def sT (x : DX) : DAs := fun δ Q => x δ (asT Q)
theorem sL_mono {x : DX} (h : MonoX x) : MonoA (sL x) := fun δ Q Q' i q => h δ (asL_mono i) q
theorem sT_mono {x : DX} (h : MonoX x) : MonoA (sT x) := fun δ Q Q' i q => h δ (asT_mono i) q
theorem i_list {x : DX} (h : PD X K e x) (hK : X.K = K := by rfl) : IP X K tg e (sL x) := by
  subst hK
  refine ⟨sL_mono h.mono, pi_weak (pi_list h.pe) fun σ H R ⟨Hb, B, O, δ, S, q⟩ => ⟨Hb, B, O, δ, S, h.mono δ (fun d k v H1 s1 a => ?_) q⟩⟩
  obtain ⟨l, hl, k⟩ := asL_of k
  obtain ⟨p, vs, rfl, h1, h2, h3⟩ := a.asL hl
  exact ⟨p, rfl, ⟨_, hid_out.seq h1⟩, k _ H1 s1 h2 (walk_list h1 h3)⟩
theorem i_listQ {x : DX} (h : QD X K e x) (hK : X.K = K := by rfl) : IQ X K tg e (sL x) := by
  subst hK
  refine ⟨sL_mono h.mono, pi_weak (pi_list h.pe) fun σ H R ⟨Hb, B, O, δ, S, q⟩ => ⟨Hb, B, O, δ, S, h.mono δ (fun d k v H1 s1 a => ?_) q⟩⟩
  obtain ⟨l, hl, k⟩ := asL_of k
  rcases hl with rfl | rfl
  · obtain ⟨p, vs, rfl, h1, h2, h3⟩ := a.list
    exact ⟨p, rfl, ⟨vs, .inl (.inl h1)⟩, k _ H1 s1 h2 (walk_list (.inl (.inl h1)) h3)⟩
  · obtain ⟨p, vs, rfl, h1, h2, h3⟩ := a.script
    exact ⟨p, rfl, ⟨vs, h1⟩, k _ H1 s1 h2 (walk_list h1 h3)⟩
theorem i_tup {x : DX} (h : PD X K e x) (hK : X.K = K := by rfl) : IP X K tg e (sT x) := by
  subst hK
  refine ⟨sT_mono h.mono, pi_weak (pi_tup h.pe) fun σ H R ⟨Hb, B, O, δ, S, q⟩ => ⟨Hb, B, O, δ, S, h.mono δ (fun d k v H1 s1 a => ?_) q⟩⟩
  unfold asT at k
  split at k
  · cases a with
    | tup h1 h2 h3 => exact ⟨_, rfl, ⟨_, sqT_mono hid_out h1⟩, k _ H1 s1 h2 (walk_tup h1 h3)⟩
  · exact k.elim
def sR1 (x : DX) : DAs := fun δ Q => x δ (asI fun n => RgB 0 n ∧ Q (rgD 0 n))
def sR2 (x y : DX) : DAs := fun δ Q => x δ (asI fun m => y δ (asI fun n => RgB m n ∧ Q (rgD m n)))
theorem i_range1 {x : DX} {p : Pos} (hm : X.mg "range" = none) (ha : QD X K a x) (hg : Gl X "range" := by rfl) (hs : starEach [a] X.env = [(false, eval a X.env)] := by rfl) : IP X K tg (.Call (.Name "range" p) [a] [] pos) (sR1 x) := by
  refine ⟨fun δ Q Q' i q => ha.mono δ (asI_mono fun _ q => ⟨q.1, i _ q.2⟩) q, pi_weak (pi_range1 hg hm (b_cons ha b_nil hs).pa hs) fun σ H R ⟨Hb, B, O, δ, S, q⟩ => ⟨Hb, B, O, δ, S, ha.mono δ (fun d k vs H1 s1 as => ?_) q⟩⟩
  obtain ⟨v, rfl, a⟩ := as.one
  obtain ⟨n, rfl, ⟨k1, k2, k3, k4, k5⟩, k⟩ := asI_at k a
  refine ⟨n, rfl, by omega, by omega, ?_⟩
  have := k (Itr 0 (n - 0).toNat) H1 s1 (by rw [rg_len]; exact k5) (walk_range 0 n)
  rw [Int.sub_zero] at this
  exact this
theorem i_range2 {x y : DX} {p : Pos} (hm : X.mg "range" = none) (ha : QD X K a x) (hb : QD X K b y) (hg : Gl X "range" := by rfl) (hs : starEach [a, b] X.env = [(false, eval a X.env), (false, eval b X.env)] := by rfl) (hs2 : starEach [b] X.env = [(false, eval b X.env)] := by rfl) :
    IP X K tg (.Call (.Name "range" p) [a, b] [] pos) (sR2 x y) := by
  have hs' : starEach [a, b] X.env = (false, eval a X.env) :: starEach [b] X.env := by rw [hs, hs2]
  refine ⟨fun δ Q Q' i q => ha.mono δ (asI_mono fun _ => hb.mono δ (asI_mono fun _ q => ⟨q.1, i _ q.2⟩)) q, pi_weak (pi_range2 hg hm (b_cons ha (b_cons hb b_nil hs2) hs').pa hs hs2) fun σ H R ⟨Hb, B, O, δ, S, q⟩ => ⟨Hb, B, O, δ, S, ?_⟩⟩
  show x δ fun d => y δ fun e => _
  refine ha.mono δ (fun d k => ?_) q
  cases d with
  | int i =>
    refine hb.mono δ (fun d k vs H1 s1 as => ?_) k
    obtain ⟨v, w, rfl, a1, a2⟩ := as.two
    obtain ⟨n, rfl, ⟨k1, k2, k3, k4, k5⟩, k⟩ := asI_at k a2
    rw [a1.int]
    exact ⟨i, n, rfl, ⟨by omega, by omega, by omega, by omega⟩, k _ H1 s1 (by rw [rg_len]; exact k5) (walk_range _ _)⟩
  | non | bl _ | str _ | tup _ | lst _ | scr _ | dic _ _ | ref _ | ptp _ => exact k.elim
/-- enumerate, reversed, zip over lists -/
def enumD (l : List D) : Nat → List D
  | i => (List.range l.length).map fun j => D.tup [.int ((i + j : Nat) : Int), l.getD j .non]
theorem walk_enum {H0 Hf : Hp} {p : Addr} {vs : List V} {l : List D} (h : SqL K H0 p vs) (a : AtAll K Hf vs l) : WalkD K H0 Hf (enumD l 0) (Ite K p) := fun i H s => by
  have en : (enumD l 0).length = l.length := by unfold enumD; rw [List.length_map, List.length_range]
  refine ⟨fun d e => ?_, fun n => ⟨vs, s.seq h, by rw [a.len, ← en]; exact n⟩⟩
  have hi : i < l.length := by rw [← en]; exact (List.getElem?_eq_some_iff.mp e).1
  unfold enumD at e
  rw [List.getElem?_map, List.getElem?_range hi] at e
  obtain rfl := (Option.some.inj e).symm
  have e' : l[i]? = some (l.getD i .non) := by rw [List.getD_eq_getElem?_getD, List.getElem?_eq_getElem hi]; rfl
  obtain ⟨v, ev, av⟩ := a.get' e'
  refine ⟨⟨vs, v, s.seq h, ev⟩, fun x H' y => ?_⟩
  obtain ⟨t, w, rfl, n, rfl, y⟩ := y
  have := y vs (s.seq h)
  rw [ev] at this
  obtain rfl := Option.some.inj this
  refine ⟨same_new n, fun O hO sf => At.newT hO n (by show 2 ≤ LIM; decide) (.cons ?_ (.cons (av.mono sf) .nil))⟩
  rw [Nat.zero_add]
  exact .int _
def sEn (x : DX) : DAs := fun δ Q => sL x δ fun l => Q (enumD l 0)
theorem i_enum {x : DX} {elts : List Expr} {kk : Nat} {tpos p : Pos} (hm : X.mg "enumerate" = none) (h : PD X K e x) (hK : X.K = K := by rfl) (hg : Gl X "enumerate" := by rfl) (hs : starEach [e] X.env = [(false, eval e X.env)] := by rfl) :
    IP X K (.Tuple elts kk tpos) (.Call (.Name "enumerate" p) [e] [] pos) (sEn x) := by
  subst hK
  refine ⟨fun δ Q Q' i q => sL_mono h.mono δ (fun l => i _) q, pi_weak (pi_enum hg hm (a_cons h a_nil hs).pa hs) fun σ H R ⟨Hb, B, O, δ, S, q⟩ => ⟨Hb, B, O, δ, S, h.mono δ (fun d k vs H1 s1 as => ?_) q⟩⟩
  have en : ∀ l : List D, (enumD l 0).length = l.length := fun l => by unfold enumD; rw [List.length_map, List.length_range]
  obtain ⟨l, hl, k⟩ := asL_of k
  cases as with
  | cons a r =>
    cases r
    obtain ⟨p, vs, rfl, h1, h2, h3⟩ := a.asL hl
    exact ⟨_, _, rfl, hid_out.seq h1, k _ H1 s1 (by rw [en]; exact h2) (walk_enum h1 h3)⟩
theorem walk_rev {H0 Hf : Hp} {p : Addr} {vs : List V} {l : List D} (h : SqL K H0 p vs) (a : AtAll K Hf vs l) : WalkD K H0 Hf l.reverse (Itv K p vs.length) := fun i H s => by
  refine ⟨fun d e => ?_, fun n => by rw [List.length_reverse, ← a.len] at n; exact n⟩
  have hi : i < l.length := by have := (List.getElem?_eq_some_iff.mp e).1; rw [List.length_reverse] at this; exact this
  rw [List.getElem?_reverse hi] at e
  obtain ⟨v, ev, av⟩ := a.get' e
  rw [← a.len] at ev hi
  refine ⟨⟨hi, vs, v, s.seq h, ev⟩, fun x H' y => ?_⟩
  obtain ⟨rfl, y⟩ := y
  have := y vs (s.seq h)
  rw [ev] at this
  obtain rfl := Option.some.inj this
  exact ⟨.refl _, fun O hO sf => av.mono sf⟩
def sRev (x : DX) : DAs := fun δ Q => sL x δ fun l => Q l.reverse
theorem i_rev {x : DX} {p : Pos} (hm : X.mg "reversed" = none) (h : PD X K e x) (hK : X.K = K := by rfl) (hg : Gl X "reversed" := by rfl) (hs : starEach [e] X.env = [(false, eval e X.env)] := by rfl) :
    IP X K tg (.Call (.Name "reversed" p) [e] [] pos) (sRev x) := by
  subst hK
  refine ⟨fun δ Q Q' i q => sL_mono h.mono δ (fun l => i _) q, pi_weak (pi_reversed hg hm (a_cons h a_nil hs).pa hs) fun σ H R ⟨Hb, B, O, δ, S, q⟩ => ⟨Hb, B, O, δ, S, h.mono δ (fun d k vs H1 s1 as => ?_) q⟩⟩
  obtain ⟨l, hl, k⟩ := asL_of k
  cases as with
  | cons a r =>
    cases r
    obtain ⟨p, vs, rfl, h1, h2, h3⟩ := a.asL hl
    exact ⟨_, _, rfl, hid_out.seq h1, k _ H1 s1 (by rw [List.length_reverse]; exact h2) (walk_rev h1 h3)⟩
def zipD : List D → List D → List D
  | a :: l, b :: m => .tup [a, b] :: zipD l m
  | _, _ => []
theorem zipD_len : ∀ l m : List D, (zipD l m).length = min l.length m.length
  | [], m => by simp [zipD]
  | a :: l, [] => by simp [zipD]
  | a :: l, b :: m => by rw [zipD, List.length_cons, zipD_len l m, List.length_cons, List.length_cons]; omega
theorem zipD_get : ∀ {l m : List D} {i : Nat} {d : D}, (zipD l m)[i]? = some d → ∃ a b, l[i]? = some a ∧ m[i]? = some b ∧ d = .tup [a, b]
  | [], m, i, d, h => by simp [zipD] at h
  | a :: l, [], i, d, h => by simp [zipD] at h
  | a :: l, b :: m, 0, d, h => by simp [zipD] at h; exact ⟨a, b, rfl, rfl, h.symm⟩
  | a :: l, b :: m, i + 1, d, h => by
    have h' : (zipD l m)[i]? = some d := by simpa [zipD] using h
    obtain ⟨x, y, h1, h2, h3⟩ := zipD_get h'
    exact ⟨x, y, by simpa using h1, by simpa using h2, h3⟩
theorem walk_zip {H0 Hf : Hp} {p r : Addr} {vs ws : List V} {l m : List D} (h : SqL K H0 p vs) (g : SqL K H0 r ws) (a : AtAll K Hf vs l) (b : AtAll K Hf ws m) : WalkD K H0 Hf (zipD l m) (Itz K p r) := fun i H s => by
  refine ⟨fun d e => ?_, fun n => ⟨vs, ws, s.seq h, s.seq g, by rw [zipD_len] at n; rw [a.len, b.len]; omega⟩⟩
  obtain ⟨x, y, h1, h2, rfl⟩ := zipD_get e
  obtain ⟨v, ev, av⟩ := a.get' h1
  obtain ⟨w, ew, aw⟩ := b.get' h2
  refine ⟨⟨vs, ws, v, w, s.seq h, s.seq g, ev, ew⟩, fun x H' y => ?_⟩
  obtain ⟨t, v', w', rfl, n, rfl, y1, y2⟩ := y
  have q1 := y1 vs (s.seq h)
  have q2 := y2 ws (s.seq g)
  rw [ev] at q1
  rw [ew] at q2
  obtain rfl := Option.some.inj q1
  obtain rfl := Option.some.inj q2
  exact ⟨same_new n, fun O hO sf => At.newT hO n (by show 2 ≤ LIM; decide) (.cons (av.mono sf) (.cons (aw.mono sf) .nil))⟩
def sZip (x y : DX) : DAs := fun δ Q => sL x δ fun l => sL y δ fun m => Q (zipD l m)
theorem i_zip {x y : DX} {elts : List Expr} {kk : Nat} {tpos p : Pos} (hm : X.mg "zip" = none) (ha : PD X K a x) (hb : PD X K b y) (hK : X.K = K := by rfl) (hg : Gl X "zip" := by rfl)
    (hs : starEach [a, b] X.env = (false, eval a X.env) :: starEach [b] X.env := by rfl) (hs2 : starEach [b] X.env = [(false, eval b X.env)] := by rfl) (hpl : (backTo pos (starEach [b] X.env)).any (·.1) = false := by rfl) :
    IP X K (.Tuple elts kk tpos) (.Call (.Name "zip" p) [a, b] [] pos) (sZip x y) := by
  subst hK
  refine ⟨fun δ Q Q' i q => sL_mono ha.mono δ (fun l => sL_mono hb.mono δ fun m => i _) q, pi_weak (pi_zip hg hm (a_cons ha (a_cons hb a_nil hs2) hs).pa hs hpl) fun σ H R ⟨Hb, B, O, δ, S, q⟩ => ⟨Hb, B, O, δ, S, ?_⟩⟩
  show x δ fun d => y δ fun e => _
  refine ha.mono δ (fun d k => ?_) q
  obtain ⟨l, hl, k⟩ := asL_of k
  refine hb.mono δ (fun e k vs H1 s1 as => ?_) k
  obtain ⟨m, hm, k⟩ := asL_of k
  cases as with
  | cons a1 r =>
    cases r with
    | cons a2 r =>
      cases r
      obtain ⟨p, vs, rfl, g1, g2, g3⟩ := a1.asL hl
      obtain ⟨r, ws, rfl, f1, f2, f3⟩ := a2.asL hm
      exact ⟨p, r, vs, ws, rfl, hid_out.seq g1, hid_out.seq f1, k _ H1 s1 (by rw [zipD_len]; omega) (walk_zip g1 f1 g3 f3)⟩
end
/-! ### targets -/
abbrev DG := D → List Sl → (List Sl → Prop) → Prop
def tG (K : PySem.W.Frag) (js : List Nat) (t : DG) : TG := fun v σ H Q => ∃ Hb B O δ d, Sta K Hb B O H σ δ ∧ At K (hid O H) v d ∧ t d δ fun δ' => ∀ σ', Sta K Hb B O H σ' δ' → (∀ vs, (∀ j ∈ js, j ∈ vs) → wipe σ' vs = wipe σ vs) → Q σ' H
structure GD (X : Cx) (K : PySem.W.Frag) (tg : Expr) (js : List Nat) (t : DG) : Prop where
  mono : ∀ d δ {Q Q' : List Sl → Prop}, (∀ δ, Q δ → Q' δ) → t d δ Q → t d δ Q'
  ext : ∀ d δ (P : Prop), t d δ (fun _ => P) → P
  pg : PG X tg (tG K js t)
abbrev DGs := List D → List Sl → (List Sl → Prop) → Prop
def tGs (K : PySem.W.Frag) (js : List Nat) (t : DGs) : TGs := fun vs σ H Q => ∃ Hb B O δ ds, Sta K Hb B O H σ δ ∧ AtAll K (hid O H) vs ds ∧ t ds δ fun δ' => ∀ σ', Sta K Hb B O H σ' δ' → (∀ vs, (∀ j ∈ js, j ∈ vs) → wipe σ' vs = wipe σ vs) → Q σ' H
structure GDs (X : Cx) (K : PySem.W.Frag) (tgs : List Expr) (js : List Nat) (t : DGs) : Prop where
  mono : ∀ d δ {Q Q' : List Sl → Prop}, (∀ δ, Q δ → Q' δ) → t d δ Q → t d δ Q'
  ext : ∀ d δ (P : Prop), t d δ (fun _ => P) → P
  len : ∀ d δ Q, t d δ Q → d.length = tgs.length
  pg : PGs X tgs (tGs K js t)
section
variable {X : Cx} {K : PySem.W.Frag} {tg e : Expr} {pos : Pos}
theorem wipe_set : ∀ {vs : List Nat} {σ : St} {j : Nat} {x : Option V}, j ∈ vs → wipe (σ.set j x) vs = wipe σ vs
  | v :: vs, σ, j, x, h => by
    unfold wipe
    by_cases e : j ∈ vs
    · rw [wipe_set e]
    · have ej : j = v := by
        rcases List.mem_cons.mp h with h | h
        · exact h
        · exact absurd h e
      subst ej
      have : ∀ (vs : List Nat) (σ : St), (wipe (σ.set j x) vs).set j none = (wipe σ vs).set j none := by
        intro vs
        induction vs with
        | nil => intro σ; show (σ.set j x).set j none = _; rw [List.set_set]; rfl
        | cons u us ih =>
          intro σ
          unfold wipe
          by_cases hu : u = j
          · subst hu; rw [List.set_set, List.set_set, ih]
          · rw [List.set_comm _ _ hu, List.set_comm _ _ hu, ih]
      exact this vs σ
  | [], _, _, _, h => by cases h
def gN (i : Nat) : DG := fun d δ Q => Q (δ.set i (.d d))
theorem g_name {i : Nat} {x : Str} (hN : X.N.Nodup) (hi : X.N[i]? = some x) (hx : Loc X.env.scope x) (hf : X.fn x = true ∨ X.env.scope.names.lookup x = some .local := by first | exact .inl rfl | exact .inr rfl | assumption) : GD X K (.Name x pos) [i] (gN i) := by
  refine ⟨fun d δ Q Q' i q => i _ q, fun d δ P q => q, ⟨fun pins s σ H v u Q I r ⟨Hb, B, O, δ, d, S, a, q⟩ => (pg_name hN hi hx hf).run pins s σ H v u Q I r ?_⟩⟩
  exact q _ (S.set a) fun vs h => wipe_set (h i (List.mem_singleton.mpr rfl))
def gsN : DGs := fun ds δ Q => match ds with
  | [] => Q δ
  | _ => False
def gsC (t : DG) (u : DGs) : DGs := fun ds δ Q => match ds with
  | d :: ds => t d δ fun δ' => u ds δ' Q
  | [] => False
theorem gs_nil : GDs X K [] [] gsN := by
  refine ⟨fun ds δ Q Q' i q => ?_, fun ds δ P q => ?_, fun ds δ Q q => ?_, ⟨fun pins s σ H vs us Q I r ⟨Hb, B, O, δ, ds, S, a, q⟩ => pgs_nil.run pins s σ H vs us Q I r ?_⟩⟩
  · cases ds with
    | nil => exact i _ q
    | cons d ds => exact q
  · cases ds with
    | nil => exact q
    | cons d ds => exact q.elim
  · cases ds with
    | nil => rfl
    | cons d ds => exact q.elim
  · cases ds with
    | nil => cases a; exact ⟨rfl, q σ S fun vs _ => rfl⟩
    | cons d ds => exact q.elim
theorem gs_cons {es : List Expr} {js ks : List Nat} {t : DG} {u : DGs} (h1 : GD X K e js t) (h2 : GDs X K es ks u) (hs : (assignEach (e :: es) X.env).map (·.2) = assign e X.env :: (assignEach es X.env).map (·.2) := by rfl) : GDs X K (e :: es) (js ++ ks) (gsC t u) := by
  refine ⟨fun ds δ Q Q' i q => ?_, fun ds δ P q => ?_, fun ds δ Q q => ?_, ⟨fun pins s σ H vs us Q I r ⟨Hb, B, O, δ, ds, S, a, q⟩ => (pgs_cons h1.pg h2.pg hs).run pins s σ H vs us Q I r ?_⟩⟩
  · cases ds with
    | nil => exact q
    | cons d ds => exact h1.mono d δ (fun δ' => h2.mono ds δ' i) q
  · cases ds with
    | nil => exact q.elim
    | cons d ds => exact h1.ext d δ P (h1.mono d δ (fun δ' => h2.ext ds δ' P) q)
  · cases ds with
    | nil => exact q.elim
    | cons d ds =>
      rw [List.length_cons, List.length_cons]
      exact congrArg (· + 1) (h1.ext d δ _ (h1.mono d δ (fun δ' => h2.len ds δ' Q) q))
  · cases ds with
    | nil => exact q.elim
    | cons d ds =>
      cases a with
      | cons a r =>
        refine ⟨_, _, rfl, Hb, B, O, δ, d, S, a, h1.mono d δ (fun δ' k σ' S' hw => ?_) q⟩
        exact ⟨Hb, B, O, δ', ds, S', r, h2.mono ds δ' (fun δ'' k σ'' S'' hw2 => k σ'' S'' fun vs hv => (hw2 vs fun j hj => hv j (List.mem_append_right _ hj)).trans (hw vs fun j hj => hv j (List.mem_append_left _ hj))) k⟩
def gT (u : DGs) : DG := fun d δ Q => match d with
  | .tup l => u l δ Q
  | _ => False
theorem g_tup {es : List Expr} {k : Nat} {js : List Nat} {u : DGs} (h : GDs X K es js u) (hc : X.calm = true := by rfl) (hK : X.K = K := by rfl) (hn : (assignEach es X.env).length = es.length := by rfl) (hst : (assignEach es X.env).findIdx? (·.1) = none := by rfl) : GD X K (.Tuple es k pos) js (gT u) := by
  subst hK
  refine ⟨fun d δ Q Q' i q => ?_, fun d δ P q => ?_, ⟨fun pins s σ H v w Q I r ⟨Hb, B, O, δ, d, S, a, q⟩ => (pg_tup hc h.pg hn hst).run pins s σ H v w Q I r ?_⟩⟩
  · cases d with
    | tup l => exact h.mono l δ i q
    | non | bl _ | int _ | str _ | lst _ | scr _ | dic _ _ | ref _ | ptp _ => exact q.elim
  · cases d with
    | tup l => exact h.ext l δ P q
    | non | bl _ | int _ | str _ | lst _ | scr _ | dic _ _ | ref _ | ptp _ => exact q.elim
  · cases d with
    | tup l =>
      cases a with
      | tup h1 h2 h3 => exact ⟨_, _, rfl, sqT_mono hid_out h1, by rw [h3.len]; exact h.len l δ _ q, Hb, B, O, δ, l, S, h3, q⟩
    | non | bl _ | int _ | str _ | lst _ | scr _ | dic _ _ | ref _ | ptp _ => exact q.elim
end
end DL

namespace DL
variable [Tbs]
open PySem L2
/-! ### comprehensions -/
def wipeD (δ : List Sl) : List Nat → List Sl
  | [] => δ
  | v :: vs => (wipeD δ vs).set v .no
def lcRun (t : DG) (tst : DT) (elt : DX) (δ : List Sl) (Q : List D → Prop) : List D → List D → Prop
  | [], acc => Q acc
  | x :: xs, acc => t x δ fun δ' => tst δ' fun b => if b = true then elt δ' fun y => lcRun t tst elt δ Q xs (acc ++ [y]) else lcRun t tst elt δ Q xs acc
def tYesD : DT := fun _ Q => Q true
structure TsD (X : Cx) (K : PySem.W.Frag) (es : List Expr) (x : DT) : Prop where
  mono : MonoT x
  pts : PTs X es (tT K x)
section
variable {X : Cx} {K : PySem.W.Frag} {e : Expr} {pos : Pos}
theorem pts_weak {es : List Expr} {t t' : TT} (h : PTs X es t) (i : ∀ σ H Q, t' σ H Q → t σ H Q) : PTs X es t' := ⟨fun pins s σ H Q I q => h.run pins s σ H Q I (i _ _ _ q)⟩
theorem ts_nil : TsD X K [] tYesD := ⟨fun δ Q Q' i q => i _ q, pts_weak pts_nil fun σ H Q ⟨Hb, B, O, δ, S, q⟩ => q H (.refl H)⟩
theorem ts_one {x : DT} (h : TD X K e x) : TsD X K [e] x := ⟨h.mono, pts_one h.pt⟩
theorem Sta.wiped {Hb H : Hp} {B O : List Addr} {σ : St} {δ : List Sl} (S : Sta K Hb B O H σ δ) : ∀ vs : List Nat, Sta K Hb B O H (wipe σ vs) (wipeD δ vs)
  | [] => S
  | v :: vs => (S.wiped vs).unset
theorem wipe_wipe (σ : St) : ∀ us vs : List Nat, (∀ u ∈ us, u ∈ vs) → wipe (wipe σ us) vs = wipe σ vs
  | [], vs, _ => rfl
  | u :: us, vs, h => by
    show wipe ((wipe σ us).set u none) vs = _
    rw [wipe_set (h u List.mem_cons_self)]
    exact wipe_wipe σ us vs fun w hw => h w (List.mem_cons_of_mem _ hw)
theorem lcRun_mono {t : DG} {tst : DT} {elt : DX} {δ : List Sl} {Q Q' : List D → Prop} (mg : ∀ d δ {Q Q' : List Sl → Prop}, (∀ δ, Q δ → Q' δ) → t d δ Q → t d δ Q') (mt : MonoT tst) (me : MonoX elt) (i : ∀ l, Q l → Q' l) :
    ∀ l acc, lcRun t tst elt δ Q l acc → lcRun t tst elt δ Q' l acc
  | [], acc, h => i _ h
  | x :: xs, acc, h => mg x δ (fun δ' => mt δ' fun b => ite_mono b (me δ' fun y => lcRun_mono mg mt me i xs _) (lcRun_mono mg mt me i xs acc)) h
def fLc (src : DAs) (t : DG) (tst : DT) (elt : DX) (vs : List Nat) : DAs := fun δ Q => src δ fun l => lcRun t tst elt (wipeD δ vs) Q l []
theorem tLc_of {src : DAs} {t : DG} {tst : DT} {elt : DX} {vs js : List Nat} (ms : MonoA src) (mg : ∀ d δ {Q Q' : List Sl → Prop}, (∀ δ, Q δ → Q' δ) → t d δ Q → t d δ Q') (mt : MonoT tst) (me : MonoX elt) (hj : ∀ j ∈ js, j ∈ vs) {σ : St} {H : Hp} {Q : VK}
    (h : tF K (fLc src t tst elt vs) σ H Q) : tLc (iQ K src) (tG K js t) (tT K tst) (tP K elt) vs σ H Q := by
  obtain ⟨Hb, B, O, δ, S, q⟩ := h
  refine ⟨Hb, B, O, δ, S, ms δ (fun l q J H1 s1 hl wk Dn n => ?_) q⟩
  have S0 := S.grow s1
  have live : ∀ b ∈ O, H1 b ≠ none := S0.live
  let Qf : List D → Prop := fun l => ∀ p vs H', Same H H' → H p = none → H' p = some (.lst vs) → l.length ≤ LIM → AtAll K (hid (p :: O) H') vs l → Q (.ref p) H'
  let W : Nat → Nat → Hp → Prop := fun i m H2 => m = l.length - i ∧ i ≤ l.length ∧ ∃ acc ws, Same H1 H2 ∧ H2 Dn = some (.lst ws) ∧ acc.length ≤ i ∧ AtAll K (hid (Dn :: O) H2) ws acc ∧ lcRun t tst elt (wipeD δ vs) Qf (l.drop i) acc
  refine ⟨W, ⟨l.length, by simp, Nat.zero_le _, [], [], same_new n, upd_same, Nat.le_refl _, .nil, q⟩, ?_⟩
  rintro i m H2 ⟨rfl, hi, acc, ws, s2, hd, ha, at2, q⟩
  have nn : H2 Dn ≠ none := by rw [hd]; exact fun z => by cases z
  by_cases lt : i < l.length
  · right
    obtain ⟨d, ed⟩ : ∃ d, l[i]? = some d := ⟨l[i], List.getElem?_eq_getElem lt⟩
    have dr : l.drop i = d :: l.drop (i + 1) := by
      rw [List.drop_eq_getElem_cons lt]
      rw [List.getElem?_eq_getElem lt] at ed
      rw [Option.some.inj ed]
    obtain ⟨go, yl⟩ := (wk i H2 s2.k).1 d ed
    refine ⟨go, W (i + 1) (l.length - (i + 1)), fun H' w => ⟨_, by omega, w⟩, fun x H3 y => ?_⟩
    obtain ⟨s3, ax⟩ := yl x H3 y
    have S2 := (S0.wiped vs).more n s2 nn
    have ax := ax (Dn :: O) S2.live (hid_new n s2)
    have S3 := S2.grow s3
    rw [dr] at q
    refine ⟨Hb, B, Dn :: O, wipeD δ vs, d, S3, ax, mg d _ (fun δ' q σ' S' hw => ⟨?_, ?_⟩) q⟩
    · rw [hw vs hj, wipe_wipe σ vs vs fun _ z => z]
    · refine ⟨Hb, B, Dn :: O, δ', S', mt δ' (fun b q H4 s4 => ite_mono b (fun q => ?_) (fun q => ?_) q) q⟩
      · refine ⟨Hb, B, Dn :: O, δ', S'.grow s4, me δ' (fun y q v H5 s5 ay => ?_) q⟩
        have s35 := s3.trans (s4.trans s5)
        refine ⟨ws, s35.at hd, ?_, rfl, lt, acc ++ [y], ws ++ [v], same_new' (s2.trans s35) n (.lst (s35.at hd)), upd_same, ?_, ?_, q⟩
        · rw [at2.len]; exact Nat.lt_of_le_of_lt (Nat.le_trans ha (Nat.le_trans hi hl)) LIM_size
        · rw [List.length_append, List.length_singleton]; omega
        · rw [hid_upd List.mem_cons_self]
          exact (at2.mono (hid_same s35)).append (.cons ay .nil)
      · have s34 := s3.trans s4
        exact ⟨rfl, lt, acc, ws, s2.trans s34, s34.at hd, by omega, at2.mono (hid_same s34), q⟩
  · left
    have e : i = l.length := by omega
    subst e
    rw [List.drop_length] at q
    exact ⟨(wk _ H2 s2.k).2 (Nat.le_refl _), q Dn ws H2 (s1.trans s2) (s1.free n) hd (Nat.le_trans ha hl) at2⟩
variable {elt tg iter : Expr} {ifs : List Expr} {scope : Scope} {own : List (Str × Nat)} {spos : Pos}
theorem lc_monos {t : DG} {tst : DT} {el : DX} {js : List Nat} (hg : ∀ (s : Shared) (H : Hp) (C : Addr) (cl : List (Str × Addr)) (fp : List Addr), GD (X.blk s H scope (compEnvC scope cl C X.env) fp) K tg js t)
    (ht : ∀ (s : Shared) (H : Hp) (C : Addr) (cl : List (Str × Addr)) (fp : List Addr), TsD (X.blk s H scope (compEnvC scope cl C X.env) fp) K ifs tst)
    (he : ∀ (s : Shared) (H : Hp) (C : Addr) (cl : List (Str × Addr)) (fp : List Addr), PD (X.blk s H scope (compEnvC scope cl C X.env) fp) K elt el) : (∀ d δ {Q Q' : List Sl → Prop}, (∀ δ, Q δ → Q' δ) → t d δ Q → t d δ Q') ∧ MonoT tst ∧ MonoX el :=
  ⟨(hg {} (fun _ => none) 0 [] []).mono, (ht {} (fun _ => none) 0 [] []).mono, (he {} (fun _ => none) 0 [] []).mono⟩
theorem f_lc {src : DAs} {t : DG} {tst : DT} {el : DX} {js : List Nat} (hN : X.N.Nodup) (hi : IQ X K tg iter src) (ok : BlkOk X.N X.env.scope scope own)
    (hg : ∀ (s : Shared) (H : Hp) (C : Addr) (cl : List (Str × Addr)) (fp : List Addr), GD (X.blk s H scope (compEnvC scope cl C X.env) fp) K tg js t)
    (ht : ∀ (s : Shared) (H : Hp) (C : Addr) (cl : List (Str × Addr)) (fp : List Addr), TsD (X.blk s H scope (compEnvC scope cl C X.env) fp) K ifs tst)
    (he : ∀ (s : Shared) (H : Hp) (C : Addr) (cl : List (Str × Addr)) (fp : List Addr), PD (X.blk s H scope (compEnvC scope cl C X.env) fp) K elt el)
    (hj : ∀ j ∈ js, j ∈ own.map (·.2) := by decide) (hc : X.calm = true := by rfl) (hs : ∀ x, foldedSetIterable iter X.env x = pure x := by intro _; rfl) :
    FD X K (.ListComp elt [⟨tg, iter, ifs, 0⟩] scope pos) (fLc src t tst el (own.map (·.2))) := by
  obtain ⟨m1, m2, m3⟩ := lc_monos hg ht he
  exact ⟨fun δ Q Q' i q => hi.mono δ (fun l => lcRun_mono m1 m2 m3 i l []) q, pe_weak (pe_lc hc hN hi.pi ok (fun s H C cl fp => (hg s H C cl fp).pg) (fun s H C cl fp => (ht s H C cl fp).pts) (fun s H C cl fp => (he s H C cl fp).pe) hs) fun σ H Q h => tLc_of hi.mono m1 m2 m3 hj h⟩
end
/-! ## statements -/
structure DE where
  nx : List Sl → Prop
  rt : D → Prop
  bk : List Sl → Prop
  ct : List Sl → Prop
  ex : Addr → Prop
  rs : D → List Sl → Prop
abbrev DS := DE → List Sl → Prop
structure Lk (K : PySem.W.Frag) (Ex : XK) (Hb : Hp) (B : List Addr) (F : DE) (E : Ends) : Prop where
  nx : ∀ O σ H δ, Sta K Hb B O H σ δ → F.nx δ → E.nx σ H
  bk : ∀ O σ H δ, Sta K Hb B O H σ δ → F.bk δ → E.bk σ H
  ct : ∀ O σ H δ, Sta K Hb B O H σ δ → F.ct δ → E.ct σ H
  rt : ∀ v H d, Kept Hb H → At K (hid B H) v d → F.rt d → E.rt v H
  ex : ∀ C H, Kept Hb H → F.ex C → Ex (.ref C) none H
  rs : ∀ O σ H δ v d, Sta K Hb B O H σ δ → At K (hid O H) v d → F.rs d δ → E.rt v H
def tS (K : PySem.W.Frag) (Ex : XK) (g : DS) : TS := fun E σ H => ∃ Hb B O δ F, Sta K Hb B O H σ δ ∧ g F δ ∧ Lk K Ex Hb B F E
structure SD (X : Cx) (K : PySem.W.Frag) (Ex : XK) (st : Stmt) (g : DS) : Prop where
  ps : PS X st (tS K Ex g)
structure SDs (X : Cx) (K : PySem.W.Frag) (Ex : XK) (sts : List Stmt) (g : DS) : Prop where
  pss : PSs X sts (tS K Ex g)
section
variable {X : Cx} {K : PySem.W.Frag} {Ex : XK} {e : Expr} {pos : Pos} {st : Stmt} {sts : List Stmt}
theorem ps_weak {t t' : TS} (h : PS X st t) (i : ∀ E σ H, t' E σ H → t E σ H) : PS X st t' := ⟨fun pins s σ H E I q => h.run pins s σ H E I (i _ _ _ q)⟩
theorem pss_weak {t t' : TS} (h : PSs X sts t) (i : ∀ E σ H, t' E σ H → t E σ H) : PSs X sts t' := ⟨fun pins s σ H E I q => h.run pins s σ H E I (i _ _ _ q)⟩
def gNext : DS := fun F δ => F.nx δ
def gSeq (g h : DS) : DS := fun F δ => g { F with nx := h F } δ
theorem ss_nil : SDs X K Ex [] gNext := ⟨pss_weak pss_nil fun E σ H ⟨Hb, B, O, δ, F, S, q, L⟩ => L.nx _ _ _ _ S q⟩
theorem ss_cons {g h : DS} (h1 : SD X K Ex st g) (h2 : SDs X K Ex sts h) : SDs X K Ex (st :: sts) (gSeq g h) :=
  ⟨pss_weak (pss_cons h1.ps h2.pss) fun E σ H ⟨Hb, B, O, δ, F, S, q, L⟩ => ⟨Hb, B, O, δ, { F with nx := h F }, S, q, fun O' σ' H' δ' S' q' => ⟨Hb, B, O', δ', F, S', q', L⟩, L.bk, L.ct, L.rt, L.ex, L.rs⟩⟩
theorem ss_one {g : DS} (h1 : SD X K Ex st g) : SDs X K Ex [st] g := ⟨pss_one h1.ps⟩
theorem s_pass : SD X K Ex (.Pass pos) gNext := ⟨ps_weak ps_pass fun E σ H ⟨Hb, B, O, δ, F, S, q, L⟩ => L.nx _ _ _ _ S q⟩
def gBreak : DS := fun F δ => F.bk δ
def gCont : DS := fun F δ => F.ct δ
theorem s_break : SD X K Ex (.Break pos) gBreak := ⟨ps_weak ps_break fun E σ H ⟨Hb, B, O, δ, F, S, q, L⟩ => L.bk _ _ _ _ S q⟩
theorem s_continue : SD X K Ex (.Continue pos) gCont := ⟨ps_weak ps_continue fun E σ H ⟨Hb, B, O, δ, F, S, q, L⟩ => L.ct _ _ _ _ S q⟩
def gNever : DS := fun _ _ => False
theorem s_never : SD X K Ex st gNever := ⟨ps_weak ps_never fun E σ H ⟨Hb, B, O, δ, F, S, q, L⟩ => q⟩
def gDrop (x : DX) : DS := fun F δ => x δ fun _ => F.nx δ
theorem s_expr {x : DX} (h : QD X K e x) (hs : swapsWith e none pos.line X.env = pure false := by rfl) : SD X K Ex (.Expr e pos) (gDrop x) :=
  ⟨ps_weak (ps_expr h.pe hs) fun E σ H ⟨Hb, B, O, δ, F, S, q, L⟩ => ⟨Hb, B, O, δ, S, h.mono δ (fun d k v H' s a => L.nx _ _ _ _ (S.grow s) k) q⟩⟩
def gRet (x : DX) : DS := fun F δ => x δ F.rt
theorem s_ret {x : DX} (h : PD X K e x) : SD X K Ex (.Return (some e) pos) (gRet x) :=
  ⟨ps_weak (ps_ret h.pe) fun E σ H ⟨Hb, B, O, δ, F, S, q, L⟩ => ⟨Hb, B, O, δ, S, h.mono δ (fun d k v H' s a => L.rt v H' d (S.same.trans s) ((S.grow s).out a) k) q⟩⟩
def gRetN : DS := fun F _ => F.rt .non
theorem s_retN : SD X K Ex (.Return none pos) gRetN := ⟨ps_weak ps_retN fun E σ H ⟨Hb, B, O, δ, F, S, q, L⟩ => L.rt _ H _ S.same .non q⟩
/-- ahead of a statement: what an own name holds is from now on a value -/
def gFrz (i : Nat) (g : DS) : DS := fun F δ => match sl δ i with
  | .own l => g F (δ.set i (.d (.lst l)))
  | .owk ks vs => g F (δ.set i (.d (.dic ks vs)))
  | _ => False
theorem s_frz (i : Nat) {g : DS} (h : SD X K Ex st g) : SD X K Ex st (gFrz i g) := ⟨ps_weak h.ps fun E σ H ⟨Hb, B, O, δ, F, S, q, L⟩ => by
  unfold gFrz at q
  cases e : sl δ i with
  | own l =>
    rw [e] at q
    obtain ⟨O', S'⟩ := S.freeze (i := i) (by rw [e]; rfl)
    rw [e] at S'
    exact ⟨Hb, B, O', _, F, S', q, L⟩
  | owk ks l =>
    rw [e] at q
    obtain ⟨O', S'⟩ := S.freeze (i := i) (by rw [e]; rfl)
    rw [e] at S'
    exact ⟨Hb, B, O', _, F, S', q, L⟩
  | no => rw [e] at q; exact q.elim
  | ownA p l => rw [e] at q; exact q.elim
  | d x => rw [e] at q; exact q.elim⟩
/-! ### stores -/
def gSet (i : Nat) (x : DX) : DS := fun F δ => x δ fun d => F.nx (δ.set i (.d d))
theorem s_set {i : Nat} {x : Str} {y : DX} {pos' : Pos} (hN : X.N.Nodup) (hi : X.N[i]? = some x) (hx : Loc X.env.scope x) (h : PD X K e y) (hs : swapsWith e (some (.Name x pos')) pos.line X.env = pure false := by rfl)
    (hf : X.fn x = true ∨ X.env.scope.names.lookup x = some .local := by first | exact .inl rfl | exact .inr rfl | assumption) : SD X K Ex (.Assign [.Name x pos'] e pos) (gSet i y) :=
  ⟨ps_weak (ps_set hN hi hx h.pe hs hf) fun E σ H ⟨Hb, B, O, δ, F, S, q, L⟩ => ⟨Hb, B, O, δ, S, h.mono δ (fun d k v H' s a => L.nx _ _ _ _ ((S.grow s).set a) k) q⟩⟩
def gOwn (i : Nat) (x : DAs) : DS := fun F δ => x δ fun l => F.nx (δ.set i (.own l))
theorem own_imp {Hb H H' : Hp} {B O : List Addr} {σ : St} {δ : List Sl} {i : Nat} {p : Addr} {vs : List V} {l : List D} (S : Sta K Hb B O H σ δ) (s : Same H H') (n : H p = none) (hp : H' p = some (.lst vs)) (hl : l.length ≤ LIM) (a : AtAll K (hid (p :: O) H') vs l) :
    Sta K Hb B (p :: O) H' (σ.set i (some (.ref p))) (δ.set i (.own l)) :=
  S.own_new n s rfl ⟨p, vs, rfl, List.mem_cons_self, S.same.free n, hp, hl, a⟩ (by rw [hp]; exact fun z => by cases z)
theorem s_own {i : Nat} {x : Str} {y : DAs} {pos' : Pos} (hN : X.N.Nodup) (hi : X.N[i]? = some x) (hx : Loc X.env.scope x) (h : FD X K e y) (hs : swapsWith e (some (.Name x pos')) pos.line X.env = pure false := by rfl)
    (hf : X.fn x = true ∨ X.env.scope.names.lookup x = some .local := by first | exact .inl rfl | exact .inr rfl | assumption) : SD X K Ex (.Assign [.Name x pos'] e pos) (gOwn i y) :=
  ⟨ps_weak (ps_set hN hi hx h.pe hs hf) fun E σ H ⟨Hb, B, O, δ, F, S, q, L⟩ => ⟨Hb, B, O, δ, S, h.mono δ (fun l k p vs H' s n hp hl a => L.nx _ _ _ _ (own_imp S s n hp hl a) k) q⟩⟩
/-! name = [.. for ..] -/
section
variable {elt tg iter : Expr} {ifs : List Expr} {scope : Scope} {own : List (Str × Nat)} {spos : Pos} {src : DAs} {t : DG} {tst : DT} {el : DX} {js : List Nat} {i : Nat} {y : Str} {py : Pos}
theorem s_ownLc (hN : X.N.Nodup) (hy : X.N[i]? = some y) (hi : IQ X K tg iter src) (ok : BlkOk X.N X.env.scope scope own)
    (hg : ∀ (s : Shared) (H : Hp) (C : Addr) (cl : List (Str × Addr)) (fp : List Addr), GD (X.blk s H scope (compEnvC scope cl C X.env) fp) K tg js t)
    (ht : ∀ (s : Shared) (H : Hp) (C : Addr) (cl : List (Str × Addr)) (fp : List Addr), TsD (X.blk s H scope (compEnvC scope cl C X.env) fp) K ifs tst)
    (he : ∀ (s : Shared) (H : Hp) (C : Addr) (cl : List (Str × Addr)) (fp : List Addr), PD (X.blk s H scope (compEnvC scope cl C X.env) fp) K elt el)
    (hj : ∀ j ∈ js, j ∈ own.map (·.2) := by decide) (hyl : X.env.scope.names.lookup y = some .local := by rfl)
    (hsw : swapsWith (.ListComp elt [⟨tg, iter, ifs, 0⟩] scope pos) (some (.Name y py)) spos.line X.env = pure true := by exact sw_true rfl rfl rfl (by decide +kernel))
    (hc : X.calm = true := by rfl) (hs : ∀ x, foldedSetIterable iter X.env x = pure x := by intro _; rfl) :
    SD X K Ex (.Assign [.Name y py] (.ListComp elt [⟨tg, iter, ifs, 0⟩] scope pos) spos) (gOwn i (fLc src t tst el (own.map (·.2)))) := by
  obtain ⟨m1, m2, m3⟩ := lc_monos hg ht he
  have mo : MonoA (fLc src t tst el (own.map (·.2))) := fun δ Q Q' i q => hi.mono δ (fun l => lcRun_mono m1 m2 m3 i l []) q
  refine ⟨ps_weak (ps_setLc hc hN hy hyl hsw hi.pi ok (fun s H C cl fp => (hg s H C cl fp).pg) (fun s H C cl fp => (ht s H C cl fp).pts) (fun s H C cl fp => (he s H C cl fp).pe) hs) fun E σ H ⟨Hb, B, O, δ, F, S, q, L⟩ => ?_⟩
  show tLc _ _ _ _ _ σ H _
  exact tLc_of hi.mono m1 m2 m3 hj ⟨Hb, B, O, δ, S, mo δ (fun l k p vs H' s n hp hl a => L.nx _ _ _ _ (own_imp S s n hp hl a) k) q⟩
theorem s_setLc (hN : X.N.Nodup) (hy : X.N[i]? = some y) (hi : IQ X K tg iter src) (ok : BlkOk X.N X.env.scope scope own)
    (hg : ∀ (s : Shared) (H : Hp) (C : Addr) (cl : List (Str × Addr)) (fp : List Addr), GD (X.blk s H scope (compEnvC scope cl C X.env) fp) K tg js t)
    (ht : ∀ (s : Shared) (H : Hp) (C : Addr) (cl : List (Str × Addr)) (fp : List Addr), TsD (X.blk s H scope (compEnvC scope cl C X.env) fp) K ifs tst)
    (he : ∀ (s : Shared) (H : Hp) (C : Addr) (cl : List (Str × Addr)) (fp : List Addr), PD (X.blk s H scope (compEnvC scope cl C X.env) fp) K elt el)
    (hj : ∀ j ∈ js, j ∈ own.map (·.2) := by decide) (hyl : X.env.scope.names.lookup y = some .local := by rfl)
    (hsw : swapsWith (.ListComp elt [⟨tg, iter, ifs, 0⟩] scope pos) (some (.Name y py)) spos.line X.env = pure true := by exact sw_true rfl rfl rfl (by decide +kernel))
    (hc : X.calm = true := by rfl) (hs : ∀ x, foldedSetIterable iter X.env x = pure x := by intro _; rfl) :
    SD X K Ex (.Assign [.Name y py] (.ListComp elt [⟨tg, iter, ifs, 0⟩] scope pos) spos) (gSet i (ofF (fLc src t tst el (own.map (·.2))))) := by
  obtain ⟨m1, m2, m3⟩ := lc_monos hg ht he
  have mo : MonoA (fLc src t tst el (own.map (·.2))) := fun δ Q Q' i q => hi.mono δ (fun l => lcRun_mono m1 m2 m3 i l []) q
  refine ⟨ps_weak (ps_setLc hc hN hy hyl hsw hi.pi ok (fun s H C cl fp => (hg s H C cl fp).pg) (fun s H C cl fp => (ht s H C cl fp).pts) (fun s H C cl fp => (he s H C cl fp).pe) hs) fun E σ H ⟨Hb, B, O, δ, F, S, q, L⟩ => ?_⟩
  show tLc _ _ _ _ _ σ H _
  refine tLc_of hi.mono m1 m2 m3 hj ⟨Hb, B, O, δ, S, mo δ (fun l k p vs H' s n hp hl a => L.nx _ _ _ _ ((S.grow s).set ?_) k) q⟩
  have np : p ∉ O := fun z => S.live p z n
  exact .lst (by rw [hid_of np]; exact hp) hl (a.mono (hid_sub fun _ z => List.mem_cons_of_mem _ z))
end
/-- target = value -/
def gAsg (x : DX) (t : DG) : DS := fun F δ => x δ fun d => t d δ F.nx
theorem s_asg {tg : Expr} {js : List Nat} {x : DX} {t : DG} (h : PD X K e x) (hg : GD X K tg js t) (hs : swapsWithSole [tg] e pos.line X.env = pure false := by rfl) (hw : swappedStores [tg] e X.env = pure none := by rfl)
    (h1 : (assignEach [tg] X.env).map (·.2) = [assign tg X.env] := by rfl) : SD X K Ex (.Assign [tg] e pos) (gAsg x t) :=
  ⟨ps_weak (ps_asg h.pe hg.pg hs hw h1) fun E σ H ⟨Hb, B, O, δ, F, S, q, L⟩ => ⟨Hb, B, O, δ, S, h.mono δ (fun d k v H' s a => ⟨Hb, B, O, δ, d, S.grow s, a, hg.mono d δ (fun δ' k σ' S' _ => L.nx _ _ _ _ S' k) k⟩) q⟩⟩
/-- a, b = x, y -/
def gPar (i j : Nat) (x y : DX) : DS := fun F δ => x δ fun a => y δ fun b => F.nx ((δ.set i (.d a)).set j (.d b))
theorem s_par {i j : Nat} {x y : Str} {a b : Expr} {u v : DX} {px py pt : Pos} {kt k2 pt2} (hN : X.N.Nodup) (hi : X.N[i]? = some x) (hj : X.N[j]? = some y) (ha : PD X K a u) (hb : PD X K b v)
    (hij : i ≠ j := by decide) (hx : X.env.scope.names.lookup x = some .local := by rfl) (hy : X.env.scope.names.lookup y = some .local := by rfl)
    (hw : swappedStores [.Tuple [.Name x px, .Name y py] kt pt] (.Tuple [a, b] k2 pt2) X.env = pure (some [x, y]) := by rfl)
    (hs : swapsWithSole [.Tuple [.Name x px, .Name y py] kt pt] (.Tuple [a, b] k2 pt2) pos.line X.env = pure false := by rfl)
    (h1 : starEach [a, b] X.env = (false, eval a X.env) :: starEach [b] X.env := by rfl) (h2 : starEach [b] X.env = (false, eval b X.env) :: starEach [] X.env := by rfl) (hc : X.calm = true := by rfl) :
    SD X K Ex (.Assign [.Tuple [.Name x px, .Name y py] kt pt] (.Tuple [a, b] k2 pt2) pos) (gPar i j u v) := by
  refine ⟨ps_weak (ps_par hc hN hi hj hij hx hy (a_cons ha (a_cons hb a_nil h2) h1).pa hw hs) fun E σ H ⟨Hb, B, O, δ, F, S, q, L⟩ => ⟨Hb, B, O, δ, S, ?_⟩⟩
  show u δ fun d => v δ fun e => _
  refine ha.mono δ (fun d k => hb.mono δ (fun e k vs H1 s1 as => ?_) k) q
  cases as with
  | cons a1 r => cases r with
    | cons a2 r =>
      cases r
      exact ⟨_, _, rfl, L.nx _ _ _ _ (((S.grow s1).set a1).set a2) k⟩
/-- name op= e, of ints -/
def gAug (i : Nat) (f : Int → Int → Int) (y : DX) : DS := fun F δ => dV i δ (asI fun m => y δ (asI fun n => F.nx (δ.set i (.d (.int (f m n))))))
theorem s_aug {i : Nat} {x : Str} {op : Operator} {f : Int → Int → Int} {y : DX} {pos' : Pos} (hN : X.N.Nodup) (hi : X.N[i]? = some x) (hx : Loc X.env.scope x) (h : QD X K e y) (ho : PIp X op (ipI f))
    (hf : X.fn x = true ∨ X.env.scope.names.lookup x = some .local := by first | exact .inl rfl | exact .inr rfl | assumption) : SD X K Ex (.AugAssign (.Name x pos') op e pos) (gAug i f y) := by
  refine ⟨ps_weak (ps_aug hN hi hx h.pe ho hf) fun E σ H ⟨Hb, B, O, δ, F, S, q, L⟩ => ?_⟩
  have a := S.at_ i
  unfold gAug dV at q
  cases es : sl δ i with
  | d x =>
    rw [es] at a q
    obtain ⟨v, h1, h2⟩ := a
    obtain ⟨m, rfl, k⟩ := asI_at q (.at_ h2)
    refine ⟨_, h1, Hb, B, O, δ, S, h.mono δ (fun d k v H1 s1 a => ?_) k⟩
    obtain ⟨n, rfl, k⟩ := asI_at k a
    exact ⟨m, n, rfl, rfl, L.nx _ _ _ _ ((S.grow s1).set (.int _)) k⟩
  | no => rw [es] at q; exact q.elim
  | own l => rw [es] at q; exact q.elim
  | ownA p l => rw [es] at q; exact q.elim
  | owk ks l => rw [es] at q; exact q.elim
/-! ### own lists changed -/
def onOwn (Q : List D → Prop) : Sl → Prop
  | .own l => Q l
  | _ => False
theorem onOwn_at {Q : List D → Prop} {Hb H : Hp} {O : List Addr} {o : Option (Option V)} {s : Sl} (q : onOwn Q s) (a : SlOk K Hb O H o s) : ∃ l r vs, s = .own l ∧ Q l ∧ o = some (some (.ref r)) ∧ r ∈ O ∧ Hb r = none ∧ H r = some (.lst vs) ∧ l.length ≤ LIM ∧ AtAll K (hid O H) vs l := by
  cases s with
  | own l => obtain ⟨r, vs, h⟩ := a; exact ⟨l, r, vs, rfl, q, h⟩
  | ownA p l => exact q.elim
  | no => exact q.elim
  | d x => exact q.elim
  | owk ks l => exact q.elim
theorem own_upd {Hb H : Hp} {B O : List Addr} {σ : St} {δ : List Sl} {i : Nat} {r : Addr} {l l' : List D} {vs : List V} (S : Sta K Hb B O H σ δ) (e : sl δ i = .own l) (hq : σ[i]? = some (some (.ref r))) (m : r ∈ O) (hb : Hb r = none) (hl : l'.length ≤ LIM) (a : AtAll K (hid O H) vs l') :
    Sta K Hb B O (upd H r (.lst vs)) σ (δ.set i (.own l')) :=
  S.own_upd (by rw [e]; rfl) hq m hb ⟨r, vs, rfl, m, hb, upd_same, hl, by rw [hid_upd m]; exact a⟩
def gApp (i : Nat) (x : DX) : DS := fun F δ => onOwn (fun l => x δ fun d => l.length < LIM ∧ F.nx (δ.set i (.own (l ++ [d])))) (sl δ i)
theorem s_append (i : Nat) {x : Str} {y : DX} {p1 p2 p3 : Pos} (h : PD X K e y) (hK : X.K = K := by rfl) (hN : X.N[i]? = some x := by rfl) (hv : Vis X.env.scope x := by first | exact Or.inl rfl | exact Or.inr (Or.inl rfl) | exact Or.inr (Or.inr rfl)) (hd : (x == ("__debug__" : Str)) = false := by decide)
    (hcd : (x == ("__classdict__" : Str)) = false := by decide) (hbase : attributeBase (.Name x p1) "append" X.env (eval (.Name x p1) X.env) = eval (.Name x p1) X.env := by rfl)
    (hfew : ((backTo p3 (starEach [e] X.env)).all (fun x => !x.1) && (backToKw p3 (keywordEach [] X.env)).all (fun x => x.1.isSome) && decide ([e].length + ([] : List Keyword).length + (if ([] : List Keyword).isEmpty then 0 else 1) < 30)) = true := by rfl)
    (hline : (p2.endLine == p3.line) = true := by rfl) (hs : starEach [e] X.env = (false, eval e X.env) :: starEach [] X.env := by rfl) (hpl : (backTo p3 (starEach [] X.env)).any (·.1) = false := by rfl)
    (hsw : swapsWith (.Call (.Attribute (.Name x p1) "append" p2) [e] [] p3) none pos.line X.env = pure false := by rfl) :
    SD X K Ex (.Expr (.Call (.Attribute (.Name x p1) "append" p2) [e] [] p3) pos) (gApp i y) := by
  subst hK
  refine ⟨ps_weak (ps_expr (pe_bm PySem.F.plainAttrs_list PySem.F.slot_list_append PySem.F.type_list_append mt_append (pe_var hN hv hd hcd) (a_cons h a_nil hs).pa hbase hfew hline hs hpl) hsw) fun E σ H ⟨Hb, B, O, δ, F, S, q, L⟩ => ?_⟩
  obtain ⟨l, r, vs, e1, q, h1, h2, h3, h4, h5, h6⟩ := onOwn_at q (S.at_ i)
  refine ⟨_, h1, .inl ⟨rfl, _, .inl (.inl h4)⟩, Hb, B, O, δ, S, h.mono δ (fun d ⟨k0, k⟩ ws H1 s1 as => ?_) q⟩
  cases as with
  | cons a1 r' =>
    cases r'
    refine ⟨r, vs, _, rfl, rfl, s1.at h4, ?_, L.nx _ _ _ _ (own_upd (S.grow s1) e1 h1 h2 h3 ?_ ((h6.mono (hid_same s1)).append (.cons a1 .nil))) k⟩
    · rw [h6.len]; exact Nat.lt_trans k0 LIM_size
    · rw [List.length_append, List.length_singleton]; omega
def asLo (Q : List D → Prop) : D → Prop
  | .lst l => Q l
  | _ => False
def gExt (i : Nat) (x : DX) : DS := fun F δ => onOwn (fun l => x δ (asLo fun m => l.length + m.length ≤ LIM ∧ F.nx (δ.set i (.own (l ++ m))))) (sl δ i)
theorem s_extend (i : Nat) {x : Str} {y : DX} {p1 p2 p3 : Pos} (h : PD X K e y) (hK : X.K = K := by rfl) (hN : X.N[i]? = some x := by rfl) (hv : Vis X.env.scope x := by first | exact Or.inl rfl | exact Or.inr (Or.inl rfl) | exact Or.inr (Or.inr rfl)) (hd : (x == ("__debug__" : Str)) = false := by decide)
    (hcd : (x == ("__classdict__" : Str)) = false := by decide) (hbase : attributeBase (.Name x p1) "extend" X.env (eval (.Name x p1) X.env) = eval (.Name x p1) X.env := by rfl)
    (hfew : ((backTo p3 (starEach [e] X.env)).all (fun x => !x.1) && (backToKw p3 (keywordEach [] X.env)).all (fun x => x.1.isSome) && decide ([e].length + ([] : List Keyword).length + (if ([] : List Keyword).isEmpty then 0 else 1) < 30)) = true := by rfl)
    (hline : (p2.endLine == p3.line) = true := by rfl) (hs : starEach [e] X.env = (false, eval e X.env) :: starEach [] X.env := by rfl) (hpl : (backTo p3 (starEach [] X.env)).any (·.1) = false := by rfl)
    (hsw : swapsWith (.Call (.Attribute (.Name x p1) "extend" p2) [e] [] p3) none pos.line X.env = pure false := by rfl) :
    SD X K Ex (.Expr (.Call (.Attribute (.Name x p1) "extend" p2) [e] [] p3) pos) (gExt i y) := by
  subst hK
  refine ⟨ps_weak (ps_expr (pe_bm PySem.F.plainAttrs_list PySem.F.slot_list_extend PySem.F.type_list_extend mt_extend (pe_var hN hv hd hcd) (a_cons h a_nil hs).pa hbase hfew hline hs hpl) hsw) fun E σ H ⟨Hb, B, O, δ, F, S, q, L⟩ => ?_⟩
  obtain ⟨l, r, vs, e1, q, h1, h2, h3, h4, h5, h6⟩ := onOwn_at q (S.at_ i)
  refine ⟨_, h1, .inl ⟨rfl, _, .inl (.inl h4)⟩, Hb, B, O, δ, S, h.mono δ (fun d k ws H1 s1 as => ?_) q⟩
  cases as with
  | cons a1 r' =>
    cases r'
    unfold asLo at k
    split at k
    · obtain ⟨k0, k⟩ := k
      cases a1 with
      | lst g1 g2 g3 =>
        refine ⟨r, _, vs, _, rfl, rfl, s1.at h4, hid_out.at g1, ?_, L.nx _ _ _ _ (own_upd (S.grow s1) e1 h1 h2 h3 ?_ ((h6.mono (hid_same s1)).append g3)) k⟩
        · rw [h6.len, g3.len]; exact lim_sz k0
        · rw [List.length_append]; exact k0
    · exact k.elim
/-- target = own.pop() -/
def gPop (i : Nat) (t : DG) : DS := fun F δ => onOwn (fun l => onSome l.getLast? fun d => t d (δ.set i (.own l.dropLast)) F.nx) (sl δ i)
theorem s_popSet (i : Nat) {x : Str} {tg : Expr} {js : List Nat} {t : DG} {p1 p2 p3 : Pos} (hg : GD X K tg js t) (hK : X.K = K := by rfl) (hN : X.N[i]? = some x := by rfl) (hv : Vis X.env.scope x := by first | exact Or.inl rfl | exact Or.inr (Or.inl rfl) | exact Or.inr (Or.inr rfl)) (hd : (x == ("__debug__" : Str)) = false := by decide)
    (hcd : (x == ("__classdict__" : Str)) = false := by decide) (hbase : attributeBase (.Name x p1) "pop" X.env (eval (.Name x p1) X.env) = eval (.Name x p1) X.env := by rfl) (hline : (p2.endLine == p3.line) = true := by rfl)
    (hs : swapsWithSole [tg] (.Call (.Attribute (.Name x p1) "pop" p2) [] [] p3) pos.line X.env = pure false := by rfl) (hw : swappedStores [tg] (.Call (.Attribute (.Name x p1) "pop" p2) [] [] p3) X.env = pure none := by rfl)
    (h1 : (assignEach [tg] X.env).map (·.2) = [assign tg X.env] := by rfl) : SD X K Ex (.Assign [tg] (.Call (.Attribute (.Name x p1) "pop" p2) [] [] p3) pos) (gPop i t) := by
  subst hK
  refine ⟨ps_weak (ps_asg (pe_bm0 PySem.F.plainAttrs_list PySem.F.slot_list_pop PySem.F.type_list_pop mt_pop (pe_var hN hv hd hcd) hbase hline) hg.pg hs hw h1) fun E σ H ⟨Hb, B, O, δ, F, S, q, L⟩ => ?_⟩
  obtain ⟨l, r, vs, e1, q, h1, h2, h3, h4, h5, h6⟩ := onOwn_at q (S.at_ i)
  obtain ⟨d, e2, k⟩ := of_onSome q
  rw [List.getLast?_eq_getElem?] at e2
  obtain ⟨v, ev, av⟩ := h6.get' e2
  rw [← h6.len] at ev
  refine ⟨_, h1, .inl ⟨rfl, _, .inl (.inl h4)⟩, r, vs, v, rfl, rfl, h4, ev, Hb, B, O, _, d, own_upd (l' := l.dropLast) S e1 h1 h2 h3 ?_ ?_, ?_, hg.mono d _ (fun δ' k σ' S' _ => L.nx _ _ _ _ S' k) k⟩
  · rw [List.length_dropLast]; omega
  · rw [List.dropLast_eq_take, List.dropLast_eq_take, h6.len]
    exact h6.take _
  · rw [hid_upd h2]; exact av
/-- own[i] = e -/
def gPut (i : Nat) (x y : DX) : DS := fun F δ => y δ fun d => onOwn (fun l => x δ (asI fun k => onSome (ixN l.length k) fun j => F.nx (δ.set i (.own (l.set j d))))) (sl δ i)
theorem s_put (i : Nat) {x : Str} {ie : Expr} {u v : DX} {p1 p2 : Pos} (hi : QD X K ie u) (h : PD X K e v) (hN : X.N[i]? = some x := by rfl) (hv : Vis X.env.scope x := by first | exact Or.inl rfl | exact Or.inr (Or.inl rfl) | exact Or.inr (Or.inr rfl)) (hd : (x == ("__debug__" : Str)) = false := by decide)
    (hcd : (x == ("__classdict__" : Str)) = false := by decide)
    (ha : ∀ v, assign (.Subscript (.Name x p1) ie p2) X.env v = (do
      let ov ← holding [v] (eval (.Name x p1) X.env)
      let iv ← holding [v, ov] (eval ie X.env)
      standAt p2
      holding [v, ov, iv] (setItem ov iv v)
      release [v, ov, iv] []) := by intro _; rfl)
    (hs : swapsWithSole [.Subscript (.Name x p1) ie p2] e pos.line X.env = pure false := by rfl) (hw : swappedStores [.Subscript (.Name x p1) ie p2] e X.env = pure none := by rfl)
    (h1 : (assignEach [.Subscript (.Name x p1) ie p2] X.env).map (·.2) = [assign (.Subscript (.Name x p1) ie p2) X.env] := by rfl) :
    SD X K Ex (.Assign [.Subscript (.Name x p1) ie p2] e pos) (gPut i u v) := by
  refine ⟨ps_weak (ps_asg h.pe (pg_sub (pe_var hN hv hd hcd) hi.pe set_list ha) hs hw h1) fun E σ H ⟨Hb, B, O, δ, F, S, q, L⟩ => ⟨Hb, B, O, δ, S, h.mono δ (fun d q w H1 s1 aw => ?_) q⟩⟩
  have S1 := S.grow s1
  obtain ⟨l, r, vs, e1, q, h1, h2, h3, h4, h5, h6⟩ := onOwn_at q (S1.at_ i)
  refine ⟨_, h1, Hb, B, O, δ, S1, hi.mono δ (fun ix q z H2 s2 az => ?_) q⟩
  obtain ⟨k, rfl, q⟩ := asI_at q az
  obtain ⟨j, ej, q⟩ := of_onSome q
  refine ⟨r, vs, k, j, rfl, rfl, s2.at h4, by rw [h6.len]; exact ej, L.nx _ _ _ _ (own_upd (S1.grow s2) e1 h1 h2 h3 (by rw [List.length_set]; exact h5) ((h6.mono (hid_same s2)).set (aw.mono (hid_same s2)) j)) q⟩
/-! ### if, while, for -/
def gIf (t : DT) (g h : DS) : DS := fun F δ => t δ fun b => if b = true then g F δ else h F δ
theorem s_if {c : Expr} {a b : List Stmt} {t : DT} {g h : DS} (hc : TD X K c t) (ha : SDs X K Ex a g) (hb : SDs X K Ex b h) : SD X K Ex (.If c a b pos) (gIf t g h) :=
  ⟨ps_weak (ps_if hc.pt ha.pss hb.pss) fun E σ H ⟨Hb, B, O, δ, F, S, q, L⟩ => ⟨Hb, B, O, δ, S, hc.mono δ (fun b k H' s => ite_mono b (fun k => ⟨Hb, B, O, δ, F, S.grow s, k, L⟩) (fun k => ⟨Hb, B, O, δ, F, S.grow s, k, L⟩) k) q⟩⟩
def gWhile (t : DT) (g : DS) : DS := fun F δ => ∃ I : Nat → List Sl → Prop, (∃ m, I m δ) ∧ ∀ m δ, I m δ → t δ fun b => if b = true then g { F with nx := fun δ' => ∃ m', m' < m ∧ I m' δ', ct := fun δ' => ∃ m', m' < m ∧ I m' δ', bk := F.nx } δ else F.nx δ
theorem s_while {c : Expr} {body : List Stmt} {t : DT} {g : DS} (hp : PassesOwn (model X.prog X.w) X.A X.env X.xe) (hc : TD X K c t) (hb : SDs X K Ex body g) : SD X K Ex (.While c body [] pos) (gWhile t g) := by
  refine ⟨ps_weak (ps_while hp hc.pt hb.pss) fun E σ H ⟨Hb, B, O, δ, F, S, ⟨I, ⟨m0, i0⟩, step⟩, L⟩ => ⟨fun m σ H => ∃ O δ, Sta K Hb B O H σ δ ∧ I m δ, ⟨m0, O, δ, S, i0⟩, ?_⟩⟩
  rintro m σ1 H1 ⟨O1, δ1, S1, i1⟩
  refine ⟨Hb, B, O1, δ1, S1, hc.mono δ1 (fun b k H' s => ite_mono b (fun k => ?_) (fun k => L.nx _ _ _ _ (S1.grow s) k) k) (step m δ1 i1)⟩
  refine ⟨fun σ' H' => ∃ m', m' < m ∧ ∃ O δ, Sta K Hb B O H' σ' δ ∧ I m' δ, fun _ _ w => w, Hb, B, O1, δ1, _, S1.grow s, k, ?_⟩
  exact ⟨fun O σ H δ S ⟨m', h1, h2⟩ => ⟨m', h1, O, δ, S, h2⟩, L.nx, fun O σ H δ S ⟨m', h1, h2⟩ => ⟨m', h1, O, δ, S, h2⟩, L.rt, L.ex, L.rs⟩
def fLoop (t : DG) (g : DS) (F : DE) : List D → List Sl → Prop
  | [], δ => F.nx δ
  | x :: xs, δ => t x δ fun δ' => g { F with nx := fLoop t g F xs, ct := fLoop t g F xs, bk := F.nx } δ'
def gFor (src : DAs) (t : DG) (g : DS) : DS := fun F δ => src δ fun l => fLoop t g F l δ
def nbs (Hb : Hp) (O : List Addr) : List Addr := O.filter fun a => (Hb a).isNone
theorem nbs_in {Hb : Hp} {O : List Addr} {a : Addr} (h : a ∈ nbs Hb O) : a ∈ O ∧ Hb a = none := by
  obtain ⟨h1, h2⟩ := List.mem_filter.mp h
  exact ⟨h1, by simpa using h2⟩
theorem in_nbs {Hb : Hp} {O : List Addr} {a : Addr} (h : a ∈ O) (n : Hb a = none) : a ∈ nbs Hb O := List.mem_filter.mpr ⟨h, by rw [n]; rfl⟩
theorem hid_in {O : List Addr} {H : Hp} {a : Addr} (h : a ∈ O) : hid O H a = none := if_pos h
theorem Sta.rebase {Hb H : Hp} {B O : List Addr} {σ : St} {δ : List Sl} (S : Sta K Hb B O H σ δ) : Sta K (hid (nbs Hb O) H) B O H σ δ := by
  refine ⟨S.len, hid_out, S.tab, S.sub, fun b hb => ?_, S.live, fun q hq => ?_, fun i => ?_, S.inj⟩
  · rw [hid_of fun z => S.liveB b hb (nbs_in z).2]
    exact S.live b (S.sub b hb)
  · exact (S.fresh q hq).imp id fun n => hid_in (in_nbs hq n)
  · have a := S.at_ i
    cases e : sl δ i with
    | no => trivial
    | d x => rw [e] at a; exact a
    | own l => rw [e] at a; obtain ⟨q, vs, h1, h2, h3, h4⟩ := a; exact ⟨q, vs, h1, h2, hid_in (in_nbs h2 h3), h4⟩
    | ownA q l => rw [e] at a; obtain ⟨vs, h1, h2, h3, h4⟩ := a; exact ⟨vs, h1, h2, hid_in (in_nbs h2 h3), h4⟩
    | owk ks l => rw [e] at a; obtain ⟨q, vs, h1, h2, h3, h4⟩ := a; exact ⟨q, vs, h1, h2, hid_in (in_nbs h2 h3), h4⟩
theorem keep_nbs {Hb H : Hp} {O : List Addr} (k : Keep Hb H) : Keep Hb (hid (nbs Hb O) H) := ⟨fun b x h n => by
  rw [hid_of fun z => by have := (nbs_in z).2; rw [h] at this; cases this]
  exact k.k _ _ h n, fun b n => by
  rw [hid_of fun z => n (nbs_in z).2]
  exact k.l b n⟩
theorem Sta.rebase_same {Hb H : Hp} {B O : List Addr} {σ : St} {δ : List Sl} (S : Sta K Hb B O H σ δ) : Keep Hb (hid (nbs Hb O) H) := ⟨fun b x h n => by
  rw [hid_of fun z => by have := (nbs_in z).2; rw [h] at this; cases this]
  exact S.kp.k _ _ h n, fun b n => by
  rw [hid_of fun z => n (nbs_in z).2]
  exact S.kp.l b n⟩
theorem Sta.based {Hb Hc H : Hp} {B O : List Addr} {σ : St} {δ : List Sl} (S : Sta K Hc B O H σ δ) (s : Keep Hb Hc) (lb : ∀ b ∈ B, Hb b ≠ none) : Sta K Hb B O H σ δ := by
  refine ⟨S.len, s.trans S.kp, S.tab, S.sub, lb, S.live, fun q hq => (S.fresh q hq).imp id fun n => s.free n, fun i => ?_, S.inj⟩
  have a := S.at_ i
  cases e : sl δ i with
  | no => trivial
  | d x => rw [e] at a; exact a
  | own l => rw [e] at a; obtain ⟨q, vs, h1, h2, h3, h4⟩ := a; exact ⟨q, vs, h1, h2, s.free h3, h4⟩
  | ownA q l => rw [e] at a; obtain ⟨vs, h1, h2, h3, h4⟩ := a; exact ⟨vs, h1, h2, s.free h3, h4⟩
  | owk ks l => rw [e] at a; obtain ⟨q, vs, h1, h2, h3, h4⟩ := a; exact ⟨q, vs, h1, h2, s.free h3, h4⟩
theorem s_for {tg iter : Expr} {body : List Stmt} {js : List Nat} {src : DAs} {t : DG} {g : DS} (hp : PassesOwn (model X.prog X.w) X.A X.env X.xe) (hi : IP X K tg iter src) (hg : GD X K tg js t) (hb : SDs X K Ex body g) (hc : X.calm = true := by rfl)
    (hs : ∀ x, foldedSetIterable iter X.env x = pure x := by intro _; rfl) : SD X K Ex (.For tg iter body [] pos) (gFor src t g) := by
  refine ⟨ps_weak (ps_for hp hc hi.pi hg.pg hb.pss hs) fun E σ H ⟨Hb, B, O, δ, F, S, q, L⟩ => ⟨Hb, B, O, δ, S, hi.mono δ (fun l q J H1 s1 hl wk => ?_) q⟩⟩
  have S1 := S.grow s1
  have hsb : Keep (hid O H1) (hid (nbs Hb O) H1) := hid_sub fun a h => (nbs_in h).1
  let W : Nat → Nat → St → Hp → Prop := fun i m σ2 H2 => m = l.length - i ∧ i ≤ l.length ∧ ∃ O2 δ2, Sta K (hid (nbs Hb O) H1) B O2 H2 σ2 δ2 ∧ fLoop t g F (l.drop i) δ2
  refine ⟨W, ⟨l.length, by simp, Nat.zero_le _, O, δ, S1.rebase, q⟩, ?_⟩
  rintro i m σ2 H2 ⟨rfl, hi2, O2, δ2, S2, q⟩
  have w2 := wk i H2 (hsb.trans S2.kp)
  have out : ∀ O σ H δ, Sta K (hid (nbs Hb O) H1) B O H σ δ → True := fun _ _ _ _ _ => trivial
  by_cases lt : i < l.length
  · right
    obtain ⟨d, ed⟩ : ∃ d, l[i]? = some d := ⟨l[i], List.getElem?_eq_getElem lt⟩
    have dr : l.drop i = d :: l.drop (i + 1) := by
      rw [List.drop_eq_getElem_cons lt]
      rw [List.getElem?_eq_getElem lt] at ed
      rw [Option.some.inj ed]
    obtain ⟨go, yl⟩ := w2.1 d ed
    refine ⟨go, W (i + 1) (l.length - (i + 1)), fun σ' H' w => ⟨_, by omega, w⟩, fun x H3 y => ?_⟩
    obtain ⟨s3, ax⟩ := yl x H3 y
    have nO : ∀ a, hid O H1 a ≠ none → a ∉ O2 := fun a h z => by
      rcases S2.fresh a z with z | z
      · exact (hid_none h).1 (S.sub a z)
      · exact hsb.l a h z
    have ax := ax O2 S2.live ⟨fun a u h n => by
      rw [hid_of (nO a (by rw [h]; exact fun z => nomatch z))]
      exact S2.kp.k _ _ (hsb.k _ _ h n) n, fun a h => by
      rw [hid_of (nO a h)]
      exact S2.kp.l _ (hsb.l a h)⟩
    have S3 := S2.grow s3
    rw [dr] at q
    refine ⟨_, B, O2, δ2, d, S3, ax, hg.mono d δ2 (fun δ' k σ' S' _ => ⟨_, B, O2, δ', _, S', k, ?_⟩) q⟩
    exact ⟨fun O σ H δ S q => ⟨rfl, lt, O, δ, S, q⟩, fun O σ H δ S' q => L.nx _ _ _ _ (S'.based S1.rebase_same S.liveB) q, fun O σ H δ S q => ⟨rfl, lt, O, δ, S, q⟩, fun v H d s a q => L.rt v H d (S1.rebase_same.kept s) a q, fun C H s q => L.ex C H (S1.rebase_same.kept s) q, fun O σ H δ v d S' a q => L.rs O σ H δ v d (S'.based S1.rebase_same S.liveB) a q⟩
  · left
    have e : i = l.length := by omega
    subst e
    rw [List.drop_length] at q
    exact ⟨w2.2 (Nat.le_refl _), L.nx _ _ _ _ (S2.based S1.rebase_same S.liveB) q⟩
/-! ### raise; calls of defs that raise -/
def gRaise (C : Addr) : DS := fun F _ => F.ex C
theorem s_raise {C : Addr} {tr : TS} (h : PS X st tr) (i : ∀ D σ H, Ex (.ref C) none H → tr D σ H) : SD X K Ex st (gRaise C) := ⟨ps_weak h fun E σ H ⟨Hb, B, O, δ, F, S, q, L⟩ => i _ _ _ (L.ex C H S.same q)⟩
def MonoRx (R : Rx) : Prop := ∀ ds {Q Q' : D → Prop} {Z Z' : Addr → Prop}, (∀ d, Q d → Q' d) → (∀ C, Z C → Z' C) → R ds Q Z → R ds Q' Z'
abbrev DXX := List Sl → (D → Prop) → (Addr → Prop) → Prop
def tX (K : PySem.W.Frag) (Ex : XK) (x : DXX) : TE := fun σ H Q => ∃ Hb B O δ, Sta K Hb B O H σ δ ∧ x δ (fun d => ∀ v H', Same H H' → At K (hid O H') v d → Q v H') fun C => ∀ H', Same H H' → Ex (.ref C) none H'
structure XD (X : Cx) (K : PySem.W.Frag) (Ex : XK) (e : Expr) (x : DXX) : Prop where
  mono : ∀ δ {Q Q' : D → Prop} {Z Z' : Addr → Prop}, (∀ d, Q d → Q' d) → (∀ C, Z C → Z' C) → x δ Q Z → x δ Q' Z'
  pe : PE X e (tX K Ex x)
def xCall (R : Rx) (xs : List DX) : DXX := fun δ Q Z => dArgs xs δ fun ds => R ds Q Z
theorem x_call {k : Nat} {x : Str} {ps : List Str} {R : Rx} {es : List Expr} {xs : List DX} {p : Pos} (C : Cal X.prog X.w X.K X.mg X.base (L2.CX X.prog X.w) k x ps (spX K R)) (hm : MonoRx R) (hr : Ro k X.A) (tk : Takes X fun cls d _ H => Ex cls d H) (ha : AD X K (e :: es) xs) (hg : Gl X x := by rfl) (hdb : (x == ("__debug__" : Str)) = false := by decide)
    (he : starEach (e :: es) X.env = (false, eval e X.env) :: starEach es X.env := by rfl) (hpl : (backTo pos (starEach es X.env)).any (·.1) = false := by rfl) : XD X K Ex (.Call (.Name x p) (e :: es) [] pos) (xCall R xs) := by
  obtain ⟨f, fd, h1, h2, h3, h4⟩ := C.ex
  refine ⟨fun δ Q Q' Z Z' i j q => ha.mono δ (fun ds => hm ds i j) q, pe_weak (peg_callS h4 hr hg h1 h2 h3 (fun σ => passAt tk σ) ha.pa hdb he hpl) fun σ H Q ⟨Hb, B, O, δ, S, q⟩ => ⟨Hb, B, O, δ, S, ha.mono δ (fun ds g vs H1 s1 as => ?_) q⟩⟩
  exact ⟨O, ds, fun p hp => live_same (S.live p hp) s1, s1.t S.tab, as, hm ds (fun d k v H' s a => k v H' (s1.trans s) a) (fun C k H' s => k H' (s1.trans s)) g⟩
def gDropX (x : DXX) : DS := fun F δ => x δ (fun _ => F.nx δ) F.ex
theorem s_exprX {x : DXX} (h : XD X K Ex e x) (hs : swapsWith e none pos.line X.env = pure false := by rfl) : SD X K Ex (.Expr e pos) (gDropX x) :=
  ⟨ps_weak (ps_expr h.pe hs) fun E σ H ⟨Hb, B, O, δ, F, S, q, L⟩ => ⟨Hb, B, O, δ, S, h.mono δ (fun d k v H' s a => L.nx _ _ _ _ (S.grow s) k) (fun C k H' s => L.ex C H' (S.same.trans s) k) q⟩⟩
def gRetX (x : DXX) : DS := fun F δ => x δ F.rt F.ex
theorem s_retX {x : DXX} (h : XD X K Ex e x) : SD X K Ex (.Return (some e) pos) (gRetX x) :=
  ⟨ps_weak (ps_ret h.pe) fun E σ H ⟨Hb, B, O, δ, F, S, q, L⟩ => ⟨Hb, B, O, δ, S, h.mono δ (fun d k v H' s a => L.rt v H' d (S.same.trans s) ((S.grow s).out a) k) (fun C k H' s => L.ex C H' (S.same.trans s) k) q⟩⟩
def gSetX (i : Nat) (x : DXX) : DS := fun F δ => x δ (fun d => F.nx (δ.set i (.d d))) F.ex
theorem s_setX {i : Nat} {x : Str} {y : DXX} {pos' : Pos} (hN : X.N.Nodup) (hi : X.N[i]? = some x) (hx : Loc X.env.scope x) (h : XD X K Ex e y) (hs : swapsWith e (some (.Name x pos')) pos.line X.env = pure false := by rfl)
    (hf : X.fn x = true ∨ X.env.scope.names.lookup x = some .local := by first | exact .inl rfl | exact .inr rfl | assumption) : SD X K Ex (.Assign [.Name x pos'] e pos) (gSetX i y) :=
  ⟨ps_weak (ps_set hN hi hx h.pe hs hf) fun E σ H ⟨Hb, B, O, δ, F, S, q, L⟩ => ⟨Hb, B, O, δ, S, h.mono δ (fun d k v H' s a => L.nx _ _ _ _ ((S.grow s).set a) k) (fun C k H' s => L.ex C H' (S.same.trans s) k) q⟩⟩
end
/-! ### defs -/
def dstart (n : Nat) (ds : List D) : List Sl := ds.map Sl.d ++ List.replicate (n - ds.length) .no
theorem sta_start {K : PySem.W.Frag} {H : Hp} {B : List Addr} {N : List Str} {vs : List V} {ds : List D} (lb : ∀ b ∈ B, H b ≠ none) (tb : Tabs H) (a : AtAll K (hid B H) vs ds) : Sta K H B B H (L2.start N vs) (dstart N.length ds) := by
  have hl := a.len
  have sd : ∀ i, sl (dstart N.length ds) i = match ds[i]? with | some d => .d d | none => .no := fun i => by
    unfold dstart
    have : ∀ (ds : List D) (m i : Nat), sl (ds.map Sl.d ++ List.replicate m .no) i = match ds[i]? with | some d => .d d | none => .no := by
      intro ds
      induction ds with
      | nil =>
        intro m
        induction m with
        | zero => intro i; rfl
        | succ m ih => intro i; cases i with
          | zero => rfl
          | succ i => exact ih i
      | cons d ds ih => intro m i; cases i with
        | zero => rfl
        | succ i => exact ih m i
    exact this ds _ i
  refine ⟨?_, .refl H, tb, fun b h => h, lb, lb, fun q h => .inl h, fun i => ?_, fun i j q h => ?_⟩
  · unfold L2.start dstart
    rw [List.length_append, List.length_append, List.length_map, List.length_map, List.length_replicate, List.length_replicate, hl]
  · rw [sd i]
    cases e : ds[i]? with
    | none => trivial
    | some d =>
      obtain ⟨v, ev, av⟩ := a.get' e
      refine ⟨v, ?_, av⟩
      unfold L2.start
      have hi := (List.getElem?_eq_some_iff.mp ev).1
      rw [List.getElem?_append_left (by rw [List.length_map]; exact hi), List.getElem?_map, ev]
      rfl
  · rw [sd i] at h
    cases e : ds[i]? with
    | none => rw [e] at h; cases h
    | some d => rw [e] at h; cases h
section
variable {P : Program} {w : World} {K : PySem.W.Frag} {mg : Str → Option Value} {base : Heap}
def endR (Q : D → Prop) : DE := ⟨fun _ => Q .non, Q, fun _ => False, fun _ => False, fun _ => False, fun _ _ => False⟩
/-- a def: its body as a term of rules, and what it gives -/
theorem fn_ok {x : Str} {st : Stmt} {N ps : List Str} {k : Nat} {R : Rf} {g : DS} {f : Addr} {fd : FuncData} (F : Fun K x x st f fd) (S : FnScope N ps (defScope st)) (len : ∀ ds Q, R ds Q → ds.length = ps.length)
    (hb : ∀ (f : Addr) (cdv : Value) (A : Around) (outer : List Env) (s : Shared) (H : Hp) (E : XK), Ro k (A.deeper (PyProof.Rows.envOfC x (defScope st) s.heap.objs.size f cdv)) → SDs (cxOf CX0 P w K mg base N x (defScope st) f cdv A outer s H E).nox K (fun _ _ _ => False) (defBody st) g)
    (hR : ∀ ds Q, R ds Q → g (endR Q) (dstart N.length ds)) : FnG P w K mg base CX0 (k + 1) f fd ps (spW K R) := by
  refine Fun_okG F S (fun vs H Q E ⟨B, ds, lb, tb, a, r⟩ => by rw [a.len]; exact len _ _ r) fun cdv A outer s H vs Q E hr ⟨B, ds, lb, tb, a, r⟩ => ?_
  refine ⟨_, (hb f cdv A outer s H E hr).pss, H, B, B, _, endR _, sta_start lb tb a, hR _ _ r, ?_⟩
  exact ⟨fun O σ H' δ S k => k .non H' S.same.same .non, fun _ _ _ _ _ k => k.elim, fun _ _ _ _ _ k => k.elim, fun v H' d s a k => k v H' s.same a, fun _ _ _ k => k.elim, fun _ _ _ _ _ _ _ _ k => k.elim⟩
theorem cal_ok {x : Str} {st : Stmt} {N ps : List Str} {k : Nat} {R : Rf} {g : DS} (Df : Df K mg x st ps) (S : FnScope N ps (defScope st)) (len : ∀ ds Q, R ds Q → ds.length = ps.length)
    (hb : ∀ (f : Addr) (cdv : Value) (A : Around) (outer : List Env) (s : Shared) (H : Hp) (E : XK), Ro k (A.deeper (PyProof.Rows.envOfC x (defScope st) s.heap.objs.size f cdv)) → SDs (cxOf CX0 P w K mg base N x (defScope st) f cdv A outer s H E).nox K (fun _ _ _ => False) (defBody st) g)
    (hR : ∀ ds Q, R ds Q → g (endR Q) (dstart N.length ds)) : Cal P w K mg base CX0 (k + 1) x ps (spW K R) := by
  obtain ⟨f, fd, gf, F, b⟩ := Df
  exact ⟨f, fd, gf, F.kp, b, fn_ok F S len hb hR⟩
def endX (Q : D → Prop) (Z : Addr → Prop) : DE := ⟨fun _ => Q .non, Q, fun _ => False, fun _ => False, Z, fun _ _ => False⟩
theorem cal_okX {x : Str} {st : Stmt} {N ps : List Str} {k : Nat} {R : Rx} {g : DS} (Df : Df K mg x st ps) (S : FnScope N ps (defScope st)) (len : ∀ ds Q Z, R ds Q Z → ds.length = ps.length)
    (hb : ∀ (f : Addr) (cdv : Value) (A : Around) (outer : List Env) (s : Shared) (H : Hp) (E : XK), Ro k (A.deeper (PyProof.Rows.envOfC x (defScope st) s.heap.objs.size f cdv)) → SDs (cxOf (L2.CX P w) P w K mg base N x (defScope st) f cdv A outer s H E) K E (defBody st) g)
    (hR : ∀ ds Q Z, R ds Q Z → g (endX Q Z) (dstart N.length ds)) : Cal P w K mg base (L2.CX P w) (k + 1) x ps (spX K R) := by
  obtain ⟨f, fd, gf, F, b⟩ := Df
  refine ⟨f, fd, gf, F.kp, b, body_go F S (fun vs H Q E ⟨B, ds, lb, tb, a, r⟩ => by rw [a.len]; exact len _ _ _ r) fun cdv A outer s H vs Q E hr ⟨B, ds, lb, tb, a, r⟩ => ?_⟩
  refine ⟨_, (hb f cdv A outer s H E hr).pss, H, B, B, _, endX _ _, sta_start lb tb a, hR _ _ _ r, ?_⟩
  exact ⟨fun O σ H' δ S k => k .non H' S.same.same .non, fun _ _ _ _ _ k => k.elim, fun _ _ _ _ _ k => k.elim, fun v H' d s a k => k v H' s.same a, fun C H' s k => k H' s.same, fun _ _ _ _ _ _ _ _ k => k.elim⟩
end
end DL

namespace DL
variable [Tbs]
open PySem L2
theorem hu64 {k : Nat} {A : Around} (hr : Ro k A) : A.units + 64 < cLine := by have := hr.un; omega
theorem yT {c : Bool} {A B : Prop} (h : c = true) (a : A) : if c = true then A else B := by rw [if_pos h]; exact a
theorem yF {c : Bool} {A B : Prop} (h : c = false) (b : B) : if c = true then A else B := by rw [h, if_neg Bool.false_ne_true]; exact b
theorem yB {c : Bool} {A B : Prop} (a : c = true → A) (b : c = false → B) : if c = true then A else B := by
  cases c with
  | true => exact iteT (a rfl)
  | false => exact iteF (b rfl)
/-- of a decision -/
theorem yD {p : Prop} [Decidable p] {A B : Prop} (a : p → A) (b : ¬ p → B) : if decide p = true then A else B := yB (fun h => a (of_decide_eq_true h)) (fun h => b (of_decide_eq_false h))
theorem yN {p : Prop} [Decidable p] {A B : Prop} (a : ¬ p → A) (b : p → B) : if (!decide p) = true then A else B := by
  by_cases h : p
  · rw [decide_eq_true h]; exact iteF (b h)
  · rw [decide_eq_false h]; exact iteT (a h)
theorem yNB {c : Bool} {A B : Prop} (a : c = false → A) (b : c = true → B) : if (!c) = true then A else B := by
  cases c with
  | true => exact iteF (b rfl)
  | false => exact iteT (a rfl)
theorem lt_lim {n : Nat} (h : n < 1000000) : n < LIM := h
theorem le_lim {n : Nat} (h : n ≤ 1000000) : n ≤ LIM := h
theorem rgb {a b : Int} (h1 : -1000000 ≤ a) (h2 : a ≤ 1000000) (h3 : b ≤ 1000000) (h4 : -1000000 ≤ b) (h5 : b - a ≤ 1000000) : RgB a b := ⟨h1, h2, h4, h3, by show (b - a).toNat ≤ 1000000; omega⟩
/-- both ways of an if lead on: what follows is shown once (with apply, not refine) -/
theorem joinB {α : Type} {c : Bool} {A : Prop} {P : α → Prop} (ok : α → Prop) (L : α) (h : ok L) (hA : c = true → (∀ L, ok L → P L) → A) (t : ∀ L, ok L → P L) : if c = true then A else P L := yB (fun k => hA k t) (fun _ => t L h)
/-! ### defs by a relation -/
def relR (rr : List D → D → Prop) : Rf := fun ds Q => ∃ d, rr ds d ∧ Q d
theorem relR_mono {rr : List D → D → Prop} : MonoR (relR rr) := fun ds Q Q' i ⟨d, h, q⟩ => ⟨d, h, i _ q⟩
/-- .. not told exactly -/
def allR (dom : List D → Prop) (rr : List D → D → Prop) : Rf := fun ds Q => dom ds ∧ ∀ d, rr ds d → Q d
theorem allR_mono {dom : List D → Prop} {rr : List D → D → Prop} : MonoR (allR dom rr) := fun ds Q Q' i ⟨h, q⟩ => ⟨h, fun d r => i _ (q d r)⟩
inductive Out where
  | ret (d : D) | exc (C : Addr)
def outQ (Q : D → Prop) (Z : Addr → Prop) : Out → Prop
  | .ret d => Q d
  | .exc C => Z C
def relX (rr : List D → Out → Prop) : Rx := fun ds Q Z => ∃ o, rr ds o ∧ outQ Q Z o
theorem relX_mono {rr : List D → Out → Prop} : MonoRx (relX rr) := fun ds Q Q' Z Z' i j ⟨o, h, q⟩ => ⟨o, h, by cases o with
  | ret d => exact i _ q
  | exc C => exact j _ q⟩
/-- an own error class without more -/
structure Exc (K : PySem.W.Frag) (mg : Str → Option Value) (x : Str) (C : Addr) : Prop where
  g : mg x = some (.ref C)
  x : PySem.W.excIn K C [.type "ValueError", .type "Exception", .type "BaseException", .type "object"] "ValueError.__new__" = true
  k : PySem.W.keepIn K (.ref C) = true
  b : PySem.W.subIn K (.ref C) (.type "BaseException") = some true
  t : PySem.W.typeIn K (.ref C) = some (.type "type")
section
variable {X : Cx} {K : PySem.W.Frag} {Ex : XK} {e a b c tg : Expr} {pos : Pos}
/-- slices of lists, tuples, texts -/
def dSl (Q : D → Prop) : D → Option Int → Option Int → Prop
  | .lst l, lo, hi => Q (.lst (cutD l lo hi))
  | .scr l, lo, hi => Q (.lst (cutD l lo hi))
  | .tup l, lo, hi => Q (.tup (cutD l lo hi))
  | .str z, lo, hi => z.length ≤ LIM ∧ Q (.str (cutS z lo hi))
  | _, _, _ => False
theorem dSl_mono {Q Q' : D → Prop} (i : ∀ x, Q x → Q' x) (d : D) (lo hi : Option Int) (q : dSl Q d lo hi) : dSl Q' d lo hi := by
  unfold dSl at q ⊢
  split at q
  · exact i _ q
  · exact i _ q
  · exact i _ q
  · exact ⟨q.1, i _ q.2⟩
  · exact q
theorem cut_all {α : Type} (l : List α) {m : Nat} {lo hi : Option Int} (hl : l.length = m) (w : HT.sIx m 0 lo = 0 ∧ HT.sIx m m hi = m) : cutD l lo hi = l := by
  unfold cutD
  rw [hl, w.1, w.2, List.drop_zero, Nat.sub_zero, ← hl, List.take_length]
theorem d_slice {lo hi : Option Expr} {p2 : Pos} {x : DX} {y z : DO} (ha : QD X K a x) (hl : OD X K lo y) (hh : OD X K hi z) (hK : X.K = K := by rfl) : PD X K (.Subscript a (.Slice lo hi none p2) pos) (fun δ Q => x δ fun d => y δ fun l => z δ fun u => dSl Q d l u) := by
  subst hK
  refine ⟨fun δ Q Q' i q => ha.mono δ (fun d => hl.mono δ fun l => hh.mono δ fun u => dSl_mono i d l u) q, pe_weak (pe_slice (sl_list.or (sl_tupA.or sl_str)) ha.pe hl.po hh.po) fun σ H Q ⟨Hb, B, O, δ, S, q⟩ =>
    ⟨Hb, B, O, δ, S, ha.mono δ (fun d g u H1 s1 au => ⟨Hb, B, O, δ, S.grow s1, hl.mono δ (fun l g H2 s2 => ⟨Hb, B, O, δ, S.grow (s1.trans s2), hh.mono δ (fun h g H3 s3 => ?_) g⟩) g⟩) q⟩⟩
  have au := au.grow (s2.trans s3)
  have s := s1.trans (s2.trans s3)
  have lv : ∀ b ∈ O, H3 b ≠ none := fun b hb => live_same (S.live b hb) s
  unfold dSl at g
  split at g
  · obtain ⟨p, vs, rfl, h1, h2, h3⟩ := au.list
    exact .inl ⟨p, vs, rfl, .inl (.inl h1), fun t n => g _ _ (s.trans (same_new n)) (At.newL lv n (Nat.le_trans (cutD_len _ _ _) h2) (cut_at h3 _ _))⟩
  · obtain ⟨p, vs, rfl, h1, h2, h3⟩ := au.script
    exact .inl ⟨p, vs, rfl, h1, fun t n => g _ _ (s.trans (same_new n)) (At.newL lv n (Nat.le_trans (cutD_len _ _ _) h2) (cut_at h3 _ _))⟩
  · obtain ⟨p, vs, rfl, h1, h2, h3, h4⟩ := au.tuple
    refine .inr (.inl ⟨p, vs, rfl, h1, fun w => g _ H3 s ?_, fun w t n => g _ _ (s.trans (same_new n)) (At.newT lv n (Nat.le_trans (cutD_len _ _ _) h2) (cut_at h3 _ _))⟩)
    rw [cut_all _ h3.len.symm w]
    exact .tup h4 h2 h3
  · exact .inr (.inr ⟨_, au.str, lim_sz g.1, g.2 _ H3 s (.str _)⟩)
  · exact g.elim
end
/-! ### lists of numbers -/
def natsD (l : List Nat) : List D := l.map fun (n : Nat) => D.int (n : Int)
theorem natsD_get {l : List Nat} {k : Nat} {d : Nat} (h : l[k]? = some d) : (natsD l)[k]? = some (.int (d : Int)) := by
  unfold natsD
  rw [List.getElem?_map, h]; rfl
theorem natsD_len (l : List Nat) : (natsD l).length = l.length := List.length_map _
theorem natsD_app (l : List Nat) (n : Nat) : natsD (l ++ [n]) = natsD l ++ [.int (n : Int)] := List.map_append
theorem natsD_ints (l : List Nat) : natsD l = (l.map fun (n : Nat) => (n : Int)).map D.int := by unfold natsD; rw [List.map_map]; rfl
theorem natsD_of {l : List Nat} {k : Nat} {d : D} (h : (natsD l)[k]? = some d) : ∃ n, l[k]? = some n ∧ d = .int (n : Int) := by
  unfold natsD at h
  rw [List.getElem?_map] at h
  cases e : l[k]? with
  | none => rw [e] at h; cases h
  | some n => rw [e] at h; exact ⟨n, rfl, (Option.some.inj h).symm⟩
theorem mod_nat (x : Int) {m : Int} (h : 0 < m) : ∃ n : Nat, x % m = (n : Int) ∧ (n : Int) < m := ⟨(x % m).toNat, by have := Int.emod_nonneg x (by omega : m ≠ 0); omega, by have := Int.emod_lt_of_pos x h; have := Int.emod_nonneg x (by omega : m ≠ 0); omega⟩
theorem mulR {i j : Int} (h : -(2 ^ 64) < j ∧ j < 2 ^ 64) : mulOk i j := .inl (.inr h)
theorem mulL {i j : Int} (h : -(2 ^ 64) < i ∧ i < 2 ^ 64) : mulOk i j := .inl (.inl h)
theorem md {j : Int} (h : 0 < j) : 0 < j := h
theorem divS {i j : Int} (h : 0 < j) (h2 : j < 1000000000) : CDivW i j := wide_div (b := 30) h (by omega) (by decide) (by decide)
/-- a def that may raise, called where it does not -/
theorem d_callL {X : Cx} {K : PySem.W.Frag} {e : Expr} {pos : Pos} {k : Nat} {x : Str} {ps : List Str} {R : Rx} {es : List Expr} {xs : List DX} {p : Pos} (C : Cal X.prog X.w X.K X.mg X.base (L2.CX X.prog X.w) k x ps (spX K R)) (hm : MonoRx R) (hr : Ro k X.A) (ha : AD X K (e :: es) xs) (hg : Gl X x := by rfl) (hdb : (x == ("__debug__" : Str)) = false := by decide)
    (he : starEach (e :: es) X.env = (false, eval e X.env) :: starEach es X.env := by rfl) (hpl : (backTo pos (starEach es X.env)).any (·.1) = false := by rfl) : PD X K (.Call (.Name x p) (e :: es) [] pos) (dCall (fun ds Q => R ds Q fun _ => False) xs) := by
  obtain ⟨f, fd, h1, h2, h3, h4⟩ := C.ex
  refine ⟨fun δ Q Q' i q => ha.mono δ (fun ds => hm ds i fun _ z => z) q, pe_weak (peg_call h4 hr hg h1 h2 h3 .nil passL ha.pa hdb he hpl) fun σ H Q ⟨Hb, B, O, δ, S, q⟩ => ⟨Hb, B, O, δ, S, ha.mono δ (fun ds g vs H1 s1 as => ?_) q⟩⟩
  show spX K R (vs ++ []) H1 Q E0
  rw [List.append_nil]
  exact ⟨O, ds, fun p hp => live_same (S.live p hp) s1, s1.t S.tab, as, hm ds (fun d k v H' s a => k v H' (s1.trans s) a) (fun C k => k.elim) g⟩
def dNeg (x : DX) : DX := fun δ Q => x δ (asI fun i => Q (.int (-i)))
theorem d_neg {X : Cx} {K : PySem.W.Frag} {a : Expr} {pos : Pos} {x : DX} (h : QD X K a x) : PD X K (.UnaryOp .USub a pos) (dNeg x) := by
  refine ⟨fun δ Q Q' i q => h.mono δ (asI_mono fun _ => i _) q, pe_weak (pe_un un_neg h.pe) fun σ H Q ⟨Hb, B, O, δ, S, q⟩ => ⟨Hb, B, O, δ, S, h.mono δ (fun d k v H' s a => ?_) q⟩⟩
  obtain ⟨i, rfl, k⟩ := asI_at k a
  exact ⟨i, rfl, k _ H' s (.int _)⟩
/-! ### in -/
def flatD : D → Bool
  | .non | .bl _ | .int _ | .str _ => true
  | _ => false
def eqF : D → D → Bool
  | .non, .non => true
  | .bl a, .bl b => a == b
  | .bl a, .int b => (if a then 1 else 0) == b
  | .int a, .bl b => a == (if b then 1 else 0)
  | .int a, .int b => a == b
  | .str a, .str b => a == b
  | _, _ => false
def inD (x : D) (l : List D) : Bool := l.any fun y => eqF y x
def seqOf : D → Option (List D)
  | .lst l | .tup l | .scr l => some l
  | _ => none
def oInB (g : Bool → Bool) : D → D → (D → Prop) → Prop := fun x y Q => onSome (seqOf y) fun l => (flatD x = true ∧ l.all flatD = true) ∧ Q (.bl (g (inD x l)))
section
variable {X : Cx} {K : PySem.W.Frag}
theorem flat_at {H : Hp} {v : V} {d : D} (h : At K H v d) (f : flatD d = true) : flatV v = true ∧ ∀ {w : V} {e : D}, At K H w e → flatD e = true → eqV v w = eqF d e := by
  cases h with
  | non => exact ⟨rfl, fun h2 f2 => by cases h2 <;> first | rfl | cases f2⟩
  | bl b => exact ⟨rfl, fun h2 f2 => by cases h2 <;> first | rfl | cases f2⟩
  | int b => exact ⟨rfl, fun h2 f2 => by cases h2 <;> first | rfl | cases f2⟩
  | str b => exact ⟨rfl, fun h2 f2 => by cases h2 <;> first | rfl | cases f2⟩
  | _ => cases f
theorem flats_at {H : Hp} {vs : List V} {l : List D} (h : AtAll K H vs l) (f : l.all flatD = true) {w : V} {e : D} (a : At K H w e) (fe : flatD e = true) : vs.all flatV = true ∧ inV w vs = inD e l := by
  induction vs generalizing l with
  | nil => cases h; exact ⟨rfl, rfl⟩
  | cons v vs ih =>
    cases h with
    | cons h1 h2 =>
      rw [List.all_cons, Bool.and_eq_true] at f
      obtain ⟨g1, g2⟩ := ih h2 f.2
      obtain ⟨k1, k2⟩ := flat_at h1 f.1
      refine ⟨by rw [List.all_cons, k1, g1]; rfl, ?_⟩
      unfold inV inD at g2 ⊢
      rw [List.any_cons, List.any_cons, k2 a fe, g2]
theorem oIn_ok {neg : Bool} {f : Value → Value → Sem Value} (hr : OpR X f (rIn X.K neg)) (hK : X.K = K) : OpD X K f (oInB fun b => if neg then !b else b) := by
  subst hK
  refine ⟨fun a b Q Q' i q => ?_, _, hr, fun O H x y a b Q l ax ay q => ?_⟩
  · exact onSome_mono (fun l q => ⟨q.1, i _ q.2⟩) q
  · obtain ⟨m, e, ⟨f1, f2⟩, q⟩ := of_onSome q
    have go : ∀ p vs, y = .ref p → (SqL X.K H p vs ∨ SqT X.K H p vs) → AtAll X.K (hid O H) vs m → rIn X.K neg x y H Q := fun p vs ey hs h => by
      have ax' : At X.K H x a := ax.plain
      obtain ⟨g1, g2⟩ := flats_at (h.mono hid_out) f2 ax' f1
      refine ⟨p, vs, ey, hs, (flat_at ax' f1).1, g1, ?_⟩
      rw [g2]
      exact q _ H (.refl H) (.bl _)
    cases b with
    | lst l' => cases e; obtain ⟨p, vs, rfl, h1, h2, h3⟩ := ay.list; exact go p vs rfl (.inl (.inl (.inl h1))) h3
    | tup l' => cases e; obtain ⟨p, vs, rfl, h1, h2, h3, _⟩ := ay.tuple; exact go p vs rfl (.inr h1) h3
    | scr l' => cases e; obtain ⟨p, vs, rfl, h1, h2, h3⟩ := ay.script; exact go p vs rfl (.inl h1) h3
    | non | bl _ | int _ | str _ | dic _ _ | ref _ | ptp _ => cases e
theorem o_in (hK : X.K = K := by rfl) : OpD X K (compareOp .In) (oInB fun b => b) := oIn_ok (neg := false) op_in_seq hK
theorem o_notIn (hK : X.K = K := by rfl) : OpD X K (compareOp .NotIn) (oInB fun b => !b) := oIn_ok (neg := true) op_notIn_seq hK
end
/-! ### data that may be compared -/
theorem canLay_ints : ∀ l : List D, (∀ d ∈ l, ∃ i, d = .int i) → isDats l = true ∧ PyData.canLayAll0 (toPs l) = true ∧ PyData.depthAll (toPs l) = 0
  | [], _ => ⟨rfl, rfl, rfl⟩
  | d :: l, h => by
    obtain ⟨i, rfl⟩ := h d List.mem_cons_self
    obtain ⟨h1, h2, h3⟩ := canLay_ints l fun d hd => h d (List.mem_cons_of_mem _ hd)
    refine ⟨?_, ?_, ?_⟩
    · show (true && isDats l) = true
      rw [h1]; rfl
    · show (PyData.canLay0 (.int i) && PyData.canLayAll0 (toPs l)) = true
      rw [h2]; rfl
    · show max (PyData.depth (.int i)) (PyData.depthAll (toPs l)) = 0
      rw [h3]; rfl
theorem okD_ints {l : List D} (h : ∀ d ∈ l, ∃ i, d = .int i) : okD (.lst l) = true := by
  obtain ⟨h1, h2, h3⟩ := canLay_ints l h
  have e : PyData.depth (.list (toPs l)) = PyData.depthAll (toPs l) + 1 := by unfold PyData.depth; rfl
  have e2 : PyData.canLay0 (.list (toPs l)) = PyData.canLayAll0 (toPs l) := by unfold PyData.canLay0; rfl
  show (isDats l && (PyData.canLay0 (.list (toPs l)) && decide (PyData.depth (.list (toPs l)) ≤ 64))) = true
  rw [h1, e, e2, h2, h3]; rfl
theorem okD_nats (l : List Nat) : okD (.lst (natsD l)) = true := okD_ints fun d hd => by
  obtain ⟨n, _, rfl⟩ := List.mem_map.mp hd
  exact ⟨_, rfl⟩
theorem repD_map {α : Type} (f : α → D) (x : α) : ∀ n, repD [f x] n = (List.replicate n x).map f
  | 0 => rfl
  | n + 1 => by rw [repD, repD_map f x n, List.replicate_succ, List.map_cons]; rfl
/-! ### comprehensions, loops -/
theorem lc_run {t : DG} {tst : DT} {elt : DX} {δ : List Sl} {Q : List D → Prop} (keep : D → Bool) (g : D → D) : ∀ {l acc : List D}, (∀ x ∈ l, ∀ (P : D → Prop) (N : Prop), (keep x = true → P (g x)) → (keep x = false → N) → (t x δ fun δ' => tst δ' fun b => if b = true then elt δ' P else N)) →
    Q (acc ++ (l.filter keep).map g) → lcRun t tst elt δ Q l acc
  | [], acc, _, q => by rw [List.filter_nil, List.map_nil, List.append_nil] at q; exact q
  | x :: l, acc, h, q => by
    refine h x List.mem_cons_self _ _ (fun k => ?_) (fun k => ?_)
    · refine lc_run keep g (fun y hy => h y (List.mem_cons_of_mem _ hy)) ?_
      rw [List.filter_cons, if_pos k, List.map_cons] at q
      rw [List.append_assoc]
      exact q
    · refine lc_run keep g (fun y hy => h y (List.mem_cons_of_mem _ hy)) ?_
      rw [List.filter_cons, if_neg (by rw [k]; exact Bool.false_ne_true)] at q
      exact q
theorem lc_map {t : DG} {elt : DX} {δ : List Sl} {Q : List D → Prop} (g : D → D) {l : List D} (h : ∀ x ∈ l, ∀ (P : D → Prop), P (g x) → t x δ fun δ' => elt δ' P) (q : Q (l.map g)) : lcRun t tYesD elt δ Q l [] := by
  have go : ∀ {l acc : List D}, (∀ x ∈ l, ∀ (P : D → Prop), P (g x) → t x δ fun δ' => elt δ' P) → Q (acc ++ l.map g) → lcRun t tYesD elt δ Q l acc := by
    intro l
    induction l with
    | nil => intro acc _ q; rw [List.map_nil, List.append_nil] at q; exact q
    | cons x l ih =>
      intro acc h q
      refine h x List.mem_cons_self _ ?_
      refine ih (fun y hy => h y (List.mem_cons_of_mem _ hy)) ?_
      rw [List.append_assoc]
      exact q
  exact go h (by rw [List.nil_append]; exact q)
/-- over numbers lo, lo + 1, .. -/
theorem lc_rg {t : DG} {elt : DX} {δ : List Sl} {Q : List D → Prop} {lo hi : Int} (g : Nat → D) (h : ∀ i, i < (hi - lo).toNat → ∀ (P : D → Prop), P (g i) → t (.int (lo + (i : Nat))) δ fun δ' => elt δ' P) (q : Q ((List.range (hi - lo).toNat).map g)) : lcRun t tYesD elt δ Q (rgD lo hi) [] := by
  have go : ∀ {l : List Nat} {acc : List D}, (∀ x ∈ l, x < (hi - lo).toNat) → Q (acc ++ l.map g) → lcRun t tYesD elt δ Q (l.map fun i => D.int (lo + (i : Nat))) acc := by
    intro l
    induction l with
    | nil => intro acc _ q; rw [List.map_nil, List.append_nil] at q; exact q
    | cons x l ih =>
      intro acc hl q
      refine h x (hl x List.mem_cons_self) _ ?_
      refine ih (fun y hy => hl y (List.mem_cons_of_mem _ hy)) ?_
      rw [List.append_assoc]
      exact q
  exact go (fun x hx => List.mem_range.mp hx) (by rw [List.nil_append]; exact q)
/-- a loop by its invariant, by turn; N: what follows the turn -/
theorem loop_inv {t : DG} {g : DS} {F : DE} {l : List D} {δ : List Sl} (I : Nat → List Sl → Prop) (h0 : I 0 δ)
    (hs : ∀ i x δ, l[i]? = some x → I i δ → ∀ N : List Sl → Prop, (∀ δ', I (i + 1) δ' → N δ') → t x δ fun δ' => g { F with nx := N, ct := N, bk := F.nx } δ') (hd : ∀ δ, I l.length δ → F.nx δ) : fLoop t g F l δ := by
  have go : ∀ (r : List D) (i : Nat) (δ : List Sl), i + r.length = l.length → (∀ j, r[j]? = l[i + j]?) → I i δ → fLoop t g F r δ := by
    intro r
    induction r with
    | nil =>
      intro i δ hl e p
      have : i = l.length := by simpa using hl
      subst this
      exact hd δ p
    | cons x r ih =>
      intro i δ hl e p
      refine hs i x δ (e 0).symm p _ fun δ' p' => ih (i + 1) δ' (by rw [List.length_cons] at hl; omega) (fun j => ?_) p'
      have := e (j + 1)
      rw [show i + (j + 1) = i + 1 + j by omega] at this
      exact this
  exact go l 0 δ (Nat.zero_add _) (fun j => by rw [Nat.zero_add]) h0
/-- .. over numbers -/
theorem loop_rg {t : DG} {g : DS} {F : DE} {lo hi : Int} {n : Nat} {δ : List Sl} (I : Nat → List Sl → Prop) (hn : (hi - lo).toNat = n) (h0 : I 0 δ)
    (hs : ∀ (i : Nat) δ, i < n → I i δ → ∀ N : List Sl → Prop, (∀ δ', I (i + 1) δ' → N δ') → t (.int (lo + (i : Nat))) δ fun δ' => g { F with nx := N, ct := N, bk := F.nx } δ') (hd : ∀ δ, I n δ → F.nx δ) : fLoop t g F (rgD lo hi) δ := by
  subst hn
  refine loop_inv I h0 (fun i x δ e p => ?_) (fun δ p => hd δ (by rw [rg_len] at p; exact p))
  obtain ⟨h1, rfl⟩ := rgD_get e
  exact hs i δ h1 p
end DL

namespace DL
variable [Tbs]
open PySem L2
/-! ## try: a call; except SpeciesError as e: return what it is -/
def tXW (K : PySem.W.Frag) (W : WX) (x : DXX) : TE := fun σ H Q => ∃ Hb B O δ, Sta K Hb B O H σ δ ∧ x δ (fun d => ∀ v H', Same H H' → At K (hid O H') v d → Q v H') fun C => ∀ H', Same H H' → W (.ref C) none σ H'
structure XW (X : Cx) (K : PySem.W.Frag) (W : WX) (e : Expr) (x : DXX) : Prop where
  mono : ∀ δ {Q Q' : D → Prop} {Z Z' : Addr → Prop}, (∀ d, Q d → Q' d) → (∀ C, Z C → Z' C) → x δ Q Z → x δ Q' Z'
  pe : PE X e (tXW K W x)
section
variable {X : Cx} {K : PySem.W.Frag} {Ex : XK} {e : Expr} {pos : Pos}
theorem xw_call {W : WX} {k : Nat} {x : Str} {ps : List Str} {R : Rx} {es : List Expr} {xs : List DX} {p : Pos} (C : Cal X.prog X.w X.K X.mg X.base (L2.CX X.prog X.w) k x ps (spX K R)) (hm : MonoRx R) (hr : Ro k X.A) (tk : Takes X W) (ha : AD X K (e :: es) xs) (hg : Gl X x := by rfl) (hdb : (x == ("__debug__" : Str)) = false := by decide)
    (he : starEach (e :: es) X.env = (false, eval e X.env) :: starEach es X.env := by rfl) (hpl : (backTo pos (starEach es X.env)).any (·.1) = false := by rfl) : XW X K W (.Call (.Name x p) (e :: es) [] pos) (xCall R xs) := by
  obtain ⟨f, fd, h1, h2, h3, h4⟩ := C.ex
  refine ⟨fun δ Q Q' Z Z' i j q => ha.mono δ (fun ds => hm ds i j) q, pe_weak (peg_callS h4 hr hg h1 h2 h3 (fun σ => passAt tk σ) ha.pa hdb he hpl) fun σ H Q ⟨Hb, B, O, δ, S, q⟩ => ⟨Hb, B, O, δ, S, ha.mono δ (fun ds g vs H1 s1 as => ?_) q⟩⟩
  exact ⟨O, ds, fun p hp => live_same (S.live p hp) s1, s1.t S.tab, as, hm ds (fun d k v H' s a => k v H' (s1.trans s) a) (fun C k H' s => k H' (s1.trans s)) g⟩
/-- isinstance of the error that the suite holds, whatever its class is -/
def rIsX (K : PySem.W.Frag) (a : Addr) (cls : Value) (d : Option Addr) : List V → Hp → VK → Prop := fun xs H Q => ∃ C, ExcC K C ∧ cls = .ref C ∧ d = none ∧ rIsE K C a xs H Q
theorem c_isX {a : Addr} {oe : Obj} {pn : List (Addr × Obj)} {cls : Value} {d : Option Addr} (hz : Zc cls d oe) (hf : ∃ vs, oe.data = .fields vs) : CallR (X.suite a ((a, oe) :: pn)) (.builtin "isinstance") (rIsX X.K a cls d) := by
  intro pins s σ H xs us Q I r ⟨D, C, h1, h2, h⟩
  subst h1 h2
  exact call_isE C hz hf pins s σ H xs us Q I r h
def tIs1 (K : PySem.W.Frag) (i : Nat) (a : Addr) (cls : Value) (d : Option Addr) (C : Addr) : TE := tCB (rIsX K a cls d) (tCons (tVar i) (tCons (tC (.ref C)) tNil))
def tIs (K : PySem.W.Frag) (i : Nat) (a : Addr) (cls : Value) (d : Option Addr) : List Addr → TA
  | [] => tNil
  | C :: Cs => tCons (tIs1 K i a cls d C) (tIs K i a cls d Cs)
/-- what is told of a class -/
inductive IsAll (K : PySem.W.Frag) (C : Addr) : List Addr → List Bool → Prop
  | nil : IsAll K C [] []
  | cons {D : Addr} {b : Bool} {Ds : List Addr} {bs : List Bool} : PySem.W.kitOne K (.ref C) (.ref D) = some b → IsAll K C Ds bs → IsAll K C (D :: Ds) (b :: bs)
structure Caught (K : PySem.W.Frag) (S C : Addr) : Prop where
  x : ExcC K C
  m : PySem.W.exmOne K (.ref C) (.ref S) = some true
theorem tIs1_of {i : Nat} {a C D : Addr} {b : Bool} {σ : St} {H : Hp} {Q : VK} (c : ExcC K C) (h : PySem.W.kitOne K (.ref C) (.ref D) = some b) (hs : σ[i]? = some (some (.ref a))) (q : Q (.bl b) H) : tIs1 K i a (.ref C) none D σ H Q :=
  ⟨_, hs, C, c, rfl, rfl, _, _, b, rfl, fun u r => r, h, q⟩
theorem tIs_of {i : Nat} {a C : Addr} {Ds : List Addr} {bs : List Bool} {σ : St} {H : Hp} {Q : List V → Hp → Prop} (c : ExcC K C) (h : IsAll K C Ds bs) (hs : σ[i]? = some (some (.ref a))) (q : Q (bs.map V.bl) H) : tIs K i a (.ref C) none Ds σ H Q := by
  induction h generalizing Q with
  | nil => exact q
  | cons h _ ih => exact tIs1_of c h hs (ih q)
/-- the judgement of one such call, of a list of them -/
structure IsC (X : Cx) (K : PySem.W.Frag) (i : Nat) (e : Expr) (C : Addr) : Prop where
  pe : ∀ (a : Addr) (oe : Obj) (cls : Value) (d : Option Addr) (pn : List (Addr × Obj)), Zc cls d oe → (∃ vs, oe.data = .fields vs) → PE (X.suite a ((a, oe) :: pn)) e (tIs1 K i a cls d C)
structure IsCs (X : Cx) (K : PySem.W.Frag) (i : Nat) (es : List Expr) (Cs : List Addr) : Prop where
  pa : ∀ (a : Addr) (oe : Obj) (cls : Value) (d : Option Addr) (pn : List (Addr × Obj)), Zc cls d oe → (∃ vs, oe.data = .fields vs) → PA (X.suite a ((a, oe) :: pn)) es (tIs K i a cls d Cs)
theorem is_c {i : Nat} {x n : Str} {C : Addr} {p1 p2 p3 : Pos} (hK : X.K = K) (hm : X.mg "isinstance" = none) (hC : X.mg x = some (.ref C)) (hN : X.N[i]? = some n := by rfl) (hv : Vis X.env.scope n := by first | exact Or.inl rfl | exact Or.inr (Or.inl rfl) | exact Or.inr (Or.inr rfl)) (hd : (n == ("__debug__" : Str)) = false := by decide)
    (hcd : (n == ("__classdict__" : Str)) = false := by decide) (hg : Gl X "isinstance" := by rfl) (hgC : Gl X x := by rfl) (hdx : (x == ("__debug__" : Str)) = false := by decide)
    (he : ∀ p, starEach [.Name n p2, .Name x p] X.env = (false, eval (.Name n p2) X.env) :: starEach [.Name x p] X.env := by intro _; rfl) (he2 : ∀ p, starEach [.Name x p] X.env = (false, eval (.Name x p) X.env) :: starEach [] X.env := by intro _; rfl)
    (hpl : (backTo pos (starEach [.Name x p3] X.env)).any (·.1) = false := by rfl) : IsC X K i (.Call (.Name "isinstance" p1) [.Name n p2, .Name x p3] [] pos) C := by
  subst hK
  exact ⟨fun a oe cls d pn hz hf => pe_callB (X := X.suite a ((a, oe) :: pn)) (c_isX hz hf) hg hm (by decide +kernel) (pa_cons (pe_var hN hv hd hcd) (pa_cons (pe_glob hgC hC rfl hdx) pa_nil (he2 _)) (he _)) (he := he _) (hpl := hpl)⟩
theorem is_nil {i : Nat} : IsCs X K i [] [] := ⟨fun _ _ _ _ _ _ _ => pa_nil⟩
theorem is_cons {i : Nat} {es : List Expr} {C : Addr} {Cs : List Addr} (h : IsC X K i e C) (r : IsCs X K i es Cs) (hs : starEach (e :: es) X.env = (false, eval e X.env) :: starEach es X.env := by rfl) : IsCs X K i (e :: es) (C :: Cs) :=
  ⟨fun a oe cls d pn hz hf => pa_cons (h.pe a oe cls d pn hz hf) (r.pa a oe cls d pn hz hf) hs⟩
def hasSl (i : Nat) (δ : List Sl) : Prop := ∃ s r, δ.drop i = s :: r
theorem hasSl_lt {i : Nat} {δ : List Sl} (h : hasSl i δ) : i < δ.length := by
  obtain ⟨s, r, e⟩ := h
  have := congrArg List.length e
  rw [List.length_drop, List.length_cons] at this
  omega
def gTryL (i : Nat) (K : PySem.W.Frag) (S : Addr) (x : DXX) (Cs : List Addr) : DS := fun F δ => x δ (fun _ => F.nx δ) fun C => Caught K S C ∧ hasSl i δ ∧ ∃ bs, IsAll K C Cs bs ∧ F.rt (.lst (bs.map D.bl))
def gTry1 (i : Nat) (K : PySem.W.Frag) (S : Addr) (x : DXX) (D0 : Addr) : DS := fun F δ => x δ (fun _ => F.nx δ) fun C => Caught K S C ∧ hasSl i δ ∧ ∃ b, PySem.W.kitOne K (.ref C) (.ref D0) = some b ∧ F.rt (.bl b)
variable {i : Nat} {n xS : Str} {S : Addr} {p1 p2 p3 p4 p5 : Pos} {xb : DXX} {es : List Expr} {Cs : List Addr} {D0 : Addr}
theorem isAll_len {C : Addr} {Ds : List Addr} {bs : List Bool} (h : IsAll K C Ds bs) : bs.length = Ds.length := by
  induction h with
  | nil => rfl
  | cons _ _ ih => rw [List.length_cons, List.length_cons, ih]
theorem bls_at {H : Hp} : ∀ bs : List Bool, AtAll K H (bs.map V.bl) (bs.map D.bl)
  | [] => .nil
  | b :: bs => .cons (.bl b) (bls_at bs)
theorem s_tryL (hS : X.mg xS = some (.ref S)) (hN : X.N.Nodup) (hb : ∀ (W : WX) (pn : List (Addr × Obj)) (xe : Value → Shared → Prop), Takes (X.tr pn xe) W → XW (X.tr pn xe) K W e xb) (hi : IsCs X K i es Cs) (hl : Cs.length ≤ 1000 := by exact Nat.le_of_ble_eq_true rfl) (hNi : X.N[i]? = some n := by rfl) (hK : X.K = K := by rfl)
    (hs : X.stack = X.env :: X.outer := by rfl) (hf : X.env.frame = some X.env.locals := by rfl) (hln : X.env.kindOf n = some .local := by rfl) (hc : Names X xS (.ref S) := by exact ⟨rfl, by decide, .inl (by assumption)⟩)
    (hsw : swapsWith e none p1.line X.env = pure false := by rfl) : SD X K Ex (.Try [.Expr e p1] [.ExceptHandler (some (.Name xS p2)) (some n) [.Return (some (.List es p3)) p4] p5] [] [] pos) (gTryL i K S xb Cs) := by
  subst hK
  refine ⟨ps_weak (ps_try_as (i := i) (tb := fun W => tDrop (tXW X.K W xb)) (ts := fun a cls d => tRet (tLst (tIs X.K i a cls d Cs))) (Wout := fun _ _ _ _ => False) hs hf hN hNi hln hc takes0
    (fun W pn xe tk _ => pss_one (ps_expr (hb W pn xe tk).pe hsw)) (fun a oe cls d pn hz hf => pss_one (ps_ret (pe_lst (hi.pa a oe cls d pn hz hf))))) fun E σ H ⟨Hb, B, O, δ, F, St, q, L⟩ => ?_⟩
  have q : xb δ (fun _ => F.nx δ) fun C => Caught X.K S C ∧ hasSl i δ ∧ ∃ bs, IsAll X.K C Cs bs ∧ F.rt (.lst (bs.map D.bl)) := q
  have mono := (hb (fun _ _ _ _ => False) [] (fun _ _ => False) takes0).mono
  refine ⟨Hb, B, O, δ, St, mono δ (fun d k v H' s a => L.nx _ _ _ _ (St.grow s) k) (fun C ⟨c, hsl, bs, hbs, k⟩ H' s => ?_) q⟩
  refine ⟨true, c.m, fun _ a0 ha0 => ?_, fun z => by cases z⟩
  refine tIs_of c.x hbs ?_ ⟨?_, fun p np => L.rt _ _ _ (St.same.trans (s.trans (same_new np))) (.lst ?_ ?_ (bls_at _)) k⟩
  · rw [List.getElem?_set_self]
    rw [St.len]; exact hasSl_lt hsl
  · rw [List.length_map, isAll_len hbs]; exact lim_sz (Nat.le_trans hl (by decide))
  · have := hid_of (O := B) (H := upd H' p (.lst (bs.map V.bl))) (a := p) (fun z => by
      have h1 := St.live p (St.sub p z)
      exact h1 (s.free np))
    rw [this, upd_same]
  · rw [List.length_map, isAll_len hbs]; exact Nat.le_trans hl (by decide)
theorem s_try1 {se : Expr} (hS : X.mg xS = some (.ref S)) (hN : X.N.Nodup) (hb : ∀ (W : WX) (pn : List (Addr × Obj)) (xe : Value → Shared → Prop), Takes (X.tr pn xe) W → XW (X.tr pn xe) K W e xb) (hi : IsC X K i se D0) (hNi : X.N[i]? = some n := by rfl) (hK : X.K = K := by rfl)
    (hs : X.stack = X.env :: X.outer := by rfl) (hf : X.env.frame = some X.env.locals := by rfl) (hln : X.env.kindOf n = some .local := by rfl) (hc : Names X xS (.ref S) := by exact ⟨rfl, by decide, .inl (by assumption)⟩)
    (hsw : swapsWith e none p1.line X.env = pure false := by rfl) : SD X K Ex (.Try [.Expr e p1] [.ExceptHandler (some (.Name xS p2)) (some n) [.Return (some se) p4] p5] [] [] pos) (gTry1 i K S xb D0) := by
  subst hK
  refine ⟨ps_weak (ps_try_as (i := i) (tb := fun W => tDrop (tXW X.K W xb)) (ts := fun a cls d => tRet (tIs1 X.K i a cls d D0)) (Wout := fun _ _ _ _ => False) hs hf hN hNi hln hc takes0
    (fun W pn xe tk _ => pss_one (ps_expr (hb W pn xe tk).pe hsw)) (fun a oe cls d pn hz hf => pss_one (ps_ret (hi.pe a oe cls d pn hz hf)))) fun E σ H ⟨Hb, B, O, δ, F, St, q, L⟩ => ?_⟩
  have q : xb δ (fun _ => F.nx δ) fun C => Caught X.K S C ∧ hasSl i δ ∧ ∃ b, PySem.W.kitOne X.K (.ref C) (.ref D0) = some b ∧ F.rt (.bl b) := q
  have mono := (hb (fun _ _ _ _ => False) [] (fun _ _ => False) takes0).mono
  refine ⟨Hb, B, O, δ, St, mono δ (fun d k v H' s a => L.nx _ _ _ _ (St.grow s) k) (fun C ⟨c, hsl, b, hb, k⟩ H' s => ?_) q⟩
  refine ⟨true, c.m, fun _ a0 ha0 => ?_, fun z => by cases z⟩
  refine tIs1_of c.x hb ?_ (L.rt _ _ _ (St.same.trans s) (.bl b) k)
  rw [List.getElem?_set_self]
  rw [St.len]; exact hasSl_lt hsl
end
end DL

/-! further rules: counting in tuples, sorted tuples, sets of ints -/
namespace DL
variable [Tbs]
open PySem L2 PyProof.Rows
theorem sort_meets (a : Addr) : Meets (Builtin.«list.sort» { pos := [Value.ref a] }) fun _ R s => ∃ (vs : List Value) (ns : List Int) (n : Nat), s.heap.get? a = some (seqObj "list" vs.toArray n) ∧ IntsAre vs ns ∧ vs.length ≤ sizeLine ∧ ∀ (out : List Value) (ns' : List Int), IntsAre out ns' → ns'.Perm ns → ns'.Pairwise (· ≤ ·) → R (Except.ok (Flow.ret .none)) { s with heap := sortedHeap s.heap a vs out.toArray } := by
  rintro prog w A R s ⟨vs, ns, n, h1, h2, h3, q⟩
  refine SrtO.list_sort_ord (vs := vs) (n := n) (ltv := SrtO.ltIv) SrtO.swo_int h1 h3 (fun z => SrtO.ints_sortable h2 z) fun out hs hb => ?_
  obtain ⟨i1, i2, i3⟩ := SrtO.ints_out h2 hs hb
  exact q out _ i1 i2 i3
theorem iadd_tup {prog : Program} {w : World} {A : Around} {R : Result → Shared → Prop} {s : Shared} {S l : Addr} {o : Obj} {vs : List Value} {n c : Nat} (hS : s.heap.get? S = some { cls := Value.type "list", data := Data.seq #[] c }) (ho : s.heap.get? l = some o) (hc : o.cls = .type "tuple") (hd : o.data = .seq vs.toArray n) (hz : vs.length ≤ sizeLine)
    (q : R (Except.ok (Flow.ret (.ref S))) { s with heap := s.heap.update S (Obj.mapSeq fun x => x ++ vs.toArray) }) : codeAny (model prog w) A (Code.builtin "list.__iadd__" { pos := [.ref S, .ref l] }) R s := by
  refine codeAny_builtin F.entry_list_iadd ?_
  rw [Around.under_plainId F.plain_list_iadd]
  show wpAny _ _ (Builtin.List.listExtendWith (.ref S) (.ref l) (.ref S)) _ _ _
  exact wpAny_extend_seq S l _ c (.inr rfl) hS ho hc hd q (by simpa using hz)
theorem collect_tup {prog : Program} {w : World} {A : Around} {E : Value → Shared → Prop} {s : Shared} {l : Addr} {o : Obj} {vs : List Value} {n : Nat} {Q : List Value → Shared → Prop} (ho : s.heap.get? l = some o) (hc : o.cls = .type "tuple") (hd : o.data = .seq vs.toArray n) (hz : vs.length ≤ sizeLine)
    (q : Q vs { s with heap := (s.heap.push (seqObj "list" #[] 0)).update s.heap.objs.size (Obj.mapSeq fun x => x ++ vs.toArray) }) : wpAny (model prog w) A (collect (.ref l)) Q E s := by
  unfold collect
  have e0 := Heap.get?_push_size s.heap (o := seqObj "list" #[] 0) rfl
  have e1 : ((s.heap.push (seqObj "list" #[] 0)).update s.heap.objs.size (Obj.mapSeq fun x => x ++ vs.toArray)).get? s.heap.objs.size = some (Obj.mapSeq (fun x => x ++ vs.toArray) (seqObj "list" #[] 0)) := Heap.get?_update_self _ e0 rfl
  refine wpAny_bind (wpAny_runValue (codeAny_builtin F.entry_proto_collect ?_))
  rw [Around.under_plainId F.plain_proto_collect]
  unfold Builtin.«proto.collect»
  refine wpAny_bind (wpAny_newList ?_ (by decide))
  refine wpAny_pure ⟨plainId_quiet F.plain_list_iadd _, iadd_tup (c := 0) e0 (Heap.get?_push_of_some _ ho) hc hd hz ?_⟩
  refine wpAny_bind (wpAny_load e1 ?_)
  exact wpAny_pure (by simpa using q)
/-- sorted of a tuple of ints -/
theorem sorted_tup {prog : Program} {w : World} {A : Around} {E : Value → Shared → Prop} {s : Shared} {l : Addr} {o : Obj} {vs : List Value} {ns : List Int} {n : Nat} {Q : Value → Shared → Prop} (ho : s.heap.get? l = some o) (hc : o.cls = .type "tuple") (hd : o.data = .seq vs.toArray n) (ia : IntsAre vs ns) (hz : vs.length ≤ sizeLine)
    (q : ∀ (h' : Heap) (p : Addr) (out : List Value) (ns' : List Int) (e : Nat), (∀ b o, s.heap.get? b = some o → h'.get? b = some o) → s.heap.objs.size ≤ p → h'.get? p = some (seqObj "list" out.toArray e) → IntsAre out ns' → ns'.Perm ns → ns'.Pairwise (· ≤ ·) → Q (.ref p) { s with heap := h' }) :
    wpAny (model prog w) A (call (.builtin "sorted") [.ref l]) Q E s := by
  refine call_builtin_at plain_sorted entry_sorted (args_sorted1 _) fun Γ p _ hΓ => ?_
  refine (show wpAny (model prog w) A.in1 (Builtin.sorted { pos := [Value.ref l] }) _ E s from ?_) Γ p hΓ
  unfold Builtin.sorted
  refine wpAny_bind (wpAny_pure ?_)
  refine wpAny_bind (collect_tup ho hc hd hz ?_)
  refine wpAny_bind (wpAny_newList ?_ hz)
  refine wpAny_bind (wpAny_holding ?_)
  let h1 := (s.heap.push (seqObj "list" #[] 0)).update s.heap.objs.size (Obj.mapSeq fun x => x ++ vs.toArray)
  have hs1 : h1.objs.size = s.heap.objs.size + 1 := (Heap.size_update _ _ _).trans (Heap.size_push _ _)
  have e0 := Heap.get?_push_size h1 (o := seqObj "list" vs.toArray 0) rfl
  refine call_meets slot_list_sort ⟨_, e0, rfl⟩ entry_list_sort (args_list_sort _) (sort_meets _) ⟨vs, ns, 0, e0, ia, hz, fun out ns' i1 i2 i3 => ?_⟩
  obtain ⟨e, he⟩ := sortedAll_at s.heap vs out.toArray
  refine wpAny_pure ⟨_, rfl, ?_⟩
  have := q (sortedAll s.heap vs out.toArray) (s.heap.objs.size + 1) out ns' e (fun b o hb => sortedAll_old hb) (Nat.le_succ _) he i1 i2 i3
  show Q (.ref h1.objs.size) { s with heap := sortedHeap (h1.push (seqObj "list" vs.toArray 0)) h1.objs.size vs out.toArray }
  rw [hs1]
  exact this
def rSortT (K : PySem.W.Frag) : List V → Hp → VK → Prop := fun vs H Q => ∃ (a : Addr) (ns : List Int), vs = [V.ref a] ∧ SqT K H a (ns.map V.int) ∧ ∀ (ns' : List Int) (p : Addr), ns'.Perm ns → ns'.Pairwise (· ≤ ·) → H p = none → Q (.ref p) (upd H p (.lst (ns'.map V.int)))
theorem cr_sortedTup {X : Cx} : CallR X (.builtin "sorted") (rSortT X.K) := by
  intro pins s σ H xs us Q I rx q
  obtain ⟨a, ns, rfl, hs, q⟩ := q
  obtain ⟨its, rv, ⟨o, ho, hc, n, hd⟩, hz⟩ := I.tuple hs
  obtain ⟨u, rfl, ru⟩ := vals1 rx
  obtain rfl : u = Value.ref a := ru
  have ia : IntsAre its ns := Vals.ints rv
  refine sorted_tup ho hc hd ia (by rw [← rv.length]; exact hz) fun h' p out ns' e k1 k2 k3 i1 i2 i3 => ?_
  refine ⟨.ref p, upd H p (.lst (ns'.map V.int)), I.laid (t' := s.toks) k1 k2 ⟨?_, out, _, vals_ints i1, k3⟩, rfl, q _ _ i2 i3 (I.hok.fresh k2)⟩
  rw [List.length_map] at hz ⊢
  rw [i2.length_eq]
  exact hz
def rSetT (K : PySem.W.Frag) (w : World) : List V → Hp → VK → Prop := fun vs H Q => ∃ (a : Addr) (ns : List Int), vs = [V.ref a] ∧ SqT K H a (ns.map V.int) ∧ ns.length ≤ 1000 ∧ ∀ (p : Addr) (c : Nat), c ≤ ns.length → H p = none → Q (.ref p) (upd H p (SetO w p (fun j => decide (j ∈ ns)) c))
theorem cr_setTup {X : Cx} (hc : X.calm = true) : CallR X (.type "set") (rSetT X.K X.w) := by
  intro pins s σ H xs us Q I rx q
  obtain ⟨a, ns, rfl, hs, hl, q⟩ := q
  obtain ⟨its, rv, hT, hz⟩ := I.tuple hs
  obtain ⟨u, rfl, ru⟩ := vals1 rx
  obtain rfl : u = Value.ref a := ru
  have ia : IntsAre its ns := Vals.ints rv
  refine call_set_tupI ns (I.ok.hd hc) hT ia (Nat.lt_of_le_of_lt (Nat.succ_le_succ hl) (by decide)) fun h' tk c k1 k2 k3 => ?_
  exact ⟨.ref _, upd H _ (SetO X.w _ (fun j => decide (j ∈ ns)) c), I.laid (t' := tk) k3 (Nat.le_refl _) (setO_new k1), rfl, q _ c k2 (I.hok.fresh (Nat.le_refl _))⟩
theorem cr_or {X : Cx} {f : Value} {r r' : List V → Hp → VK → Prop} (h : CallR X f r) (h' : CallR X f r') : CallR X f fun vs H Q => r vs H Q ∨ r' vs H Q := fun pins s σ H xs us Q I v q => q.elim (h pins s σ H xs us Q I v) (h' pins s σ H xs us Q I v)
section
variable {X : Cx} {K : PySem.W.Frag} {Ex : XK} {e a b c tg : Expr} {pos : Pos}
/-- sorted of a list or a tuple of ints -/
def gSortA : D → (List D → Prop) → Prop
  | .lst l, Q => ∃ ns : List Int, l = ns.map D.int ∧ ∀ ns' : List Int, ns'.Perm ns → ns'.Pairwise (· ≤ ·) → Q (ns'.map D.int)
  | .tup l, Q => ∃ ns : List Int, l = ns.map D.int ∧ ∀ ns' : List Int, ns'.Perm ns → ns'.Pairwise (· ≤ ·) → Q (ns'.map D.int)
  | _, _ => False
theorem c_sortedA (hK : X.K = K := by rfl) : CaF X K (.builtin "sorted") (o1F gSortA) := by
  subst hK
  refine ca1F (cr_or cr_sortedI cr_sortedTup) (fun d Q Q' i q => ?_) fun O H v d Q l a q => ?_
  · unfold gSortA at q ⊢
    split at q
    · obtain ⟨ns, h, q⟩ := q; exact ⟨ns, h, fun m a b => i _ (q m a b)⟩
    · obtain ⟨ns, h, q⟩ := q; exact ⟨ns, h, fun m a b => i _ (q m a b)⟩
    · exact q
  · unfold gSortA at q
    split at q
    · obtain ⟨ns, rfl, q⟩ := q
      obtain ⟨p, vs, rfl, h1, h2, h3⟩ := a.list
      obtain rfl := h3.ints_of
      refine .inl ⟨p, ns, rfl, .inl (.inl h1), fun ns' t pm pw n => q ns' pm pw t _ _ (same_new n) n upd_same ?_ (.ints _)⟩
      rw [List.length_map] at h2 ⊢
      rw [pm.length_eq]; exact h2
    · obtain ⟨ns, rfl, q⟩ := q
      obtain ⟨p, vs, rfl, h1, h2, h3, _⟩ := a.tuple
      obtain rfl := h3.ints_of
      refine .inr ⟨p, ns, rfl, h1, fun ns' t pm pw n => q ns' pm pw t _ _ (same_new n) n upd_same ?_ (.ints _)⟩
      rw [List.length_map] at h2 ⊢
      rw [pm.length_eq]; exact h2
    · exact q.elim
/-- sorted(set(x)), x a tuple of ints -/
def gSortSet (Q : List D → Prop) : D → Prop
  | .tup l => ∃ ns : List Int, l = ns.map D.int ∧ ns.length < 64 ∧ ∀ ns' : List Int, ns'.Pairwise (· < ·) → (∀ k, k ∈ ns' ↔ k ∈ ns) → Q (ns'.map D.int)
  | _ => False
theorem gSortSet_mono {Q Q' : List D → Prop} (i : ∀ l, Q l → Q' l) (d : D) (q : gSortSet Q d) : gSortSet Q' d := by
  unfold gSortSet at q ⊢
  split at q
  · obtain ⟨ns, h, h2, q⟩ := q; exact ⟨ns, h, h2, fun m a b => i _ (q m a b)⟩
  · exact q
theorem f_sortedSet {x : DX} {p p2 pos2 : Pos} (hs : X.mg "sorted" = none) (ht : X.mg "set" = none) (h : QD X K a x) (hK : X.K = K := by rfl) (hc : X.calm = true := by rfl) (hg : Gl X "sorted" := by rfl) (hg2 : Gl X "set" := by rfl)
    (he : starEach [.Call (.Name "set" p2) [a] [] pos2] X.env = (false, eval (.Call (.Name "set" p2) [a] [] pos2) X.env) :: starEach [] X.env := by rfl) (he2 : starEach [a] X.env = (false, eval a X.env) :: starEach [] X.env := by rfl)
    (hpl : (backTo pos (starEach [] X.env)).any (·.1) = false := by rfl) (hpl2 : (backTo pos2 (starEach [] X.env)).any (·.1) = false := by rfl) :
    FD X K (.Call (.Name "sorted" p) [.Call (.Name "set" p2) [a] [] pos2] [] pos) (fun δ Q => x δ (gSortSet Q)) := by
  subst hK
  refine ⟨fun δ Q Q' i q => h.mono δ (gSortSet_mono i) q, pe_weak (pe_callB (cr_sortedSet hc) hg hs (by decide +kernel) (pa_cons (pe_callTy (cr_setTup hc) hg2 ht (by decide +kernel) (pa_cons h.pe pa_nil he2) (he := he2) (hpl := hpl2)) pa_nil he) (he := he) (hpl := hpl)) fun σ H Q ⟨Hb, B, O, δ, S, q⟩ => ⟨Hb, B, O, δ, S, h.mono δ (fun d k v H1 s1 a => ?_) q⟩⟩
  unfold gSortSet at k
  split at k
  · obtain ⟨ns, rfl, hl, k⟩ := k
    obtain ⟨p, vs, rfl, h1, h2, h3, _⟩ := a.tuple
    obtain rfl := h3.ints_of
    refine ⟨p, ns, rfl, h1, by omega, fun t c hc' n => ⟨t, _, c, rfl, upd_same, by omega, fun ns' u w1 w2 w3 n2 => ?_⟩⟩
    refine k ns' w1 (fun j => by rw [w2 j, decide_eq_true_iff]) u _ _ (s1.trans ((same_new n).trans (same_new n2))) (s1.free ((same_new n).free n2)) upd_same ?_ (.ints _)
    rw [List.length_map, w3]
    exact Nat.le_trans hc' (Nat.le_trans (Nat.le_of_lt hl) (by decide))
  · exact k.elim
/-- sorted(x, reverse=True) -/
def gSortRev (Q : List D → Prop) : D → Prop
  | .lst l => ∃ ns : List Int, l = ns.map D.int ∧ ∀ ns' : List Int, ns'.Perm ns → ns'.Pairwise (· ≥ ·) → Q (ns'.map D.int)
  | _ => False
theorem gSortRev_mono {Q Q' : List D → Prop} (i : ∀ l, Q l → Q' l) (d : D) (q : gSortRev Q d) : gSortRev Q' d := by
  unfold gSortRev at q ⊢
  split at q
  · obtain ⟨ns, h, q⟩ := q; exact ⟨ns, h, fun m a b => i _ (q m a b)⟩
  · exact q
theorem f_sortedRev {x : DX} {p kp cp : Pos} {j : Nat} (hs : X.mg "sorted" = none) (h : QD X K a x) (hK : X.K = K := by rfl) (hg : Gl X "sorted" := by rfl)
    (he2 : starEach [a] X.env = (false, eval a X.env) :: starEach [] X.env := by rfl)
    (w1 : backTo pos (starEach [a] X.env) = (false, eval a X.env) :: backTo pos (starEach [] X.env) := by rfl) (w2 : (backTo pos (starEach [a] X.env)).any (·.1) = false := by rfl)
    (w3 : (backToKw pos (keywordEach [⟨some "reverse", .Constant (.bool true) j cp, kp⟩] X.env)).all (·.1.isSome) = true := by rfl) (w4 : (backToKw pos (keywordEach [⟨some "reverse", .Constant (.bool true) j cp, kp⟩] X.env)).any (·.1.isNone) = false := by rfl)
    (w5 : (backToKw pos (keywordEach [⟨some "reverse", .Constant (.bool true) j cp, kp⟩] X.env)).filterMap (·.1) = ([("reverse" : Str)] : List Str) := by rfl) :
    FD X K (.Call (.Name "sorted" p) [a] [⟨some "reverse", .Constant (.bool true) j cp, kp⟩] pos) (fun δ Q => x δ (gSortRev Q)) := by
  subst hK
  refine ⟨fun δ Q Q' i q => h.mono δ (gSortRev_mono i) q, pe_weak (pe_callBK (cr_sortedRev (b := true)) hg hs (by decide +kernel) (pa_cons h.pe pa_nil he2) (pk_cons pe_bl pk_nil) (by decide) (by decide) w1 w2 w3 w4 w5) fun σ H Q ⟨Hb, B, O, δ, S, q⟩ => ⟨Hb, B, O, δ, S, h.mono δ (fun d k v H1 s1 a => ?_) q⟩⟩
  unfold gSortRev at k
  split at k
  · obtain ⟨ns, rfl, k⟩ := k
    obtain ⟨p, vs, rfl, h1, h2, h3⟩ := a.list
    obtain rfl := h3.ints_of
    refine ⟨p, ns, rfl, rfl, .inl (.inl h1), fun ns' t pm pw n => k ns' pm pw t _ _ (s1.trans (same_new n)) (s1.free n) upd_same ?_ (.ints _)⟩
    rw [List.length_map] at h2 ⊢
    rw [pm.length_eq]; exact h2
  · exact k.elim
/-- x[::-1] -/
theorem f_rev {x : DX} {k : Nat} {p1 p2 p3 : Pos} (h : QD X K a x) (hK : X.K = K := by rfl) : FD X K (.Subscript a (.Slice none none (some (.UnaryOp .USub (.Constant (.int 1) k p1) p2)) p3) pos) (fun δ Q => x δ (asLo fun l => Q l.reverse)) := by
  subst hK
  have mo : ∀ {Q Q' : List D → Prop}, (∀ l, Q l → Q' l) → ∀ d, asLo Q d → asLo Q' d := fun i d q => by
    unfold asLo at q ⊢
    split at q
    · exact i _ q
    · exact q
  refine ⟨fun δ Q Q' i q => h.mono δ (mo fun l => i _) q, pe_weak (pe_revL h.pe) fun σ H Q ⟨Hb, B, O, δ, S, q⟩ => ⟨Hb, B, O, δ, S, h.mono δ (fun d k v H1 s1 a => ?_) q⟩⟩
  unfold asLo at k
  split at k
  · obtain ⟨p, vs, rfl, h1, h2, h3⟩ := a.list
    exact ⟨p, vs, rfl, .inl (.inl h1), fun t n => k t _ _ (s1.trans (same_new n)) (s1.free n) upd_same (by rw [List.length_reverse]; exact h2) ((h3.mono (hid_new n (same_new n))).reverse)⟩
  · exact k.elim
/-- (x, *s) -/
def dTupS (x y : DX) : DX := fun δ Q => x δ fun d => y δ fun s => onSome (seqOf s) fun l => l.length + 1 ≤ LIM ∧ Q (.tup (d :: l))
theorem d_tupS {x y : DX} {k : Nat} {p : Pos} (ha : PD X K a x) (hb : QD X K b y) (hK : X.K = K := by rfl) (h1 : starEach [a, .Starred b p] X.env = (false, eval a X.env) :: starEach [.Starred b p] X.env := by rfl)
    (h2 : starEach [.Starred b p] X.env = (true, eval b X.env) :: starEach [] X.env := by rfl) : PD X K (.Tuple [a, .Starred b p] k pos) (dTupS x y) := by
  subst hK
  refine ⟨fun δ Q Q' i q => ha.mono δ (fun d => hb.mono δ fun s => onSome_mono fun l q => ⟨q.1, i _ q.2⟩) q, pe_weak (pe_tup (pa_cons ha.pe (StX.pa_star hb.pe pa_nil h2) h1)) fun σ H Q ⟨Hb, B, O, δ, S, q⟩ => ⟨Hb, B, O, δ, S, ha.mono δ (fun d q v H1 s1 a1 => ⟨Hb, B, O, δ, S.grow s1, hb.mono δ (fun s q w H2 s2 a2 => ?_) q⟩) q⟩⟩
  obtain ⟨l, e, hl, q⟩ := of_onSome q
  have fin : ∀ p vs, w = .ref p → (SqT X.K H2 p vs ∨ SqL X.K H2 p vs) → AtAll X.K (hid O H2) vs l → StX.tStar X.K (fun _ _ Q => Q w H2) tNil σ H1 fun xs H' => (v :: xs).length ≤ sizeLine ∧ ∀ p, H' p = none → Q (.ref p) (upd H' p (.tup (v :: xs))) := fun p vs ew hs al => by
    refine ⟨p, vs, ew, hs, ?_⟩
    show (v :: (vs ++ [])).length ≤ sizeLine ∧ _
    rw [List.append_nil]
    refine ⟨lim_sz (by rw [List.length_cons, al.len]; exact hl), fun t n => q _ _ (s1.trans (s2.trans (same_new n))) (At.newT (fun b hb => live_same (live_same (S.live b hb) s1) s2) n (by rw [List.length_cons]; exact hl) (.cons (a1.mono (hid_same s2)) al))⟩
  cases s with
  | lst l' => cases e; obtain ⟨p, vs, rfl, h1, h2, h3⟩ := a2.list; exact fin p vs rfl (.inr (.inl (.inl h1))) h3
  | tup l' => cases e; obtain ⟨p, vs, rfl, h1, h2, h3, _⟩ := a2.tuple; exact fin p vs rfl (.inl h1) h3
  | scr l' => cases e; obtain ⟨p, vs, rfl, h1, h2, h3⟩ := a2.script; exact fin p vs rfl (.inr h1) h3
  | non | bl _ | int _ | str _ | dic _ _ | ref _ | ptp _ => cases e
/-- range(a, b, c) -/
def rgC (i c : Int) (n : Nat) : List D := (List.range n).map fun (k : Nat) => D.int (i + (k : Int) * c)
theorem walk_rgC {H0 Hf : Hp} (lo c : Int) (n : Nat) : WalkD K H0 Hf (rgC lo c n) (Itc lo c n) := fun i H s => by
  refine ⟨fun d e => ?_, fun h => ?_⟩
  · unfold rgC at e
    rw [List.getElem?_map] at e
    cases er : (List.range n)[i]? with
    | none => rw [er] at e; cases e
    | some j =>
      rw [er] at e
      obtain ⟨h1, h2⟩ := List.getElem?_eq_some_iff.mp er
      rw [List.getElem_range] at h2
      subst h2
      obtain rfl := Option.some.inj e
      rw [List.length_range] at h1
      refine ⟨h1, fun x H' y => ?_⟩
      obtain ⟨rfl, rfl⟩ := y
      exact ⟨.refl _, fun O _ _ => .int _⟩
  · unfold rgC at h
    rw [List.length_map, List.length_range] at h
    exact h
def sR3 (x y z : DX) : DAs := fun δ Q => x δ (asI fun i => y δ (asI fun j => z δ (asI fun c => ∃ n, RgC i j c n ∧ n ≤ LIM ∧ Q (rgC i c n))))
theorem i_range3 {x y z : DX} {p : Pos} (hm : X.mg "range" = none) (ha : PD X K a x) (hb : PD X K b y) (hc : PD X K c z) (hg : Gl X "range" := by rfl)
    (h1 : starEach [a, b, c] X.env = (false, eval a X.env) :: starEach [b, c] X.env := by rfl) (h2 : starEach [b, c] X.env = (false, eval b X.env) :: starEach [c] X.env := by rfl) (h3 : starEach [c] X.env = (false, eval c X.env) :: starEach [] X.env := by rfl)
    (hp : (backTo pos (starEach [b, c] X.env)).any (·.1) = false := by rfl) : IP X K tg (.Call (.Name "range" p) [a, b, c] [] pos) (sR3 x y z) := by
  refine ⟨fun δ Q Q' i q => ha.mono δ (asI_mono fun _ => hb.mono δ (asI_mono fun _ => hc.mono δ (asI_mono fun _ ⟨n, q1, q2, q3⟩ => ⟨n, q1, q2, i _ q3⟩))) q, pi_weak (pi_range3 hg hm (pa_cons ha.pe (pa_cons hb.pe (pa_cons hc.pe pa_nil h3) h2) h1) h1 hp) fun σ H R ⟨Hb, B, O, δ, S, q⟩ => ?_⟩
  refine ⟨Hb, B, O, δ, S, ha.mono δ (fun d q v H1 s1 a1 => ?_) q⟩
  obtain ⟨i, rfl, q⟩ := asI_at q (.at_ a1)
  refine ⟨Hb, B, O, δ, S.grow s1, hb.mono δ (fun d q v2 H2 s2 a2 => ?_) q⟩
  obtain ⟨j, rfl, q⟩ := asI_at q (.at_ a2)
  refine ⟨Hb, B, O, δ, (S.grow s1).grow s2, hc.mono δ (fun d q v3 H3 s3 a3 => ?_) q⟩
  obtain ⟨cc, rfl, n, q1, q2, q3⟩ := asI_at q (.at_ a3)
  refine ⟨i, j, cc, n, ?_, q1, q3 _ H3 (s1.trans (s2.trans s3)) ?_ (walk_rgC _ _ _)⟩
  · cases a1; cases a2; cases a3; rfl
  · unfold rgC; rw [List.length_map, List.length_range]; exact q2
theorem rgC_down {i : Int} (h0 : 0 ≤ i) (h1 : i ≤ 1000000) : RgC i 0 (-1) i.toNat := by
  have e : Builtin.Range.rangeSize i 0 (-1) = i := by
    unfold Builtin.Range.rangeSize
    rw [if_neg (by decide)]
    by_cases h : i > 0
    · rw [if_pos h]
      show (i - 0 - 1) / 1 + 1 = i
      omega
    · rw [if_neg h]; omega
  refine ⟨by decide, by decide, ?_, by rw [e]; omega⟩
  unfold Builtin.Range.small
  rw [e]
  unfold Builtin.Range.rangeFitsLong
  rw [if_neg (by decide)]
  simp only [Bool.and_eq_true, Bool.or_eq_true, decide_eq_true_iff, beq_iff_eq]
  omega
/-- t.count(k), a plain tuple of ints -/
def tTC (ta tb : TE) : TE := fun σ H Q => ta σ H fun x H1 => ∃ p o vs, x = .ref p ∧ H1 p = some (.frz o (.tup vs)) ∧ o.dict = none ∧ tb σ H1 fun y H2 => ∃ (ns : List Int) (k : Int), vs = ns.map V.int ∧ y = .int k ∧ H2 p = some (.frz o (.tup vs)) ∧ Q (.int (ns.count k : Nat)) H2
theorem pe_tcount {ta tb : TE} {p2 p3 : Pos} (ha : PE X a ta) (hb : PE X b tb) (hbase : attributeBase a "count" X.env (eval a X.env) = eval a X.env)
    (hfew : ((backTo p3 (starEach [b] X.env)).all (fun x => !x.1) && (backToKw p3 (keywordEach [] X.env)).all (fun x => x.1.isSome) && decide ([b].length + ([] : List Keyword).length + (if ([] : List Keyword).isEmpty then 0 else 1) < 30)) = true)
    (hline : (p2.endLine == p3.line) = true) (hs : backTo p3 (starEach [b] X.env) = [(false, eval b X.env)]) : PE X (.Call (.Attribute a "count" p2) [b] [] p3) (tTC ta tb) := by
  refine ⟨fun pins s σ H Q I q => ?_⟩
  refine wpAny_Call_method hbase hfew hline PySem.F.plainAttrs_tuple PySem.F.slot_tuple_count PySem.F.type_tuple_count (wpAny_mono (ha.run pins s σ H _ I q) ?_ fun _ _ z => z)
  rintro u s1 ⟨x, H1, I1, rx, p, o, vs, rfl, hp, hd, q⟩
  obtain rfl : u = Value.ref p := rx
  obtain ⟨go, ok⟩ := I1.hok _ _ hp
  obtain ⟨_, its, rv, o', ho', hc, n, hdat⟩ := ok
  cases go.symm.trans ho'
  refine ⟨⟨o, go, hc⟩, fun a e => by cases e; exact ⟨o, go, hd⟩, ?_⟩
  rw [hs]
  refine method1_meets PySem.F.slot_tuple_count PySem.F.entry_tuple_count (wpAny_mono (hb.run pins s1 σ H1 _ I1 q) ?_ fun _ _ z => z)
  rintro w s2 ⟨y, H2, I2, ry, ns, k, rfl, rfl, hp2, q2⟩
  obtain ⟨t, rfl⟩ : ∃ t, w = Value.int k t := ry
  obtain ⟨go2, _⟩ := I2.hok _ _ hp2
  have ia : IntsAre its ns := Vals.ints rv
  obtain ⟨c, d, da, sl⟩ := o
  cases hc; cases hdat
  refine ⟨⟨_, go2, rfl⟩, PySem.F.args_tuple_count_2 _ _, _, SeqAt.tuple_countAt p its.toArray n d sl _ (eqk k), go2, fun y hy prog w E Q h => eqk_gives ia y (by simpa using hy) prog w _ E s2 Q h, ?_⟩
  show wants _ _ _ _
  rw [eqk_count ia]
  exact ⟨.int (ns.count k : Nat), H2, I2.tok _, ⟨_, rfl⟩, q2⟩
def gCount (Q : D → Prop) (y : (D → Prop) → Prop) : D → Prop
  | .ptp l => y (asI fun k => ∃ ns : List Int, l = ns.map D.int ∧ Q (.int (ns.count k : Nat)))
  | _ => False
def dTCount (x y : DX) : DX := fun δ Q => x δ (gCount Q (y δ))
theorem d_tcount {x y : DX} {p2 p3 : Pos} (ho : QD X K a x) (hb : QD X K b y) (hbase : attributeBase a "count" X.env (eval a X.env) = eval a X.env := by rfl)
    (hfew : ((backTo p3 (starEach [b] X.env)).all (fun x => !x.1) && (backToKw p3 (keywordEach [] X.env)).all (fun x => x.1.isSome) && decide ([b].length + ([] : List Keyword).length + (if ([] : List Keyword).isEmpty then 0 else 1) < 30)) = true := by rfl)
    (hline : (p2.endLine == p3.line) = true := by rfl) (hs : backTo p3 (starEach [b] X.env) = [(false, eval b X.env)] := by rfl) :
    PD X K (.Call (.Attribute a "count" p2) [b] [] p3) (dTCount x y) := by
  refine ⟨fun δ Q Q' i q => ho.mono δ (fun t q => ?_) q, pe_weak (pe_tcount ho.pe hb.pe hbase hfew hline hs) fun σ H Q ⟨Hb, B, O, δ, S, q⟩ => ⟨Hb, B, O, δ, S, ho.mono δ (fun t q v H1 s1 a1 => ?_) q⟩⟩
  · unfold gCount at q ⊢
    split at q
    · exact hb.mono δ (asI_mono fun k ⟨ns, h, q⟩ => ⟨ns, h, i _ q⟩) q
    · exact q.elim
  · unfold gCount at q
    split at q
    · obtain ⟨p, o, vs, rfl, h1, hd, h2, h3⟩ := a1.plainT
      refine ⟨p, o, vs, rfl, h1, hd, Hb, B, O, δ, S.grow s1, hb.mono δ (fun d q w H2 s2 a2 => ?_) q⟩
      obtain ⟨k, rfl, ns, rfl, q2⟩ := asI_at q a2
      obtain rfl := h3.ints_of
      exact ⟨ns, k, rfl, rfl, s2.at h1, q2 _ H2 (s1.trans s2) (.int _)⟩
    · exact q.elim
/-! ### plain tuples made -/
theorem laidT {pins : List (Addr × Obj)} {σ : L2.St} {H : Hp} {s : Shared} {xs : List V} {its : List Value} (I : L2.Inv X pins σ H s) (r : Vals xs its) (hz : xs.length ≤ sizeLine) :
    L2.Inv X pins σ (upd H s.heap.objs.size (.frz { cls := Value.type "tuple", data := Data.seq its.toArray } (.tup xs))) { s with heap := s.heap.push { cls := Value.type "tuple", data := Data.seq its.toArray } } := by
  have g := Heap.get?_push_size s.heap (o := { cls := Value.type "tuple", data := Data.seq its.toArray }) rfl
  exact I.laid (t' := s.toks) (fun b u hb => Heap.get?_push_of_some _ hb) (Nat.le_refl _) ⟨g, hz, its, r, _, g, rfl, _, rfl⟩
def tTupP (t : TA) : TE := fun σ H Q => t σ H fun xs H1 => xs.length ≤ sizeLine ∧ ∀ (p : Addr) (o : Obj), H1 p = none → o.dict = none → Q (.ref p) (upd H1 p (.frz o (.tup xs)))
theorem pe_tupP {es : List Expr} {t : TA} {k : Nat} (h : PA X es t) : PE X (.Tuple es k pos) (tTupP t) := by
  refine ⟨fun pins s σ H Q I q => wpAny_Tuple_spliced (wpAny_mono (h.run pos pins s σ H _ I q) ?_ fun _ _ z => z)⟩
  rintro us s1 ⟨xs, H1, I1, r, hz, q⟩
  exact ⟨by rw [← r.length]; exact hz, .ref s1.heap.objs.size, _, laidT I1 r hz, rfl, q _ _ I1.fresh rfl⟩
def rTupP (K : PySem.W.Frag) : List V → Hp → VK → Prop := fun vs H Q => ∃ (a : Addr) (xs : List V), vs = [V.ref a] ∧ SqL K H a xs ∧ ∀ (p : Addr) (o : Obj), H p = none → o.dict = none → Q (.ref p) (upd H p (.frz o (.tup xs)))
theorem cr_tupP : CallR X (.type "tuple") (rTupP X.K) := by
  intro pins s σ H vs us Q I r q
  obtain ⟨a, xs, rfl, hs, q⟩ := q
  obtain ⟨its, rv, hl, hz⟩ := I.list hs
  obtain ⟨u, rfl, ru⟩ := vals1 r
  obtain rfl : u = Value.ref a := ru
  refine call_tuple_list hl.isList (fun h' k => ?_) (by rw [List.size_toArray, ← rv.length]; exact hz)
  have I1 := I.kept (t' := s.toks) k
  exact ⟨.ref h'.objs.size, _, laidT I1 rv hz, rfl, q _ _ I1.fresh rfl⟩
theorem At.newP {O : List Addr} {H : Hp} {p : Addr} {o : Obj} {vs : List V} {l : List D} (live : ∀ b ∈ O, H b ≠ none) (n : H p = none) (e : o.dict = none) (hl : l.length ≤ LIM) (a : AtAll K (hid O H) vs l) : At K (hid O (upd H p (.frz o (.tup vs)))) (.ref p) (.ptp l) := by
  have np : p ∉ O := fun z => live p z n
  exact .ptp (by rw [hid_of np, upd_same]) e hl (a.mono (hid_same (same_new n)))
/-- (x, *s), plain -/
def dTupSP (x y : DX) : DX := fun δ Q => x δ fun d => y δ fun s => onSome (seqOf s) fun l => l.length + 1 ≤ LIM ∧ Q (.ptp (d :: l))
theorem d_tupSP {x y : DX} {k : Nat} {p : Pos} (ha : PD X K a x) (hb : QD X K b y) (hK : X.K = K := by rfl) (h1 : starEach [a, .Starred b p] X.env = (false, eval a X.env) :: starEach [.Starred b p] X.env := by rfl)
    (h2 : starEach [.Starred b p] X.env = (true, eval b X.env) :: starEach [] X.env := by rfl) : PD X K (.Tuple [a, .Starred b p] k pos) (dTupSP x y) := by
  subst hK
  refine ⟨fun δ Q Q' i q => ha.mono δ (fun d => hb.mono δ fun s => onSome_mono fun l q => ⟨q.1, i _ q.2⟩) q, pe_weak (pe_tupP (pa_cons ha.pe (StX.pa_star hb.pe pa_nil h2) h1)) fun σ H Q ⟨Hb, B, O, δ, S, q⟩ => ⟨Hb, B, O, δ, S, ha.mono δ (fun d q v H1 s1 a1 => ⟨Hb, B, O, δ, S.grow s1, hb.mono δ (fun s q w H2 s2 a2 => ?_) q⟩) q⟩⟩
  obtain ⟨l, e, hl, q⟩ := of_onSome q
  have fin : ∀ p vs, w = .ref p → (SqT X.K H2 p vs ∨ SqL X.K H2 p vs) → AtAll X.K (hid O H2) vs l → StX.tStar X.K (fun _ _ Q => Q w H2) tNil σ H1 fun xs H' => (v :: xs).length ≤ sizeLine ∧ ∀ (p : Addr) (o : Obj), H' p = none → o.dict = none → Q (.ref p) (upd H' p (.frz o (.tup (v :: xs)))) := fun p vs ew hs al => by
    refine ⟨p, vs, ew, hs, ?_⟩
    show (v :: (vs ++ [])).length ≤ sizeLine ∧ _
    rw [List.append_nil]
    refine ⟨lim_sz (by rw [List.length_cons, al.len]; exact hl), fun t o n e => q _ _ (s1.trans (s2.trans (same_new n))) (At.newP (fun b hb => live_same (live_same (S.live b hb) s1) s2) n e (by rw [List.length_cons]; exact hl) (.cons (a1.mono (hid_same s2)) al))⟩
  cases s with
  | lst l' => cases e; obtain ⟨p, vs, rfl, h1, h2, h3⟩ := a2.list; exact fin p vs rfl (.inr (.inl (.inl h1))) h3
  | tup l' => cases e; obtain ⟨p, vs, rfl, h1, h2, h3, _⟩ := a2.tuple; exact fin p vs rfl (.inl h1) h3
  | scr l' => cases e; obtain ⟨p, vs, rfl, h1, h2, h3⟩ := a2.script; exact fin p vs rfl (.inr h1) h3
  | non | bl _ | int _ | str _ | dic _ _ | ref _ | ptp _ => cases e
/-- a tuple written out, plain -/
def dTupP (x : DAs) : DX := fun δ Q => x δ fun ds => Q (.ptp ds)
theorem d_tupP {es : List Expr} {xs : List DX} {k : Nat} (h : AD X K es xs) (hn : xs.length ≤ 1000 := by exact Nat.le_of_ble_eq_true rfl) : PD X K (.Tuple es k pos) (dTupP (dArgs xs)) := by
  refine ⟨fun δ Q Q' i q => h.mono δ (fun ds q => i _ q) q, pe_weak (pe_tupP h.pa) fun σ H Q ⟨Hb, B, O, δ, S, q⟩ => ⟨Hb, B, O, δ, S, h.mono δ (fun ds ⟨hl, k⟩ vs H1 s1 a => ⟨?_, fun p o n e => ?_⟩) (h.len δ _ q)⟩⟩
  · rw [a.len, hl]; exact Nat.le_of_lt (Nat.lt_of_le_of_lt (Nat.le_trans hn (by decide)) LIM_size)
  · exact k _ _ (s1.trans (same_new n)) (At.newP (fun b hb => live_same (S.live b hb) s1) n e (by rw [hl]; exact Nat.le_trans hn (by decide)) a)
/-- tuple(list), plain -/
def gTupleP : D → (D → Prop) → Prop
  | .lst l, Q => Q (.ptp l)
  | _, _ => False
theorem c_tupleP (hK : X.K = K := by rfl) : CaD X K (.type "tuple") (o1 gTupleP) := by
  subst hK
  refine ca1 cr_tupP (fun d Q Q' i q => ?_) fun O H v d Q l a q => ?_
  · unfold gTupleP at q ⊢
    split at q
    · exact i _ q
    · exact q
  · unfold gTupleP at q
    split at q
    · obtain ⟨p, vs, rfl, h1, h2, h3⟩ := a.list
      exact ⟨p, vs, rfl, .inl (.inl h1), fun t o n e => q _ _ (same_new n) (At.newP l n e h2 h3)⟩
    · exact q.elim
/-! ### own dicts -/
def keyD : D → Option L2.Key
  | .int i => some (.inl i)
  | .str z => some (.inr z)
  | _ => none
theorem keyD_at {O : List Addr} {H : Hp} {v : V} {d : D} {k : L2.Key} (e : keyD d = some k) (a : OAt K O H v d) : v = kV k := by
  cases d with
  | int i => cases e; exact a.int
  | str z => cases e; exact a.str
  | non | bl _ | tup _ | lst _ | scr _ | dic _ _ | ref _ | ptp _ => cases e
def hasK (ks : List L2.Key) (k : L2.Key) : Bool := ks.any fun j => decide (j = k)
theorem zip_any (k : L2.Key) : ∀ (ks : List L2.Key) (vs : List V), ks.length = vs.length → ((ks.zip vs).any fun kv => decide (kv.1 = k)) = hasK ks k
  | [], [], _ => rfl
  | j :: ks, v :: vs, h => by
    have ih := zip_any k ks vs (by simpa using h)
    rw [List.zip_cons_cons, List.any_cons, ih]; rfl
theorem valV_zip (k : L2.Key) (ks : List L2.Key) (vs : List V) (h : ks.length = vs.length) : (valV (ks.zip vs) k).isSome = hasK ks k := by
  rw [← valV_any, zip_any k ks vs h]
def dKs (ks : List L2.Key) (k : L2.Key) : List L2.Key := if hasK ks k = true then ks else ks ++ [k]
def dVs {α : Type} (ks : List L2.Key) (l : List α) (k : L2.Key) (d : α) : List α := if hasK ks k = true then List.zipWith (fun j x => if j = k then d else x) ks l else l ++ [d]
theorem zip_put (k : L2.Key) (v : V) : ∀ (ks : List L2.Key) (vs : List V), ks.length = vs.length → ((ks.zip vs).map fun kv => if kv.1 = k then (kv.1, v) else kv) = ks.zip (List.zipWith (fun j x => if j = k then v else x) ks vs)
  | [], [], _ => rfl
  | j :: ks, x :: vs, h => by
    have ih := zip_put k v ks vs (by simpa using h)
    rw [List.zip_cons_cons, List.map_cons, ih, List.zipWith_cons_cons, List.zip_cons_cons]
    by_cases e : j = k
    · rw [if_pos e, if_pos e]
    · rw [if_neg e, if_neg e]
theorem putK_zip {ks : List L2.Key} {vs : List V} (h : ks.length = vs.length) (k : L2.Key) (v : V) : putK (ks.zip vs) k v = (dKs ks k).zip (dVs ks vs k v) := by
  unfold putK dKs dVs
  rw [zip_any k ks vs h]
  cases m : hasK ks k
  · rw [if_neg Bool.false_ne_true, if_neg Bool.false_ne_true, if_neg Bool.false_ne_true, List.zip_append h]; rfl
  · rw [if_pos rfl, if_pos rfl, if_pos rfl]
    exact zip_put k v ks vs h
theorem dVs_len {α : Type} {ks : List L2.Key} {l : List α} (h : ks.length = l.length) (k : L2.Key) (d : α) : (dKs ks k).length = (dVs ks l k d).length := by
  unfold dKs dVs
  cases m : hasK ks k
  · rw [if_neg Bool.false_ne_true, if_neg Bool.false_ne_true, List.length_append, List.length_append, h]; rfl
  · rw [if_pos rfl, if_pos rfl, List.length_zipWith, h, Nat.min_self]
theorem dKs_len (ks : List L2.Key) (k : L2.Key) : (dKs ks k).length ≤ ks.length + 1 := by
  unfold dKs
  cases m : hasK ks k
  · rw [if_neg Bool.false_ne_true, List.length_append]; exact Nat.le_refl _
  · rw [if_pos rfl]; omega
theorem zipW_at {H : Hp} {v : V} {d : D} (a : At K H v d) (k : L2.Key) : ∀ {ks : List L2.Key} {vs : List V} {l : List D}, AtAll K H vs l → AtAll K H (List.zipWith (fun j x => if j = k then v else x) ks vs) (List.zipWith (fun j x => if j = k then d else x) ks l)
  | [], _, _, _ => by rw [List.zipWith_nil_left, List.zipWith_nil_left]; exact .nil
  | _ :: _, _, _, .nil => .nil
  | j :: ks, _, _, .cons h r => by
    rw [List.zipWith_cons_cons, List.zipWith_cons_cons]
    refine .cons ?_ (zipW_at a k r)
    by_cases e : j = k
    · rw [if_pos e, if_pos e]; exact a
    · rw [if_neg e, if_neg e]; exact h
theorem dVs_at {H : Hp} {v : V} {d : D} (a : At K H v d) (k : L2.Key) {ks : List L2.Key} {vs : List V} {l : List D} (h : AtAll K H vs l) : AtAll K H (dVs ks vs k v) (dVs ks l k d) := by
  unfold dVs
  cases m : hasK ks k
  · rw [if_neg Bool.false_ne_true, if_neg Bool.false_ne_true]; exact h.append (.cons a .nil)
  · rw [if_pos rfl, if_pos rfl]; exact zipW_at a k h
/-- name = {} -/
def gNewD (i : Nat) : DS := fun F δ => F.nx (δ.set i (.owk [] []))
theorem s_newD {i : Nat} {x : Str} {pos' p : Pos} (hN : X.N.Nodup) (hi : X.N[i]? = some x) (hx : Loc X.env.scope x) (hs : swapsWith (.Dict [] [] p) (some (.Name x pos')) pos.line X.env = pure false := by rfl)
    (hf : X.fn x = true ∨ X.env.scope.names.lookup x = some .local := by first | exact .inl rfl | exact .inr rfl | assumption) : SD X K Ex (.Assign [.Name x pos'] (.Dict [] [] p) pos) (gNewD i) :=
  ⟨ps_weak (ps_set hN hi hx pe_dnewK hs hf) fun E σ H ⟨Hb, B, O, δ, F, S, q, L⟩ p n => L.nx _ _ _ _ (S.own_new (s := .owk [] []) n (same_new n) rfl ⟨p, [], rfl, List.mem_cons_self, S.same.free n, upd_same, rfl, Nat.zero_le _, .nil⟩ (by rw [upd_same]; exact fun z => by cases z)) q⟩
/-- key in dict -/
def gIn (g : Bool → Bool) (Q : Bool → Prop) (d : D) : D → Prop
  | .dic ks _ => onSome (keyD d) fun k => Q (g (hasK ks k))
  | _ => False
theorem gIn_mono {g : Bool → Bool} {Q Q' : Bool → Prop} (i : ∀ b, Q b → Q' b) (d e : D) (q : gIn g Q d e) : gIn g Q' d e := by
  unfold gIn at q ⊢
  split at q
  · exact onSome_mono (fun _ => i _) q
  · exact q
def tDicIn (g : Bool → Bool) (x y : DX) : DT := fun δ Q => x δ fun d => y δ fun e => gIn g Q d e
theorem t_din {x y : DX} (ha : QD X K a x) (hb : QD X K b y) (hu : X.A.units + 64 < cLine) (hm : behindInMarks .In b = false := by rfl) : TD X K (.Compare a [.In] [b] pos) (tDicIn (fun b => b) x y) := by
  refine ⟨fun δ Q Q' i q => ha.mono δ (fun d => hb.mono δ fun e => gIn_mono i d e) q, pt_weak (pt_cmp (pc_din (by omega) ha.pe hb.pe) hm) fun σ H Q ⟨Hb, B, O, δ, S, q⟩ => ⟨Hb, B, O, δ, S, ha.mono δ (fun d q v H1 s1 a1 => ⟨Hb, B, O, δ, S.grow s1, hb.mono δ (fun e q w H2 s2 a2 => ?_) q⟩) q⟩⟩
  unfold gIn at q
  split at q
  · obtain ⟨k, e, q⟩ := of_onSome q
    obtain ⟨p, vs, rfl, h1, h2, h3, h4⟩ := a2.dict
    refine ⟨p, _, rfl, .inl ⟨_, k, h1, keyD_at e (a1.grow s2), rfl⟩, _, rfl, ?_⟩
    rw [valV_zip k _ _ h2]
    exact q H2 (s1.trans s2)
  · exact q.elim
theorem t_dnin {x y : DX} (ha : QD X K a x) (hb : QD X K b y) (hu : X.A.units + 64 < cLine) (hm : behindInMarks .NotIn b = false := by rfl) : TD X K (.Compare a [.NotIn] [b] pos) (tDicIn (fun b => !b) x y) := by
  refine ⟨fun δ Q Q' i q => ha.mono δ (fun d => hb.mono δ fun e => gIn_mono i d e) q, pt_weak (pt_cmp (pc_dnotin (by omega) ha.pe hb.pe) hm) fun σ H Q ⟨Hb, B, O, δ, S, q⟩ => ⟨Hb, B, O, δ, S, ha.mono δ (fun d q v H1 s1 a1 => ⟨Hb, B, O, δ, S.grow s1, hb.mono δ (fun e q w H2 s2 a2 => ?_) q⟩) q⟩⟩
  unfold gIn at q
  split at q
  · obtain ⟨k, e, q⟩ := of_onSome q
    obtain ⟨p, vs, rfl, h1, h2, h3, h4⟩ := a2.dict
    refine ⟨p, _, rfl, .inl ⟨_, k, h1, keyD_at e (a1.grow s2), rfl⟩, _, rfl, ?_⟩
    rw [valV_zip k _ _ h2]
    exact q H2 (s1.trans s2)
  · exact q.elim
/-- own[key] = e -/
def onOwk (g : List L2.Key → List D → Prop) : Sl → Prop
  | .owk ks l => g ks l
  | _ => False
theorem onOwk_at {Hb H : Hp} {O : List Addr} {g : List L2.Key → List D → Prop} {s : Sl} {o : Option (Option V)} (q : onOwk g s) (h : SlOk K Hb O H o s) : ∃ ks l r vs, s = .owk ks l ∧ g ks l ∧ o = some (some (.ref r)) ∧ r ∈ O ∧ Hb r = none ∧ H r = some (.dK (ks.zip vs)) ∧ ks.length = vs.length ∧ ks.length ≤ LIM ∧ AtAll K (hid O H) vs l := by
  cases s with
  | owk ks l => obtain ⟨r, vs, h1, h2, h3, h4, h5, h6, h7⟩ := h; exact ⟨ks, l, r, vs, rfl, q, h1, h2, h3, h4, h5, h6, h7⟩
  | no => exact q.elim
  | d _ => exact q.elim
  | own _ => exact q.elim
  | ownA _ _ => exact q.elim
def gDput (i : Nat) (x y : DX) : DS := fun F δ => y δ fun d => onOwk (fun ks l => x δ fun e => onSome (keyD e) fun k => ks.length < LIM ∧ F.nx (δ.set i (.owk (dKs ks k) (dVs ks l k d)))) (sl δ i)
theorem s_dput (i : Nat) {x : Str} {ie : Expr} {u v : DX} {p1 p2 : Pos} (hu : X.A.units + 64 < cLine) (hi : QD X K ie u) (h : PD X K e v) (hN : X.N[i]? = some x := by rfl) (hv : Vis X.env.scope x := by first | exact Or.inl rfl | exact Or.inr (Or.inl rfl) | exact Or.inr (Or.inr rfl)) (hd : (x == ("__debug__" : Str)) = false := by decide)
    (hcd : (x == ("__classdict__" : Str)) = false := by decide)
    (ha : ∀ v, assign (.Subscript (.Name x p1) ie p2) X.env v = (do
      let ov ← holding [v] (eval (.Name x p1) X.env)
      let iv ← holding [v, ov] (eval ie X.env)
      standAt p2
      holding [v, ov, iv] (setItem ov iv v)
      release [v, ov, iv] []) := by intro _; rfl)
    (hs : swapsWithSole [.Subscript (.Name x p1) ie p2] e pos.line X.env = pure false := by rfl) (hw : swappedStores [.Subscript (.Name x p1) ie p2] e X.env = pure none := by rfl)
    (h1 : (assignEach [.Subscript (.Name x p1) ie p2] X.env).map (·.2) = [assign (.Subscript (.Name x p1) ie p2) X.env] := by rfl) :
    SD X K Ex (.Assign [.Subscript (.Name x p1) ie p2] e pos) (gDput i u v) := by
  refine ⟨ps_weak (ps_asg h.pe (pg_sub (pe_var hN hv hd hcd) hi.pe (set_dict (by omega)) ha) hs hw h1) fun E σ H ⟨Hb, B, O, δ, F, S, q, L⟩ => ⟨Hb, B, O, δ, S, h.mono δ (fun d q w H1 s1 aw => ?_) q⟩⟩
  have S1 := S.grow s1
  obtain ⟨ks, l, r, vs, e1, q, h1, h2, h3, h4, h5, h6, h7⟩ := onOwk_at q (S1.at_ i)
  refine ⟨_, h1, Hb, B, O, δ, S1, hi.mono δ (fun ix q z H2 s2 az => ?_) q⟩
  obtain ⟨k, ek, hl, q⟩ := of_onSome q
  have e7 : ks.length = l.length := by rw [h5, h7.len]
  refine ⟨r, _, rfl, .inl ⟨ks.zip vs, k, s2.at h4, keyD_at ek az, ?_, rfl⟩, ?_⟩
  · rw [List.length_zip, ← h5, Nat.min_self]; exact Nat.lt_trans hl LIM_size
  · refine L.nx _ _ _ _ ((S1.grow s2).own_upd (s := .owk (dKs ks k) (dVs ks l k d)) (by rw [e1]; rfl) h1 h2 h3 ⟨r, dVs ks vs k w, rfl, h2, h3, ?_, ?_, Nat.le_trans (dKs_len _ _) hl, ?_⟩) q
    · rw [upd_same, putK_zip h5]
    · exact dVs_len h5 k w
    · rw [hid_upd h2]; exact dVs_at (aw.mono (hid_same s2)) k (h7.mono (hid_same s2))
/-- a, b = own, own / own, value -/
def gParOO (i j : Nat) (x y : DAs) : DS := fun F δ => x δ fun l => y δ fun m => F.nx ((δ.set i (.own l)).set j (.own m))
def gParOV (i j : Nat) (x : DAs) (y : DX) : DS := fun F δ => x δ fun l => y δ fun d => F.nx ((δ.set i (.own l)).set j (.d d))
theorem s_parOO {i j : Nat} {x y : Str} {a b : Expr} {u v : DAs} {px py pt : Pos} {kt k2 pt2} (hN : X.N.Nodup) (hi : X.N[i]? = some x) (hj : X.N[j]? = some y) (ha : FD X K a u) (hb : FD X K b v)
    (hij : i ≠ j := by decide) (hx : X.env.scope.names.lookup x = some .local := by rfl) (hy : X.env.scope.names.lookup y = some .local := by rfl)
    (hw : swappedStores [.Tuple [.Name x px, .Name y py] kt pt] (.Tuple [a, b] k2 pt2) X.env = pure (some [x, y]) := by rfl)
    (hs : swapsWithSole [.Tuple [.Name x px, .Name y py] kt pt] (.Tuple [a, b] k2 pt2) pos.line X.env = pure false := by rfl)
    (h1 : starEach [a, b] X.env = (false, eval a X.env) :: starEach [b] X.env := by rfl) (h2 : starEach [b] X.env = (false, eval b X.env) :: starEach [] X.env := by rfl) (hc : X.calm = true := by rfl) :
    SD X K Ex (.Assign [.Tuple [.Name x px, .Name y py] kt pt] (.Tuple [a, b] k2 pt2) pos) (gParOO i j u v) := by
  refine ⟨ps_weak (ps_par hc hN hi hj hij hx hy (pa_cons ha.pe (pa_cons hb.pe pa_nil h2) h1) hw hs) fun E σ H ⟨Hb, B, O, δ, F, S, q, L⟩ => ⟨Hb, B, O, δ, S, ha.mono δ (fun l q p vs H1 s1 n hp hl al => ?_) q⟩⟩
  have lp : H1 p ≠ none := by rw [hp]; exact fun z => by cases z
  refine ⟨Hb, B, p :: O, δ, S.more n s1 lp, hb.mono δ (fun m q r ws H2 s2 n2 hr hm am => ?_) q⟩
  refine ⟨_, _, rfl, L.nx _ _ _ _ (own_imp (own_imp S s1 n hp hl al) s2 n2 hr hm am) q⟩
theorem s_parOV {i j : Nat} {x y : Str} {a b : Expr} {u : DAs} {v : DX} {px py pt : Pos} {kt k2 pt2} (hN : X.N.Nodup) (hi : X.N[i]? = some x) (hj : X.N[j]? = some y) (ha : FD X K a u) (hb : PD X K b v)
    (hij : i ≠ j := by decide) (hx : X.env.scope.names.lookup x = some .local := by rfl) (hy : X.env.scope.names.lookup y = some .local := by rfl)
    (hw : swappedStores [.Tuple [.Name x px, .Name y py] kt pt] (.Tuple [a, b] k2 pt2) X.env = pure (some [x, y]) := by rfl)
    (hs : swapsWithSole [.Tuple [.Name x px, .Name y py] kt pt] (.Tuple [a, b] k2 pt2) pos.line X.env = pure false := by rfl)
    (h1 : starEach [a, b] X.env = (false, eval a X.env) :: starEach [b] X.env := by rfl) (h2 : starEach [b] X.env = (false, eval b X.env) :: starEach [] X.env := by rfl) (hc : X.calm = true := by rfl) :
    SD X K Ex (.Assign [.Tuple [.Name x px, .Name y py] kt pt] (.Tuple [a, b] k2 pt2) pos) (gParOV i j u v) := by
  refine ⟨ps_weak (ps_par hc hN hi hj hij hx hy (pa_cons ha.pe (pa_cons hb.pe pa_nil h2) h1) hw hs) fun E σ H ⟨Hb, B, O, δ, F, S, q, L⟩ => ⟨Hb, B, O, δ, S, ha.mono δ (fun l q p vs H1 s1 n hp hl al => ?_) q⟩⟩
  have lp : H1 p ≠ none := by rw [hp]; exact fun z => by cases z
  refine ⟨Hb, B, p :: O, δ, S.more n s1 lp, hb.mono δ (fun d q w H2 s2 aw => ?_) q⟩
  exact ⟨_, _, rfl, L.nx _ _ _ _ (((own_imp S s1 n hp hl al).grow s2).set aw) q⟩
/-- name = name + (own.pop(e),) -/
def asTup (Q : List D → Prop) : D → Prop
  | .tup l => Q l
  | _ => False
def gPopCat (i j : Nat) (x : DX) : DS := fun F δ => qV i δ (asTup fun l => onOwn (fun m => x δ (asI fun k => onSome (seqIndex? k m.length) fun t => onSome m[t]? fun d => (-(2 ^ 63) ≤ k ∧ k < 2 ^ 63 ∧ l.length + 1 ≤ LIM) ∧ F.nx ((δ.set j (.own (m.eraseIdx t))).set i (.d (.tup (l ++ [d])))))) (sl δ j))
theorem erase_at {H : Hp} {vs : List V} {l : List D} (h : AtAll K H vs l) (t : Nat) : AtAll K H (vs.eraseIdx t) (l.eraseIdx t) := by
  rw [List.eraseIdx_eq_take_drop_succ, List.eraseIdx_eq_take_drop_succ]
  exact (h.take t).append (h.drop (t + 1))
theorem s_popCat {i j : Nat} {x y : Str} {u : DX} {pos' p0 p1 p2 p3 p4 pb : Pos} {kt : Nat} (hN : X.N.Nodup) (hi : X.N[i]? = some x) (hx : Loc X.env.scope x) (hj : X.N[j]? = some y) (h : QD X K e u) (hij : i ≠ j := by decide) (hK : X.K = K := by rfl)
    (hv : Vis X.env.scope x := by first | exact Or.inl rfl | exact Or.inr (Or.inl rfl) | exact Or.inr (Or.inr rfl)) (hd : (x == ("__debug__" : Str)) = false := by decide) (hcd : (x == ("__classdict__" : Str)) = false := by decide)
    (hv2 : Vis X.env.scope y := by first | exact Or.inl rfl | exact Or.inr (Or.inl rfl) | exact Or.inr (Or.inr rfl)) (hd2 : (y == ("__debug__" : Str)) = false := by decide) (hcd2 : (y == ("__classdict__" : Str)) = false := by decide)
    (hbase : attributeBase (.Name y p1) "pop" X.env (eval (.Name y p1) X.env) = eval (.Name y p1) X.env := by rfl)
    (hfew : ((backTo p3 (starEach [e] X.env)).all (fun x => !x.1) && (backToKw p3 (keywordEach [] X.env)).all (fun x => x.1.isSome) && decide ([e].length + ([] : List Keyword).length + (if ([] : List Keyword).isEmpty then 0 else 1) < 30)) = true := by rfl)
    (hline : (p2.endLine == p3.line) = true := by rfl) (hst : starEach [e] X.env = (false, eval e X.env) :: starEach [] X.env := by rfl) (hpl : (backTo p3 (starEach [] X.env)).any (·.1) = false := by rfl)
    (hs2 : starEach [.Call (.Attribute (.Name y p1) "pop" p2) [e] [] p3] X.env = (false, eval (.Call (.Attribute (.Name y p1) "pop" p2) [e] [] p3) X.env) :: starEach [] X.env := by rfl)
    (hs : swapsWith (.BinOp (.Name x p0) .Add (.Tuple [.Call (.Attribute (.Name y p1) "pop" p2) [e] [] p3] kt p4) pb) (some (.Name x pos')) pos.line X.env = pure false := by rfl)
    (hf : X.fn x = true ∨ X.env.scope.names.lookup x = some .local := by first | exact .inl rfl | exact .inr rfl | assumption) :
    SD X K Ex (.Assign [.Name x pos'] (.BinOp (.Name x p0) .Add (.Tuple [.Call (.Attribute (.Name y p1) "pop" p2) [e] [] p3] kt p4) pb) pos) (gPopCat i j u) := by
  subst hK
  refine ⟨ps_weak (ps_set hN hi hx (pe_op op_catA (pe_var hi hv hd hcd) (pe_tup (pa_cons (pe_bm PySem.F.plainAttrs_list PySem.F.slot_list_pop PySem.F.type_list_pop mt_popAt (pe_var hj hv2 hd2 hcd2) (pa_cons h.pe pa_nil hst) hbase hfew hline hst hpl) pa_nil hs2))) hs hf) fun E σ H ⟨Hb, B, O, δ, F, S, q, L⟩ => ?_⟩
  have a := S.at_ i
  unfold gPopCat qV at q
  have q : ∃ l, sl δ i = .d (.tup l) ∧ onOwn (fun m => u δ (asI fun k => onSome (seqIndex? k m.length) fun t => onSome m[t]? fun d => (-(2 ^ 63) ≤ k ∧ k < 2 ^ 63 ∧ l.length + 1 ≤ LIM) ∧ F.nx ((δ.set j (.own (m.eraseIdx t))).set i (.d (.tup (l ++ [d])))))) (sl δ j) := by
    split at q
    · rename_i d hd
      cases d with
      | tup l => exact ⟨l, hd, q⟩
      | non | bl _ | int _ | str _ | lst _ | scr _ | dic _ _ | ref _ | ptp _ => exact q.elim
    · exact q.elim
    · exact q.elim
    · exact q.elim
    · exact q.elim
  obtain ⟨l, el, q⟩ := q
  rw [el] at a
  obtain ⟨v, h1, h2⟩ := a
  cases h2 with
  | tup e1 e2 e3 =>
    rename_i a0 xs0
    refine ⟨_, h1, ?_⟩
    obtain ⟨m, r, vs, w1, q, w2, w3, w4, w5, w6, w7⟩ := onOwn_at q (S.at_ j)
    refine ⟨_, w2, .inl ⟨rfl, _, .inl (.inl w5)⟩, Hb, B, O, δ, S, h.mono δ (fun z q w H1 s1 aw => ?_) q⟩
    obtain ⟨k, rfl, q⟩ := asI_at q aw
    obtain ⟨t, et, q⟩ := of_onSome q
    obtain ⟨d, ed, ⟨k1, k2, k3⟩, q⟩ := of_onSome q
    obtain ⟨v, ev, av⟩ := (w7.mono (hid_same s1)).get' ed
    have S1 := S.grow s1
    have S2 := own_upd (l' := m.eraseIdx t) (vs := vs.eraseIdx t) S1 w1 w2 w3 w4 (Nat.le_trans (List.length_eraseIdx_le _ _) w6) (erase_at (w7.mono (hid_same s1)) t)
    have av2 : At X.K (hid O (upd H1 r (.lst (vs.eraseIdx t)))) v d := by rw [hid_upd w3]; exact av
    have e3' : AtAll X.K (hid O (upd H1 r (.lst (vs.eraseIdx t)))) xs0 l := by rw [hid_upd w3]; exact e3.mono (hid_same s1)
    have e1' : SqT X.K (hid O (upd H1 r (.lst (vs.eraseIdx t)))) a0 xs0 := by rw [hid_upd w3]; exact sqT_mono (hid_same s1) e1
    refine ⟨r, vs, k, t, v, rfl, rfl, s1.at w5, k1, k2, by rw [w7.len]; exact et, ev, Nat.le_of_ble_eq_true rfl, fun p n => ?_⟩
    have tn : At X.K (hid O (upd (upd H1 r (.lst (vs.eraseIdx t))) p (.tup [v]))) (.ref p) (.tup [d]) := At.newT S2.live n (Nat.le_of_ble_eq_true rfl) (.cons av2 .nil)
    refine ⟨_, _, _, _, rfl, rfl, sqT_mono (hid_out.trans (same_new n).k) e1', .inl (.inl upd_same), ?_, fun z => ?_, (fun _ z => nomatch z), fun _ _ p2 n2 => ?_⟩
    · exact lim_sz (by rw [e3.len]; exact k3)
    · subst z
      cases e3
      exact L.nx _ _ _ _ ((S2.grow (same_new n)).set tn) q
    · exact L.nx _ _ _ _ (((S2.grow (same_new n)).grow (same_new n2)).set (At.newT (fun b hb => live_same (S2.live b hb) (same_new n)) n2 (by rw [List.length_append]; exact k3) ((e3'.append (.cons av2 .nil)).mono (hid_same (same_new n))))) q
/-- tuple * int -/
def oRepT : D → D → (D → Prop) → Prop
  | .tup l, .int k, Q => (l ≠ [] ∧ 2 ≤ k ∧ k ≤ 1000 ∧ l.length ≤ 1000) ∧ Q (.tup (repD l k.toNat))
  | _, _, _ => False
theorem o_repT (hK : X.K = K := by rfl) : OpD X K (binaryOp .Mult) oRepT := by
  subst hK
  refine ⟨fun a b Q Q' i q => ?_, _, op_repT, fun O H x y a b Q l ax ay q => ?_⟩
  · unfold oRepT at q ⊢
    split at q
    · exact ⟨q.1, i _ q.2⟩
    · exact q
  · unfold oRepT at q
    split at q
    · obtain ⟨p, vs, rfl, h1, h2, h3, _⟩ := ax.tuple
      obtain ⟨⟨k0, k1, k2, k3⟩, q⟩ := q
      refine ⟨p, _, vs, rfl, ay.int, h1, fun z => k0 ?_, k1, k2, by rw [h3.len]; exact k3, fun t n => q _ _ (same_new n) (At.newT l n ?_ (rep_at h3 _))⟩
      · subst z; cases h3; rfl
      · rw [rep_len]
        exact Nat.le_trans (Nat.mul_le_mul k3 (by omega : _ ≤ 1000)) (Nat.le_refl _)
    · exact q.elim
/-! ### try: if .. / elif .. / else: calls; except as e: return isinstance(e, A) and isinstance(e, T) -/
def tIsT (K : PySem.W.Frag) (i : Nat) (a : Addr) (cls : Value) (d : Option Addr) (T : String) : TE := tCB (rIsX K a cls d) (tCons (tVar i) (tCons (tC (.ty T)) tNil))
structure IsT (X : Cx) (K : PySem.W.Frag) (i : Nat) (e : Expr) (T : String) : Prop where
  pe : ∀ (a : Addr) (oe : Obj) (cls : Value) (d : Option Addr) (pn : List (Addr × Obj)), Zc cls d oe → (∃ vs, oe.data = .fields vs) → PE (X.suite a ((a, oe) :: pn)) e (tIsT K i a cls d T)
theorem is_t {i : Nat} {x n : Str} {T : String} {p1 p2 p3 : Pos} (hK : X.K = K) (hm : X.mg "isinstance" = none) (hT : X.mg x = none) (hb : bootBuiltins x = some (.type T) := by decide +kernel) (hN : X.N[i]? = some n := by rfl) (hv : Vis X.env.scope n := by first | exact Or.inl rfl | exact Or.inr (Or.inl rfl) | exact Or.inr (Or.inr rfl)) (hd : (n == ("__debug__" : Str)) = false := by decide)
    (hcd : (n == ("__classdict__" : Str)) = false := by decide) (hg : Gl X "isinstance" := by rfl) (hgC : Gl X x := by rfl) (hdx : (x == ("__debug__" : Str)) = false := by decide) (hnx : x ≠ "__name__" := by decide)
    (he : ∀ p, starEach [.Name n p2, .Name x p] X.env = (false, eval (.Name n p2) X.env) :: starEach [.Name x p] X.env := by intro _; rfl) (he2 : ∀ p, starEach [.Name x p] X.env = (false, eval (.Name x p) X.env) :: starEach [] X.env := by intro _; rfl)
    (hpl : (backTo pos (starEach [.Name x p3] X.env)).any (·.1) = false := by rfl) : IsT X K i (.Call (.Name "isinstance" p1) [.Name n p2, .Name x p3] [] pos) T := by
  subst hK
  exact ⟨fun a oe cls d pn hz hf => pe_callB (X := X.suite a ((a, oe) :: pn)) (c_isX hz hf) hg hm (by decide +kernel) (pa_cons (pe_var hN hv hd hcd) (pa_cons (pe_bltn (v := .ty T) hgC hT hb rfl hnx hdx) pa_nil (he2 _)) (he _)) (he := he _) (hpl := hpl)⟩
theorem tIsT_of {i : Nat} {a C : Addr} {T : String} {b : Bool} {σ : L2.St} {H : Hp} {Q : VK} (c : ExcC K C) (h : PySem.W.kitOne K (.ref C) (.type T) = some b) (hs : σ[i]? = some (some (.ref a))) (q : Q (.bl b) H) : tIsT K i a (.ref C) none T σ H Q :=
  ⟨_, hs, C, c, rfl, rfl, _, _, b, rfl, fun u r => r, h, q⟩
def gHd (i : Nat) (K : PySem.W.Frag) (S : Addr) (D0 : Addr) (T : String) (F : DE) (δ : List Sl) (C : Addr) : Prop := Caught K S C ∧ hasSl i δ ∧ ∃ b, PySem.W.kitOne K (.ref C) (.ref D0) = some b ∧ ∃ c, PySem.W.kitOne K (.ref C) (.type T) = some c ∧ F.rt (.bl (b && c))
def gTryIf (i : Nat) (K : PySem.W.Frag) (S : Addr) (t1 t2 : DT) (x1 x2 x3 : DXX) (D0 : Addr) (T : String) : DS := fun F δ => t1 δ fun b => if b = true then x1 δ (fun _ => F.nx δ) (gHd i K S D0 T F δ) else t2 δ fun c => if c = true then x2 δ (fun _ => F.nx δ) (gHd i K S D0 T F δ) else x3 δ (fun _ => F.nx δ) (gHd i K S D0 T F δ)
theorem s_tryIf {i : Nat} {n xS : Str} {S : Addr} {p2 p3 p4 p5 q1 q2 q3 q4 q5 : Pos} {t1 t2 : DT} {x1 x2 x3 : DXX} {c1 c2 e1 e2 e3 se1 se2 : Expr} {D0 : Addr} {T : String} (hS : X.mg xS = some (.ref S)) (hN : X.N.Nodup)
    (ht1 : ∀ (pn : List (Addr × Obj)) (xe : Value → Shared → Prop), TD (X.tr pn xe) K c1 t1) (ht2 : ∀ (pn : List (Addr × Obj)) (xe : Value → Shared → Prop), TD (X.tr pn xe) K c2 t2)
    (h1 : ∀ (W : WX) (pn : List (Addr × Obj)) (xe : Value → Shared → Prop), Takes (X.tr pn xe) W → XW (X.tr pn xe) K W e1 x1) (h2 : ∀ (W : WX) (pn : List (Addr × Obj)) (xe : Value → Shared → Prop), Takes (X.tr pn xe) W → XW (X.tr pn xe) K W e2 x2)
    (h3 : ∀ (W : WX) (pn : List (Addr × Obj)) (xe : Value → Shared → Prop), Takes (X.tr pn xe) W → XW (X.tr pn xe) K W e3 x3) (hi : IsC X K i se1 D0) (hi2 : IsT X K i se2 T) (hNi : X.N[i]? = some n) (hK : X.K = K := by rfl)
    (hs : X.stack = X.env :: X.outer := by rfl) (hf : X.env.frame = some X.env.locals := by rfl) (hln : X.env.kindOf n = some .local := by rfl) (hc : Names X xS (.ref S) := by exact ⟨rfl, by decide, .inl (by assumption)⟩)
    (w1 : swapsWith e1 none q1.line X.env = pure false := by rfl) (w2 : swapsWith e2 none q2.line X.env = pure false := by rfl) (w3 : swapsWith e3 none q3.line X.env = pure false := by rfl) :
    SD X K Ex (.Try [.If c1 [.Expr e1 q1] [.If c2 [.Expr e2 q2] [.Expr e3 q3] q4] q5] [.ExceptHandler (some (.Name xS p2)) (some n) [.Return (some (.BoolOp .And [se1, se2] p3)) p4] p5] [] [] pos) (gTryIf i K S t1 t2 x1 x2 x3 D0 T) := by
  subst hK
  refine ⟨ps_weak (ps_try_as (i := i) (tb := fun W => tIfS (tT X.K t1) (tDrop (tXW X.K W x1)) (tIfS (tT X.K t2) (tDrop (tXW X.K W x2)) (tDrop (tXW X.K W x3)))) (ts := fun a cls d => tRet (tAndV (tIs1 X.K i a cls d D0) (tIsT X.K i a cls d T))) (Wout := fun _ _ _ _ => False) hs hf hN hNi hln hc takes0
    (fun W pn xe tk _ => pss_one (ps_if (ht1 pn xe).pt (pss_one (ps_expr (h1 W pn xe tk).pe w1)) (pss_one (ps_if (ht2 pn xe).pt (pss_one (ps_expr (h2 W pn xe tk).pe w2)) (pss_one (ps_expr (h3 W pn xe tk).pe w3)))))) (fun a oe cls d pn hz hf => pss_one (ps_ret (pe_and (hi.pe a oe cls d pn hz hf) (pe_one (hi2.pe a oe cls d pn hz hf)))))) fun E σ H ⟨Hb, B, O, δ, F, S0, q, L⟩ => ?_⟩
  have run : ∀ {x : DXX} (mono : ∀ δ {Q Q' : D → Prop} {Z Z' : Addr → Prop}, (∀ d, Q d → Q' d) → (∀ C, Z C → Z' C) → x δ Q Z → x δ Q' Z') {H1 : Hp}, Same H H1 → x δ (fun _ => F.nx δ) (gHd i X.K S D0 T F δ) → tDrop (tXW X.K (wAs X.K (.ref S) i (fun a cls d => tRet (tAndV (tIs1 X.K i a cls d D0) (tIsT X.K i a cls d T))) (fun _ _ _ _ => False) E) x) E σ H1 := fun {x} mono {H1} s1 q => by
    have S1 := S0.grow s1
    refine ⟨Hb, B, O, δ, S1, mono δ (fun d k v H' s a => L.nx _ _ _ _ (S1.grow s) k) (fun C ⟨c, hsl, b, hb, b2, hb2, k⟩ H' s => ?_) q⟩
    refine ⟨true, c.m, fun _ a0 ha0 => ?_, fun z => by cases z⟩
    have hx : (σ.set i (some (.ref a0)))[i]? = some (some (.ref a0)) := by
      rw [List.getElem?_set_self]
      rw [S0.len]; exact hasSl_lt hsl
    refine tIs1_of c.x hb hx ⟨b, rfl, ?_⟩
    cases b with
    | true => exact tIsT_of c.x hb2 hx (L.rt _ _ _ (S1.same.trans s) (.bl _) k)
    | false => exact L.rt _ _ _ (S1.same.trans s) (.bl _) k
  have m1 := (h1 (fun _ _ _ _ => False) [] (fun _ _ => False) takes0).mono
  have m2 := (h2 (fun _ _ _ _ => False) [] (fun _ _ => False) takes0).mono
  have m3 := (h3 (fun _ _ _ _ => False) [] (fun _ _ => False) takes0).mono
  refine ⟨Hb, B, O, δ, S0, (ht1 [] (fun _ _ => False)).mono δ (fun b k H1 s1 => ?_) q⟩
  refine ite_mono b (fun k => run m1 s1 k) (fun k => ⟨Hb, B, O, δ, S0.grow s1, (ht2 [] (fun _ _ => False)).mono δ (fun c k H2 s2 => ?_) k⟩) k
  exact ite_mono c (fun k => run m2 (s1.trans s2) k) (fun k => run m3 (s1.trans s2) k) k
/-! ### a function of a module; factorial -/
theorem d_callG {o : List D → (D → Prop) → Prop} {x : Str} {id : String} {p : Pos} {es : List Expr} {xs : List DX} (ho : CaD X K (.builtin id) o) (hm : X.mg x = some (.builtin id)) (ha : BD X K (e :: es) xs) (hg : Gl X x := by rfl) (hdb : (x == ("__debug__" : Str)) = false := by decide)
    (he : starEach (e :: es) X.env = (false, eval e X.env) :: starEach es X.env := by rfl) (hpl : (backTo pos (starEach es X.env)).any (·.1) = false := by rfl) : PD X K (.Call (.Name x p) (e :: es) [] pos) (dCa o xs) := by
  obtain ⟨r, hr, hi⟩ := ho.ex
  refine ⟨fun δ Q Q' i q => ha.mono δ (fun ds => ho.mono ds i) q, pe_weak (pe_callBfun hr hg hm ha.pa hdb he hpl) fun σ H Q ⟨Hb, B, O, δ, S, q⟩ => ⟨Hb, B, O, δ, S, ha.mono δ (fun ds g vs H1 s1 as => ?_) q⟩⟩
  exact hi O H1 vs ds Q (fun p hp => live_same (S.live p hp) s1) as (ho.mono ds (fun d k v H' s a => k v H' (s1.trans s) a) g)
def rFact : List V → Hp → VK → Prop := fun vs H Q => ∃ a : Int, vs = [.int a] ∧ 0 ≤ a ∧ a ≤ 20000 ∧ Q (.int ((Builtin.Math.factorialNat a.toNat : Nat) : Int)) H
theorem cr_factorial : CallR X (.builtin "math.factorial") rFact := by
  intro pins s σ H vs us Q I r h
  obtain ⟨a, rfl, h1, h2, q⟩ := h
  obtain ⟨u, rfl, t, rfl⟩ := vals1 r
  exact PySem.W.mc_factorial h1 h2 fun z => ⟨.int _, H, I.tok _, ⟨_, rfl⟩, q⟩
def gFact : D → (D → Prop) → Prop := fun d Q => asI (fun i => (0 ≤ i ∧ i ≤ 20000) ∧ Q (.int ((Builtin.Math.factorialNat i.toNat : Nat) : Int))) d
theorem c_factorial : CaD X K (.builtin "math.factorial") (o1 gFact) := by
  refine ca1 cr_factorial (fun d Q Q' i q => asI_mono (fun _ q => ⟨q.1, i _ q.2⟩) d q) fun O H v d Q l a q => ?_
  obtain ⟨i, rfl, ⟨k1, k2⟩, q⟩ := asI_at q a
  exact ⟨i, rfl, k1, k2, q _ H (.refl H) (.int _)⟩
end
/-- the bottom of a recursion: nothing is asked -/
theorem cal_bot {P : Program} {w : World} {K : PySem.W.Frag} {mg : Str → Option Value} {base : Heap} {x : Str} {st : Stmt} {N ps : List Str} {R : Rf} (Dd : Df K mg x st ps) (S : FnScope N ps (defScope st)) (h : ∀ ds Q, ¬ R ds Q) : Cal P w K mg base CX0 1 x ps (spW K R) := by
  obtain ⟨f, fd, gf, F, b⟩ := Dd
  exact ⟨f, fd, gf, F.kp, b, Fun_okG (k := 0) F S (fun vs H Q E ⟨B, ds, lb, _, a, r⟩ => absurd r (h _ _)) fun cdv A outer s H vs Q E hr ⟨B, ds, lb, _, a, r⟩ => absurd r (h _ _)⟩
section
variable {X : Cx} {K : PySem.W.Frag} {Ex : XK} {e a b c tg : Expr} {pos : Pos}
end
/-! ### sum of a tuple of ints -/
theorem int_pairs {its : List Value} {ns : List Int} (h : IntsAre its ns) : ∃ ps : List (Int × Tok), its = ps.map (fun p => Value.int p.1 p.2) ∧ ps.map (·.1) = ns := by
  induction h with
  | nil => exact ⟨[], rfl, rfl⟩
  | cons n t _ ih => obtain ⟨ps, h1, h2⟩ := ih; exact ⟨(n, t) :: ps, by rw [h1]; rfl, by rw [← h2]; rfl⟩
def rSumT (K : PySem.W.Frag) : List V → Hp → VK → Prop := fun vs H Q => ∃ (a : Addr) (ns : List Int), vs = [V.ref a] ∧ SqT K H a (ns.map V.int) ∧ Q (.int ns.sum) H
theorem cr_sumT {X : Cx} (hc : X.calm = true) : CallR X (.builtin "sum") (rSumT X.K) := by
  intro pins s σ H vs us Q I r q
  obtain ⟨a, ns, rfl, hs, q⟩ := q
  obtain ⟨its, rv, hT, hz⟩ := I.tuple hs
  obtain ⟨u, rfl, ru⟩ := vals1 r
  obtain rfl : u = Value.ref a := ru
  obtain ⟨ps, e1, e2⟩ := int_pairs (show IntsAre its ns from Vals.ints rv)
  have hT2 : s.heap.IsTuple a (intItems ps.toArray) := by
    have : intItems ps.toArray = its.toArray := by unfold intItems; rw [e1, List.map_toArray]
    rw [this]; exact hT
  refine PySem.W.ktm_sumG (I.ok.hd hc) hT2 fun h' tk t' k => ?_
  have es : preSum (numAt ps.toArray) ps.toArray.size = ns.sum := by
    rw [preSum_eq]
    show (List.take ps.toArray.size (List.map (·.1) ps)).sum = ns.sum
    rw [e2, List.take_of_length_le (by rw [← e2, List.length_map, List.size_toArray]; exact Nat.le_refl _)]
  rw [es]
  exact ⟨.int ns.sum, H, I.kept (t' := tk) k, ⟨_, rfl⟩, q⟩
section
variable {X : Cx} {K : PySem.W.Frag} {Ex : XK} {e a b c tg : Expr} {pos : Pos}
def gSumA : D → (D → Prop) → Prop
  | .lst l, Q => ∃ ns : List Int, l = ns.map D.int ∧ Q (.int ns.sum)
  | .tup l, Q => ∃ ns : List Int, l = ns.map D.int ∧ Q (.int ns.sum)
  | _, _ => False
theorem c_sumA (hc : X.calm = true := by rfl) (hK : X.K = K := by rfl) : CaD X K (.builtin "sum") (o1 gSumA) := by
  subst hK
  refine ca1 (cr_or (cr_sum hc) (cr_sumT hc)) (fun d Q Q' i q => ?_) fun O H v d Q l a q => ?_
  · unfold gSumA at q ⊢
    split at q
    · obtain ⟨ns, h, q⟩ := q; exact ⟨ns, h, i _ q⟩
    · obtain ⟨ns, h, q⟩ := q; exact ⟨ns, h, i _ q⟩
    · exact q
  · unfold gSumA at q
    split at q
    · obtain ⟨ns, rfl, q⟩ := q
      obtain ⟨p, vs, rfl, h1, h2, h3⟩ := a.list
      obtain rfl := h3.ints_of
      exact .inl ⟨p, ns, rfl, .inl (.inl h1), q _ H (.refl H) (.int _)⟩
    · obtain ⟨ns, rfl, q⟩ := q
      obtain ⟨p, vs, rfl, h1, h2, h3, _⟩ := a.tuple
      obtain rfl := h3.ints_of
      exact .inr ⟨p, ns, rfl, h1, q _ H (.refl H) (.int _)⟩
    · exact q.elim
end
end DL

namespace DL
variable [Tbs]
open PySem L2
/-! ## expressions that change own lists -/
abbrev DM := List Sl → (D → List Sl → Prop) → Prop
abbrev DMs := List Sl → (List D → List Sl → Prop) → Prop
abbrev DTm := List Sl → (Bool → List Sl → Prop) → Prop
abbrev DHs := List Sl → (List D → List D → List Sl → Prop) → Prop
def MonoM (x : DM) : Prop := ∀ δ {Q Q' : D → List Sl → Prop}, (∀ d δ', Q d δ' → Q' d δ') → x δ Q → x δ Q'
def MonoMs (x : DMs) : Prop := ∀ δ {Q Q' : List D → List Sl → Prop}, (∀ d δ', Q d δ' → Q' d δ') → x δ Q → x δ Q'
def MonoTm (x : DTm) : Prop := ∀ δ {Q Q' : Bool → List Sl → Prop}, (∀ d δ', Q d δ' → Q' d δ') → x δ Q → x δ Q'
def MonoHs (x : DHs) : Prop := ∀ δ {Q Q' : List D → List D → List Sl → Prop}, (∀ a b δ', Q a b δ' → Q' a b δ') → x δ Q → x δ Q'
section
variable (K : PySem.W.Frag)
def tM (x : DM) : TE := fun σ H Q => ∃ Hb B O δ, Sta K Hb B O H σ δ ∧ x δ fun d δ' => ∀ v H', Sta K Hb B O H' σ δ' → Keep (hid O H) (hid O H') → At K (hid O H') v d → Q v H'
def tMs (x : DMs) : TA := fun σ H Q => ∃ Hb B O δ, Sta K Hb B O H σ δ ∧ x δ fun ds δ' => ∀ vs H', Sta K Hb B O H' σ δ' → Keep (hid O H) (hid O H') → AtAll K (hid O H') vs ds → Q vs H'
def tTm (x : DTm) : TT := fun σ H Q => ∃ Hb B O δ, Sta K Hb B O H σ δ ∧ x δ fun b δ' => ∀ H', Sta K Hb B O H' σ δ' → Keep (hid O H) (hid O H') → Q b H'
def tHs (i : Nat) (x : DHs) : TA := fun σ H Q => ∃ Hb B O δ, Sta K Hb B O H σ δ ∧ x δ fun as bs δ' => ∀ us ws q H', Sta K Hb B O H' σ δ' → Keep (hid O H) (hid O H') → σ[i]? = some (some (.ref q)) → AtAll K (hid O H') us as → AtAll K (hid O H') ws bs → Q (us ++ .ref q :: ws) H'
end
structure MD (X : Cx) (K : PySem.W.Frag) (e : Expr) (x : DM) : Prop where
  mono : MonoM x
  pe : PE X e (tM K x)
structure MA (X : Cx) (K : PySem.W.Frag) (es : List Expr) (x : DMs) : Prop where
  mono : MonoMs x
  len : ∀ δ Q, x δ Q → x δ fun ds δ' => ds.length = es.length ∧ Q ds δ'
  pa : PA X es (tMs K x)
structure TM (X : Cx) (K : PySem.W.Frag) (e : Expr) (x : DTm) : Prop where
  mono : MonoTm x
  pt : PT X e (tTm K x)
/-- arguments, one of them the name of an own list -/
structure HA (X : Cx) (K : PySem.W.Frag) (es : List Expr) (i : Nat) (x : DHs) : Prop where
  mono : MonoHs x
  pa : PA X es (tHs K i x)
def toM (x : DX) : DM := fun δ Q => x δ fun d => Q d δ
def toTm (x : DT) : DTm := fun δ Q => x δ fun d => Q d δ
def mNil : DMs := fun δ Q => Q [] δ
def mCons (x : DM) (xs : DMs) : DMs := fun δ Q => x δ fun a δ1 => xs δ1 fun as δ2 => Q (a :: as) δ2
section
variable {X : Cx} {K : PySem.W.Frag} {Ex : XK} {e a b c : Expr} {pos : Pos} {es : List Expr}
theorem PD.m {x : DX} (h : PD X K e x) : MD X K e (toM x) := ⟨fun δ Q Q' i q => h.mono δ (fun d => i d δ) q, pe_weak h.pe fun σ H Q ⟨Hb, B, O, δ, S, q⟩ => ⟨Hb, B, O, δ, S, h.mono δ (fun d k v H' s a => k v H' (S.grow s) (hid_same s) a) q⟩⟩
theorem TD.m {x : DT} (h : TD X K e x) : TM X K e (toTm x) := ⟨fun δ Q Q' i q => h.mono δ (fun d => i d δ) q, pt_weak h.pt fun σ H Q ⟨Hb, B, O, δ, S, q⟩ => ⟨Hb, B, O, δ, S, h.mono δ (fun d k H' s => k H' (S.grow s) (hid_same s)) q⟩⟩
theorem ma_nil : MA X K [] mNil := ⟨fun δ Q Q' i q => i _ _ q, fun δ Q q => ⟨rfl, q⟩, pa_weak pa_nil fun σ H Q ⟨Hb, B, O, δ, S, q⟩ => q [] H S (.refl _) .nil⟩
theorem ma_cons {x : DM} {xs : DMs} (h : MD X K e x) (r : MA X K es xs) (hs : starEach (e :: es) X.env = (false, eval e X.env) :: starEach es X.env := by rfl) : MA X K (e :: es) (mCons x xs) := by
  refine ⟨fun δ Q Q' i q => h.mono δ (fun a δ1 => r.mono δ1 fun as δ2 => i _ _) q, fun δ Q q => h.mono δ (fun a δ1 k => r.mono δ1 (fun as δ2 k => ⟨by rw [List.length_cons, List.length_cons, k.1], k.2⟩) (r.len δ1 _ k)) q, pa_weak (pa_cons h.pe r.pa hs) fun σ H Q ⟨Hb, B, O, δ, S, q⟩ => ⟨Hb, B, O, δ, S, h.mono δ (fun d δ1 k v H1 S1 s1 a => ?_) q⟩⟩
  exact ⟨Hb, B, O, δ1, S1, r.mono δ1 (fun ds δ2 k vs H2 S2 s2 as => k _ _ S2 (s1.trans s2) (.cons (a.mono s2) as)) k⟩
def onHole (s : Sl) (P : Prop) : Prop := match s with
  | .own _ => P
  | .ownA _ _ => P
  | _ => False
theorem onHole_at {P : Prop} {Hb H : Hp} {O : List Addr} {o : Option (Option V)} {s : Sl} (q : onHole s P) (a : SlOk K Hb O H o s) : P ∧ ∃ r, o = some (some (.ref r)) := by
  cases s with
  | own l => obtain ⟨r, vs, h, _⟩ := a; exact ⟨q, r, h⟩
  | ownA r l => obtain ⟨vs, h, _⟩ := a; exact ⟨q, r, h⟩
  | no => exact q.elim
  | d _ => exact q.elim
  | owk _ _ => exact q.elim
theorem onHole_mono {P P' : Prop} {s : Sl} (i : P → P') (q : onHole s P) : onHole s P' := by
  cases s with
  | own l => exact i q
  | ownA r l => exact i q
  | no => exact q.elim
  | d _ => exact q.elim
  | owk _ _ => exact q.elim
def hHere (i : Nat) (xs : DMs) : DHs := fun δ Q => onHole (sl δ i) (xs δ fun bs δ' => Q [] bs δ')
def hCons (x : DM) (xs : DHs) : DHs := fun δ Q => x δ fun a δ1 => xs δ1 fun as bs δ2 => Q (a :: as) bs δ2
theorem h_here (i : Nat) {x : Str} {xs : DMs} (r : MA X K es xs) (hN : X.N[i]? = some x := by rfl) (hv : Vis X.env.scope x := by first | exact Or.inl rfl | exact Or.inr (Or.inl rfl) | exact Or.inr (Or.inr rfl)) (hd : (x == ("__debug__" : Str)) = false := by decide)
    (hcd : (x == ("__classdict__" : Str)) = false := by decide) (hs : starEach (.Name x pos :: es) X.env = (false, eval (.Name x pos) X.env) :: starEach es X.env := by rfl) : HA X K (.Name x pos :: es) i (hHere i xs) := by
  refine ⟨fun δ Q Q' j q => onHole_mono (r.mono δ fun bs δ' => j _ _ _) q, pa_weak (pa_cons (pe_var hN hv hd hcd) r.pa hs) fun σ H Q ⟨Hb, B, O, δ, S, q⟩ => ?_⟩
  obtain ⟨q, p, hp⟩ := onHole_at q (S.at_ i)
  exact ⟨_, hp, Hb, B, O, δ, S, r.mono δ (fun bs δ' k vs H' S' s' as => k [] vs p H' S' s' hp .nil as) q⟩
theorem h_cons {i : Nat} {x : DM} {xs : DHs} (h : MD X K e x) (r : HA X K es i xs) (hs : starEach (e :: es) X.env = (false, eval e X.env) :: starEach es X.env := by rfl) : HA X K (e :: es) i (hCons x xs) := by
  refine ⟨fun δ Q Q' j q => h.mono δ (fun a δ1 => r.mono δ1 fun as bs δ2 => j _ _ _) q, pa_weak (pa_cons h.pe r.pa hs) fun σ H Q ⟨Hb, B, O, δ, S, q⟩ => ⟨Hb, B, O, δ, S, h.mono δ (fun d δ1 k v H1 S1 s1 a => ?_) q⟩⟩
  exact ⟨Hb, B, O, δ1, S1, r.mono δ1 (fun as bs δ2 k us ws q H2 S2 s2 hq au aw => k (v :: us) ws q H2 S2 (s1.trans s2) hq (.cons (a.mono s2) au) aw) k⟩
/-! ### tuples, operators, indexes, tests -/
def mTup (x : DMs) : DM := fun δ Q => x δ fun ds δ' => Q (.tup ds) δ'
theorem m_tup {xs : DMs} {k : Nat} (h : MA X K es xs) (hn : es.length ≤ 1000 := by exact Nat.le_of_ble_eq_true rfl) : MD X K (.Tuple es k pos) (mTup xs) := by
  refine ⟨fun δ Q Q' i q => h.mono δ (fun ds δ' q => i _ _ q) q, pe_weak (pe_tup h.pa) fun σ H Q ⟨Hb, B, O, δ, S, q⟩ => ⟨Hb, B, O, δ, S, h.mono δ (fun ds δ' ⟨hl, k⟩ vs H1 S1 s1 a => ⟨?_, fun p n => ?_⟩) (h.len δ _ q)⟩⟩
  · rw [a.len, hl]; exact Nat.le_of_lt (Nat.lt_of_le_of_lt (Nat.le_trans hn (by decide)) LIM_size)
  · exact k _ _ (S1.grow (same_new n)) (s1.trans (hid_same (same_new n))) (At.newT S1.live n (by rw [hl]; exact Nat.le_trans hn (by decide)) a)
def mOp (o : D → D → (D → Prop) → Prop) (x y : DM) : DM := fun δ Q => x δ fun a δ1 => y δ1 fun b δ2 => o a b fun d => Q d δ2
theorem mbin_imp {x y : DM} {r : R2} {σ : St} {H : Hp} {Q : VK} {G : D → D → List Sl → Prop} (ha : MD X K a x) (hb : MD X K b y) {Hb : Hp} {B O : List Addr} {δ : List Sl} (S : Sta K Hb B O H σ δ) (q : x δ fun a δ1 => y δ1 fun b δ2 => G a b δ2)
    (k : ∀ u v H2 d e δ2, Sta K Hb B O H2 σ δ2 → Keep (hid O H) (hid O H2) → At K (hid O H2) u d → At K (hid O H2) v e → G d e δ2 → r u v H2 Q) : tOp r (tM K x) (tM K y) σ H Q :=
  ⟨Hb, B, O, δ, S, ha.mono δ (fun d δ1 g u H1 S1 s1 au => ⟨Hb, B, O, δ1, S1, hb.mono δ1 (fun e δ2 g v H2 S2 s2 av => k u v H2 d e δ2 S2 (s1.trans s2) (au.mono s2) av g) g⟩) q⟩
theorem m_op {op : Operator} {o : D → D → (D → Prop) → Prop} {x y : DM} (ho : OpD X K (binaryOp op) o) (ha : MD X K a x) (hb : MD X K b y) : MD X K (.BinOp a op b pos) (mOp o x y) := by
  obtain ⟨r, hr, hi⟩ := ho.ex
  refine ⟨fun δ Q Q' i q => ha.mono δ (fun d δ1 => hb.mono δ1 fun e δ2 => ho.mono d e fun w => i w δ2) q, pe_weak (pe_op hr ha.pe hb.pe) fun σ H Q ⟨Hb, B, O, δ, S, q⟩ => mbin_imp ha hb S q fun u v H2 d e δ2 S2 s au av g => ?_⟩
  exact hi O H2 u v d e Q S2.live (.at_ au) (.at_ av) (ho.mono d e (fun w k v' H' s' a => k v' H' (S2.grow s') (s.trans (hid_same s')) a) g)
theorem m_cmp {op : CmpOp} {o : D → D → (D → Prop) → Prop} {x y : DM} (ho : OpD X K (compareOp op) o) (ha : MD X K a x) (hb : MD X K b y) (hm : behindInMarks op b = false := by first | exact nomark _ | rfl) : MD X K (.Compare a [op] [b] pos) (mOp o x y) := by
  obtain ⟨r, hr, hi⟩ := ho.ex
  refine ⟨fun δ Q Q' i q => ha.mono δ (fun d δ1 => hb.mono δ1 fun e δ2 => ho.mono d e fun w => i w δ2) q, pe_weak (pe_cmpR hr ha.pe hb.pe hm) fun σ H Q ⟨Hb, B, O, δ, S, q⟩ => mbin_imp ha hb S q fun u v H2 d e δ2 S2 s au av g => ?_⟩
  exact hi O H2 u v d e Q S2.live (.at_ au) (.at_ av) (ho.mono d e (fun w k v' H' s' a => k v' H' (S2.grow s') (s.trans (hid_same s')) a) g)
def tmOf (x : DM) : DTm := fun δ Q => x δ fun d δ' => asB (fun b => Q b δ') d
theorem tm_cmp {op : CmpOp} {o : D → D → (D → Prop) → Prop} {x y : DM} (ho : OpD X K (compareOp op) o) (ha : MD X K a x) (hb : MD X K b y) (hm : behindInMarks op b = false := by first | exact nomark _ | rfl) : TM X K (.Compare a [op] [b] pos) (tmOf (mOp o x y)) := by
  obtain ⟨r, hr, hi⟩ := ho.ex
  refine ⟨fun δ Q Q' i q => ha.mono δ (fun d δ1 => hb.mono δ1 fun e δ2 => ho.mono d e (fun w => asB_mono (fun t => i t δ2) w)) q, pt_weak (pt_cmpR hr ha.pe hb.pe hm) fun σ H Q ⟨Hb, B, O, δ, S, q⟩ => ?_⟩
  show tOp r (tM K x) (tM K y) σ H _
  refine mbin_imp ha hb S q fun u v H2 d e δ2 S2 s au av g => ?_
  refine hi O H2 u v d e _ S2.live (.at_ au) (.at_ av) (ho.mono d e (fun w k v' H' s' a => ?_) g)
  obtain ⟨b, rfl, k⟩ := asB_at k (.at_ a)
  exact ⟨b, rfl, k H' (S2.grow s') (s.trans (hid_same s'))⟩
theorem m_ix {x y : DM} (ha : MD X K a x) (hb : MD X K b y) (hK : X.K = K := by rfl) (hs : PlainIx b := by exact fun _ _ => rfl) : MD X K (.Subscript a b pos) (mOp oIx x y) := by
  subst hK
  refine ⟨fun δ Q Q' i q => ha.mono δ (fun d δ1 => hb.mono δ1 fun e δ2 => oIx_mono d e fun w => i w δ2) q, pe_weak (pe_ix ix_seq ha.pe hb.pe hs) fun σ H Q ⟨Hb, B, O, δ, S, q⟩ => mbin_imp ha hb S q fun u v H2 d e δ2 S2 s au av g => ?_⟩
  have au : OAt X.K O H2 u d := .at_ au
  have av : OAt X.K O H2 v e := .at_ av
  unfold oIx at g
  split at g
  · obtain ⟨x, g1, g2⟩ := of_onSome g
    obtain ⟨p, vs, rfl, h1, h2, h3⟩ := au.list
    obtain ⟨w, h4, h5⟩ := ixD_V h3 g1
    exact .inl ⟨p, vs, _, w, rfl, av.int, .inl (.inl h1), h4, g2 w H2 S2 s h5⟩
  · obtain ⟨x, g1, g2⟩ := of_onSome g
    obtain ⟨p, vs, rfl, h1, h2, h3, _⟩ := au.tuple
    obtain ⟨w, h4, h5⟩ := ixD_V h3 g1
    exact .inr (.inl ⟨p, vs, _, w, rfl, av.int, h1, h4, g2 w H2 S2 s h5⟩)
  · obtain ⟨x, g1, g2⟩ := of_onSome g
    obtain ⟨p, vs, rfl, h1, h2, h3⟩ := au.script
    obtain ⟨w, h4, h5⟩ := ixD_V h3 g1
    exact .inl ⟨p, vs, _, w, rfl, av.int, h1, h4, g2 w H2 S2 s h5⟩
  · obtain ⟨gl, g⟩ := g
    obtain ⟨x, g1, g2⟩ := of_onSome g
    rw [ixD_at] at g1
    exact .inr (.inr ⟨_, _, x, au.str, av.int, lim_sz gl, g1, g2 _ H2 S2 s (.str _)⟩)
  · exact g.elim
def mIf (t : DTm) (x y : DM) : DM := fun δ Q => t δ fun b δ1 => if b = true then x δ1 Q else y δ1 Q
theorem m_ifE {t : DTm} {x y : DM} (hc : TM X K c t) (ha : MD X K a x) (hb : MD X K b y) : MD X K (.IfExp c a b pos) (mIf t x y) := by
  refine ⟨fun δ Q Q' i q => hc.mono δ (fun k δ1 => ite_mono k (ha.mono δ1 i) (hb.mono δ1 i)) q, pe_weak (pe_ifExp hc.pt ha.pe hb.pe) fun σ H Q ⟨Hb, B, O, δ, S, q⟩ => ⟨Hb, B, O, δ, S, hc.mono δ (fun k δ1 q H1 S1 s1 => ?_) q⟩⟩
  refine ite_mono k (fun q => ⟨Hb, B, O, δ1, S1, ha.mono δ1 (fun d δ2 k v H2 S2 s2 a => k v H2 S2 (s1.trans s2) a) q⟩) (fun q => ⟨Hb, B, O, δ1, S1, hb.mono δ1 (fun d δ2 k v H2 S2 s2 a => k v H2 S2 (s1.trans s2) a) q⟩) q
/-! ### calls -/
def mCall (R : Rf) (x : DMs) : DM := fun δ Q => x δ fun ds δ' => R ds fun d => Q d δ'
theorem m_call {k : Nat} {x : Str} {ps : List Str} {R : Rf} {xs : DMs} {p : Pos} (C : Cal X.prog X.w X.K X.mg X.base CX0 k x ps (spW K R)) (hm : MonoR R) (hr : Ro k X.A) (ha : MA X K (e :: es) xs) (hg : Gl X x := by rfl) (hdb : (x == ("__debug__" : Str)) = false := by decide)
    (he : starEach (e :: es) X.env = (false, eval e X.env) :: starEach es X.env := by rfl) (hpl : (backTo pos (starEach es X.env)).any (·.1) = false := by rfl) : MD X K (.Call (.Name x p) (e :: es) [] pos) (mCall R xs) := by
  obtain ⟨f, fd, h1, h2, h3, h4⟩ := C.ex
  refine ⟨fun δ Q Q' i q => ha.mono δ (fun ds δ' => hm ds fun d => i d δ') q, pe_weak (peg_call h4 hr hg h1 h2 h3 .nil pass0 ha.pa hdb he hpl) fun σ H Q ⟨Hb, B, O, δ, S, q⟩ => ⟨Hb, B, O, δ, S, ha.mono δ (fun ds δ' g vs H1 S1 s1 as => ?_) q⟩⟩
  show spW K R (vs ++ []) H1 Q E0
  rw [List.append_nil]
  exact ⟨O, ds, S1.live, S1.tab, as, hm ds (fun d k v H' s a => k v H' (S1.grow s) (s1.trans (hid_same s)) a) g⟩
def mCa (o : List D → (D → Prop) → Prop) (x : DMs) : DM := fun δ Q => x δ fun ds δ' => o ds fun d => Q d δ'
theorem oall_of {O : List Addr} {H : Hp} {vs : List V} {ds : List D} (h : AtAll K (hid O H) vs ds) : OAll K O H vs ds := by
  induction vs generalizing ds with
  | nil => cases h; exact .nil
  | cons v vs ih => cases h with
    | cons a r => exact .cons (.at_ a) (ih r)
theorem m_callB {o : List D → (D → Prop) → Prop} {x : Str} {id : String} {p : Pos} {xs : DMs} (ho : CaD X K (.builtin id) o) (hm : X.mg x = none) (ha : MA X K (e :: es) xs) (hg : Gl X x := by rfl) (hv : bootBuiltins x = some (.builtin id) := by decide +kernel) (hn : x ≠ "__name__" := by decide) (hdb : (x == ("__debug__" : Str)) = false := by decide)
    (he : starEach (e :: es) X.env = (false, eval e X.env) :: starEach es X.env := by rfl) (hpl : (backTo pos (starEach es X.env)).any (·.1) = false := by rfl) : MD X K (.Call (.Name x p) (e :: es) [] pos) (mCa o xs) := by
  obtain ⟨r, hr, hi⟩ := ho.ex
  refine ⟨fun δ Q Q' i q => ha.mono δ (fun ds δ' => ho.mono ds fun d => i d δ') q, pe_weak (pe_callB hr hg hm hv ha.pa hn hdb he hpl) fun σ H Q ⟨Hb, B, O, δ, S, q⟩ => ⟨Hb, B, O, δ, S, ha.mono δ (fun ds δ' g vs H1 S1 s1 as => ?_) q⟩⟩
  exact hi O H1 vs ds Q S1.live (oall_of as) (ho.mono ds (fun d k v H' s a => k v H' (S1.grow s) (s1.trans (hid_same s)) a) g)
/-- a def that changes one list of the caller's: from the arguments before it, its items, the arguments behind it -/
abbrev Rm := List D → List D → List D → (D → List D → Prop) → Prop
def MonoRm (R : Rm) : Prop := ∀ as l bs {Q Q' : D → List D → Prop}, (∀ d l', Q d l' → Q' d l') → R as l bs Q → R as l bs Q'
def spM (K : PySem.W.Frag) (R : Rm) : Sp := fun vs H Q _ => ∃ B us q ws cs as l bs, (∀ b ∈ B, H b ≠ none) ∧ Tabs H ∧ q ∉ B ∧ vs = us ++ .ref q :: ws ∧ H q = some (.lst cs) ∧ l.length ≤ LIM ∧ AtAll K (hid (q :: B) H) cs l ∧ AtAll K (hid (q :: B) H) us as ∧ AtAll K (hid (q :: B) H) ws bs ∧
  R as l bs fun d l' => ∀ v H' cs', Kept (hid [q] H) H' → H' q = some (.lst cs') → l'.length ≤ LIM → AtAll K (hid (q :: B) H') cs' l' → At K (hid (q :: B) H') v d → Q v H'
def onMut (g : List D → (List D → Sl) → Prop) : Sl → Prop
  | .own l => g l .own
  | .ownA p l => g l (.ownA p)
  | _ => False
theorem onMut_mono {g g' : List D → (List D → Sl) → Prop} {s : Sl} (i : ∀ l u, g l u → g' l u) (q : onMut g s) : onMut g' s := by
  cases s with
  | own l => exact i _ _ q
  | ownA r l => exact i _ _ q
  | no => exact q.elim
  | d _ => exact q.elim
  | owk _ _ => exact q.elim
theorem onMut_at {g : List D → (List D → Sl) → Prop} {Hb H : Hp} {O : List Addr} {o : Option (Option V)} {s : Sl} (q : onMut g s) (a : SlOk K Hb O H o s) : ∃ l up r cs, s = up l ∧ g l up ∧ o = some (some (.ref r)) ∧ r ∈ O ∧ Hb r = none ∧ H r = some (.lst cs) ∧ l.length ≤ LIM ∧ AtAll K (hid O H) cs l ∧ (∀ l, isOwn (up l) = true) ∧
    ∀ (H' : Hp) (cs' : List V) (l' : List D), H' r = some (.lst cs') → l'.length ≤ LIM → AtAll K (hid O H') cs' l' → SlOk K Hb O H' (some (some (.ref r))) (up l') := by
  cases s with
  | own l => obtain ⟨r, cs, h1, h2, h3, h4, h5, h6⟩ := a; exact ⟨l, _, r, cs, rfl, q, h1, h2, h3, h4, h5, h6, fun _ => rfl, fun H' cs' l' e1 e2 e3 => ⟨r, cs', rfl, h2, h3, e1, e2, e3⟩⟩
  | ownA r l => obtain ⟨cs, h1, h2, h3, h4, h5, h6⟩ := a; exact ⟨l, _, r, cs, rfl, q, h1, h2, h3, h4, h5, h6, fun _ => rfl, fun H' cs' l' e1 e2 e3 => ⟨cs', rfl, h2, h3, e1, e2, e3⟩⟩
  | no => exact q.elim
  | d _ => exact q.elim
  | owk _ _ => exact q.elim
/-- an own cell changed by a call -/
theorem Sta.own_chg {Hb H H' : Hp} {B O : List Addr} {σ : St} {δ : List Sl} (S : Sta K Hb B O H σ δ) {i : Nat} {q : Addr} {s : Sl} (ho : isOwn (sl δ i) = true) (hq : σ[i]? = some (some (.ref q))) (m : q ∈ O) (hb : Hb q = none) (smt : Kept (hid [q] H) H') (lv : H' q ≠ none) (hs : SlOk K Hb O H' (some (some (.ref q))) s) : Sta K Hb B O H' σ (δ.set i s) := by
  have hi : i < δ.length := sl_len fun z => by rw [z] at ho; cases ho
  have sm := smt.k
  have keep : ∀ {r : Addr} {u : HO}, r ≠ q → H r = some u → (∀ ps, u ≠ .tbl ps) → H' r = some u := fun {r u} n h nt => sm.k _ _ (by rw [hid_of (by simpa using n)]; exact h) nt
  have keepN : ∀ {r : Addr}, r ≠ q → H r ≠ none → H' r ≠ none := fun {r} n h => sm.l _ (by rw [hid_of (by simpa using n)]; exact h)
  have hm : Keep (hid O H) (hid O H') := ⟨fun b x h nt => by
    obtain ⟨nb, h⟩ := hid_some h
    rw [hid_of nb]
    exact keep (fun z => nb (by rw [z]; exact m)) h nt, fun b h => by
    obtain ⟨nb, h⟩ := hid_none h
    rw [hid_of nb]
    exact keepN (fun z => nb (by rw [z]; exact m)) h⟩
  refine ⟨by rw [List.length_set, S.len], ⟨fun b x h nt => keep (fun z => by rw [z, hb] at h; cases h) (S.kp.k _ _ h nt) nt, fun b h => keepN (fun z => h (by rw [z]; exact hb)) (S.kp.l _ h)⟩, smt.t, S.sub, S.liveB, fun b hb' => ?_, S.fresh, fun j => ?_, fun j k r hj hk ej ek => ?_⟩
  · by_cases z : b = q
    · rw [z]; exact lv
    · exact keepN z (S.live b hb')
  · by_cases h : i = j
    · subst h
      rw [sl_set_same _ _ _ hi, hq]
      exact hs
    · rw [sl_set_ne _ _ _ _ h]
      have a := S.at_ j
      cases e : sl δ j with
      | no => trivial
      | d y =>
        rw [e] at a
        obtain ⟨v, h1, h2⟩ := a
        exact ⟨v, h1, h2.mono hm⟩
      | own l =>
        rw [e] at a
        obtain ⟨r, vs, h1, h2, h3, h4, h5, h6⟩ := a
        have nr : r ≠ q := fun z => h (S.inj i j q ho (by rw [e]; rfl) hq (by rw [h1, z]))
        exact ⟨r, vs, h1, h2, h3, keep nr h4 (fun _ z => nomatch z), h5, h6.mono hm⟩
      | ownA r l =>
        rw [e] at a
        obtain ⟨vs, h1, h2, h3, h4, h5, h6⟩ := a
        have nr : r ≠ q := fun z => h (S.inj i j q ho (by rw [e]; rfl) hq (by rw [h1, z]))
        exact ⟨vs, h1, h2, h3, keep nr h4 (fun _ z => nomatch z), h5, h6.mono hm⟩
      | owk ks l =>
        rw [e] at a
        obtain ⟨r, vs, h1, h2, h3, h4, h5, h6, h7⟩ := a
        have nr : r ≠ q := fun z => h (S.inj i j q ho (by rw [e]; rfl) hq (by rw [h1, z]))
        exact ⟨r, vs, h1, h2, h3, keep nr h4 (fun _ z => nomatch z), h5, h6, h7.mono hm⟩
  · have f : ∀ j, isOwn (sl (δ.set i s) j) = true → isOwn (sl δ j) = true := fun j hj => by
      by_cases h : i = j
      · subst h; exact ho
      · rw [sl_set_ne _ _ _ _ h] at hj; exact hj
    exact S.inj j k r (f j hj) (f k hk) ej ek
theorem hid_filter {O : List Addr} {q : Addr} (m : q ∈ O) (H : Hp) : hid (q :: O.filter (· ≠ q)) H = hid O H := by
  funext a
  have e : a ∈ q :: O.filter (· ≠ q) ↔ a ∈ O := by
    rw [List.mem_cons, List.mem_filter]
    constructor
    · rintro (rfl | h)
      · exact m
      · exact h.1
    · intro h
      by_cases z : a = q
      · exact .inl z
      · exact .inr ⟨h, by simpa using z⟩
  unfold hid
  by_cases h : a ∈ O
  · rw [if_pos h, if_pos (e.mpr h)]
  · rw [if_neg h, if_neg fun z => h (e.mp z)]
def mCallM (i : Nat) (R : Rm) (x : DHs) : DM := fun δ Q => x δ fun as bs δ' => onMut (fun l up => R as l bs fun d l' => Q d (δ'.set i (up l'))) (sl δ' i)
theorem m_callM {k i : Nat} {x : Str} {ps : List Str} {R : Rm} {xs : DHs} {p : Pos} (C : Cal X.prog X.w X.K X.mg X.base CX0 k x ps (spM K R)) (hm : MonoRm R) (hr : Ro k X.A) (ha : HA X K (e :: es) i xs) (hg : Gl X x := by rfl) (hdb : (x == ("__debug__" : Str)) = false := by decide)
    (he : starEach (e :: es) X.env = (false, eval e X.env) :: starEach es X.env := by rfl) (hpl : (backTo pos (starEach es X.env)).any (·.1) = false := by rfl) : MD X K (.Call (.Name x p) (e :: es) [] pos) (mCallM i R xs) := by
  obtain ⟨f, fd, h1, h2, h3, h4⟩ := C.ex
  refine ⟨fun δ Q Q' j q => ha.mono δ (fun as bs δ' => onMut_mono fun l up => hm as l bs fun d l' => j d _) q, pe_weak (peg_call h4 hr hg h1 h2 h3 .nil pass0 ha.pa hdb he hpl) fun σ H Q ⟨Hb, B, O, δ, S, q⟩ => ⟨Hb, B, O, δ, S, ha.mono δ (fun as bs δ' g us ws q H1 S1 s1 hq au aw => ?_) q⟩⟩
  show spM K R ((us ++ .ref q :: ws) ++ []) H1 Q E0
  rw [List.append_nil]
  obtain ⟨l, up, r, cs, e1, g, h5, h6, h7, h8, h9, h10, h11, h12⟩ := onMut_at g (S1.at_ i)
  rw [hq] at h5
  obtain rfl : q = r := by injection h5 with h5; injection h5 with h5; injection h5
  have ef := hid_filter (O := O) (q := q) h6
  refine ⟨O.filter (· ≠ q), us, q, ws, cs, as, l, bs, fun b h => S1.live b (List.mem_filter.mp h).1, S1.tab, fun h => by simpa using (List.mem_filter.mp h).2, rfl, h8, h9, by rw [ef]; exact h10, by rw [ef]; exact au, by rw [ef]; exact aw, hm as l bs (fun d l' k v H' cs' sm hv hl a1 a2 => ?_) g⟩
  rw [ef] at a1 a2
  refine k v H' (S1.own_chg (by rw [e1]; exact h11 l) hq h6 h7 sm (by rw [hv]; exact fun z => by cases z) (h12 H' cs' l' hv hl a1)) (s1.trans ⟨fun b x h nt => ?_, fun b h => ?_⟩) a2
  · obtain ⟨nb, h⟩ := hid_some h
    rw [hid_of nb]
    exact sm.k.k _ _ (by rw [hid_of (by simpa using fun z : b = q => nb (by rw [z]; exact h6))]; exact h) nt
  · obtain ⟨nb, h⟩ := hid_none h
    rw [hid_of nb]
    exact sm.k.l _ (by rw [hid_of (by simpa using fun z : b = q => nb (by rw [z]; exact h6))]; exact h)
end
end DL

namespace DL
variable [Tbs]
open PySem L2
/-! ## own lists changed within expressions; statements; defs -/
section
variable {X : Cx} {K : PySem.W.Frag} {Ex : XK} {e a b c : Expr} {pos : Pos} {es : List Expr}
theorem onHole_at2 {P : Prop} {Hb H : Hp} {O : List Addr} {o : Option (Option V)} {s : Sl} (q : onHole s P) (a : SlOk K Hb O H o s) : P ∧ ∃ r vs, o = some (some (.ref r)) ∧ H r = some (.lst vs) := by
  cases s with
  | own l => obtain ⟨r, vs, h, _, _, h4, _⟩ := a; exact ⟨q, r, vs, h, h4⟩
  | ownA r l => obtain ⟨vs, h, _, _, h4, _⟩ := a; exact ⟨q, r, vs, h, h4⟩
  | no => exact q.elim
  | d _ => exact q.elim
  | owk _ _ => exact q.elim
def mPop (i : Nat) (u : DX) : DM := fun δ Q => u δ (asI fun k => onMut (fun l up => onSome (seqIndex? k l.length) fun t => onSome l[t]? fun d => (-(2 ^ 63) ≤ k ∧ k < 2 ^ 63) ∧ Q d (δ.set i (up (l.eraseIdx t)))) (sl δ i))
theorem m_pop {i : Nat} {x : Str} {u : DX} {p1 p2 p3 : Pos} (h : QD X K e u) (hN : X.N[i]? = some x := by rfl) (hK : X.K = K := by rfl) (hv : Vis X.env.scope x := by first | exact Or.inl rfl | exact Or.inr (Or.inl rfl) | exact Or.inr (Or.inr rfl)) (hd : (x == ("__debug__" : Str)) = false := by decide)
    (hcd : (x == ("__classdict__" : Str)) = false := by decide) (hbase : attributeBase (.Name x p1) "pop" X.env (eval (.Name x p1) X.env) = eval (.Name x p1) X.env := by rfl)
    (hfew : ((backTo p3 (starEach [e] X.env)).all (fun x => !x.1) && (backToKw p3 (keywordEach [] X.env)).all (fun x => x.1.isSome) && decide ([e].length + ([] : List Keyword).length + (if ([] : List Keyword).isEmpty then 0 else 1) < 30)) = true := by rfl)
    (hline : (p2.endLine == p3.line) = true := by rfl) (hst : starEach [e] X.env = (false, eval e X.env) :: starEach [] X.env := by rfl) (hpl : (backTo p3 (starEach [] X.env)).any (·.1) = false := by rfl) :
    MD X K (.Call (.Attribute (.Name x p1) "pop" p2) [e] [] p3) (fun δ Q => onHole (sl δ i) (mPop i u δ Q)) := by
  subst hK
  refine ⟨fun δ Q Q' j q => onHole_mono (h.mono δ (asI_mono fun k => onMut_mono fun l up => onSome_mono fun t => onSome_mono fun d q => ⟨q.1, j _ _ q.2⟩)) q, pe_weak (pe_bm PySem.F.plainAttrs_list PySem.F.slot_list_pop PySem.F.type_list_pop mt_popAt (pe_var hN hv hd hcd) (pa_cons h.pe pa_nil hst) hbase hfew hline hst hpl) fun σ H Q ⟨Hb, B, O, δ, S, q⟩ => ?_⟩
  obtain ⟨q, p, vs0, hp, hl0⟩ := onHole_at2 q (S.at_ i)
  refine ⟨_, hp, .inl ⟨rfl, _, .inl (.inl hl0)⟩, Hb, B, O, δ, S, h.mono δ (fun z q w H1 s1 aw => ?_) q⟩
  obtain ⟨k, rfl, q⟩ := asI_at q aw
  have S1 := S.grow s1
  obtain ⟨l, up, r, cs, e1, q, h5, h6, h7, h8, h9, h10, h11, h12⟩ := onMut_at q (S1.at_ i)
  rw [hp] at h5
  obtain rfl : p = r := by injection h5 with h5; injection h5 with h5; injection h5
  obtain ⟨t, et, q⟩ := of_onSome q
  obtain ⟨d, ed, ⟨k1, k2⟩, q⟩ := of_onSome q
  obtain ⟨v, ev, av⟩ := h10.get' ed
  have eh : hid O (upd H1 p (.lst (cs.eraseIdx t))) = hid O H1 := hid_upd h6
  refine ⟨p, cs, k, t, v, rfl, rfl, h8, k1, k2, by rw [h10.len]; exact et, ev, ?_⟩
  refine q v _ (S1.own_upd (by rw [e1]; exact h11 l) hp h6 h7 (h12 _ _ _ upd_same (Nat.le_trans (List.length_eraseIdx_le _ _) h9) (by rw [eh]; exact erase_at h10 t))) (by rw [eh]; exact hid_same s1) (by rw [eh]; exact av)
/-! ### statements -/
def gSetM (i : Nat) (x : DM) : DS := fun F δ => x δ fun d δ' => F.nx (δ'.set i (.d d))
theorem s_setM {i : Nat} {x : Str} {y : DM} {pos' : Pos} (hN : X.N.Nodup) (hi : X.N[i]? = some x) (hx : Loc X.env.scope x) (h : MD X K e y) (hs : swapsWith e (some (.Name x pos')) pos.line X.env = pure false := by rfl)
    (hf : X.fn x = true ∨ X.env.scope.names.lookup x = some .local := by first | exact .inl rfl | exact .inr rfl | assumption) : SD X K Ex (.Assign [.Name x pos'] e pos) (gSetM i y) :=
  ⟨ps_weak (ps_set hN hi hx h.pe hs hf) fun E σ H ⟨Hb, B, O, δ, F, S, q, L⟩ => ⟨Hb, B, O, δ, S, h.mono δ (fun d δ' k v H' S' s a => L.nx _ _ _ _ (S'.set a) k) q⟩⟩
/-- return of a def that changes a list of the caller's -/
def gRetM (x : DM) : DS := fun F δ => x δ F.rs
theorem s_retM {x : DM} (h : MD X K e x) : SD X K Ex (.Return (some e) pos) (gRetM x) :=
  ⟨ps_weak (ps_ret h.pe) fun E σ H ⟨Hb, B, O, δ, F, S, q, L⟩ => ⟨Hb, B, O, δ, S, h.mono δ (fun d δ' k v H' S' s a => L.rs _ _ _ _ _ _ S' a k) q⟩⟩
def gRetNM : DS := fun F δ => F.rs .non δ
theorem s_retNM : SD X K Ex (.Return none pos) gRetNM := ⟨ps_weak ps_retN fun E σ H ⟨Hb, B, O, δ, F, S, q, L⟩ => L.rs _ _ _ _ _ _ S .non q⟩
/-- .. of one that does not -/
def gRetMr (x : DM) : DS := fun F δ => x δ fun d _ => F.rt d
theorem s_retMr {x : DM} (h : MD X K e x) : SD X K Ex (.Return (some e) pos) (gRetMr x) :=
  ⟨ps_weak (ps_ret h.pe) fun E σ H ⟨Hb, B, O, δ, F, S, q, L⟩ => ⟨Hb, B, O, δ, S, h.mono δ (fun d δ' k v H' S' s a => L.rt v H' d S'.same (S'.out a) k) q⟩⟩
def gDropM (x : DM) : DS := fun F δ => x δ fun _ δ' => F.nx δ'
theorem s_exprM {x : DM} (h : MD X K e x) (hs : swapsWith e none pos.line X.env = pure false := by rfl) : SD X K Ex (.Expr e pos) (gDropM x) :=
  ⟨ps_weak (ps_expr h.pe hs) fun E σ H ⟨Hb, B, O, δ, F, S, q, L⟩ => ⟨Hb, B, O, δ, S, h.mono δ (fun d δ' k v H' S' s a => L.nx _ _ _ _ S' k) q⟩⟩
def gIfM (t : DTm) (g h : DS) : DS := fun F δ => t δ fun b δ' => if b = true then g F δ' else h F δ'
theorem s_ifM {c : Expr} {a b : List Stmt} {t : DTm} {g h : DS} (hc : TM X K c t) (ha : SDs X K Ex a g) (hb : SDs X K Ex b h) : SD X K Ex (.If c a b pos) (gIfM t g h) :=
  ⟨ps_weak (ps_if hc.pt ha.pss hb.pss) fun E σ H ⟨Hb, B, O, δ, F, S, q, L⟩ => ⟨Hb, B, O, δ, S, hc.mono δ (fun k δ' q H' S' s => ite_mono k (fun q => ⟨Hb, B, O, δ', F, S', q, L⟩) (fun q => ⟨Hb, B, O, δ', F, S', q, L⟩) q) q⟩⟩
/-- own[i] = e, of a list of the caller's too -/
def gPutM (i : Nat) (x y : DX) : DS := fun F δ => y δ fun d => onMut (fun l up => x δ (asI fun k => onSome (ixN l.length k) fun j => F.nx (δ.set i (up (l.set j d))))) (sl δ i)
theorem s_putM (i : Nat) {x : Str} {ie : Expr} {u v : DX} {p1 p2 : Pos} (hi : QD X K ie u) (h : PD X K e v) (hN : X.N[i]? = some x := by rfl) (hv : Vis X.env.scope x := by first | exact Or.inl rfl | exact Or.inr (Or.inl rfl) | exact Or.inr (Or.inr rfl)) (hd : (x == ("__debug__" : Str)) = false := by decide)
    (hcd : (x == ("__classdict__" : Str)) = false := by decide)
    (ha : ∀ v, assign (.Subscript (.Name x p1) ie p2) X.env v = (do
      let ov ← holding [v] (eval (.Name x p1) X.env)
      let iv ← holding [v, ov] (eval ie X.env)
      standAt p2
      holding [v, ov, iv] (setItem ov iv v)
      release [v, ov, iv] []) := by intro _; rfl)
    (hs : swapsWithSole [.Subscript (.Name x p1) ie p2] e pos.line X.env = pure false := by rfl) (hw : swappedStores [.Subscript (.Name x p1) ie p2] e X.env = pure none := by rfl)
    (h1 : (assignEach [.Subscript (.Name x p1) ie p2] X.env).map (·.2) = [assign (.Subscript (.Name x p1) ie p2) X.env] := by rfl) :
    SD X K Ex (.Assign [.Subscript (.Name x p1) ie p2] e pos) (gPutM i u v) := by
  refine ⟨ps_weak (ps_asg h.pe (pg_sub (pe_var hN hv hd hcd) hi.pe set_list ha) hs hw h1) fun E σ H ⟨Hb, B, O, δ, F, S, q, L⟩ => ⟨Hb, B, O, δ, S, h.mono δ (fun d q w H1 s1 aw => ?_) q⟩⟩
  have S1 := S.grow s1
  obtain ⟨l, up, r, cs, e1, q, h5, h6, h7, h8, h9, h10, h11, h12⟩ := onMut_at q (S1.at_ i)
  refine ⟨_, h5, Hb, B, O, δ, S1, hi.mono δ (fun ix q z H2 s2 az => ?_) q⟩
  obtain ⟨k, rfl, q⟩ := asI_at q az
  obtain ⟨j, ej, q⟩ := of_onSome q
  have S2 := S1.grow s2
  refine ⟨r, cs, k, j, rfl, rfl, s2.at h8, by rw [h10.len]; exact ej, L.nx _ _ _ _ (S2.own_upd (by rw [e1]; exact h11 l) h5 h6 h7 (h12 _ _ _ upd_same (by rw [List.length_set]; exact h9) ?_)) q⟩
  rw [hid_upd h6]
  exact (h10.mono (hid_same s2)).set (aw.mono (hid_same s2)) j
/-- own.append(e), e changes another one -/
def gAppM (i : Nat) (x : DM) : DS := fun F δ => onOwn (fun _ => x δ fun d δ' => onOwn (fun l => l.length < LIM ∧ F.nx (δ'.set i (.own (l ++ [d])))) (sl δ' i)) (sl δ i)
theorem s_appM (i : Nat) {x : Str} {y : DM} {p1 p2 p3 : Pos} (h : MD X K e y) (hK : X.K = K := by rfl) (hN : X.N[i]? = some x := by rfl) (hv : Vis X.env.scope x := by first | exact Or.inl rfl | exact Or.inr (Or.inl rfl) | exact Or.inr (Or.inr rfl)) (hd : (x == ("__debug__" : Str)) = false := by decide)
    (hcd : (x == ("__classdict__" : Str)) = false := by decide) (hbase : attributeBase (.Name x p1) "append" X.env (eval (.Name x p1) X.env) = eval (.Name x p1) X.env := by rfl)
    (hfew : ((backTo p3 (starEach [e] X.env)).all (fun x => !x.1) && (backToKw p3 (keywordEach [] X.env)).all (fun x => x.1.isSome) && decide ([e].length + ([] : List Keyword).length + (if ([] : List Keyword).isEmpty then 0 else 1) < 30)) = true := by rfl)
    (hline : (p2.endLine == p3.line) = true := by rfl) (hs : starEach [e] X.env = (false, eval e X.env) :: starEach [] X.env := by rfl) (hpl : (backTo p3 (starEach [] X.env)).any (·.1) = false := by rfl)
    (hsw : swapsWith (.Call (.Attribute (.Name x p1) "append" p2) [e] [] p3) none pos.line X.env = pure false := by rfl) :
    SD X K Ex (.Expr (.Call (.Attribute (.Name x p1) "append" p2) [e] [] p3) pos) (gAppM i y) := by
  subst hK
  refine ⟨ps_weak (ps_expr (pe_bm PySem.F.plainAttrs_list PySem.F.slot_list_append PySem.F.type_list_append mt_append (pe_var hN hv hd hcd) (ma_cons h ma_nil hs).pa hbase hfew hline hs hpl) hsw) fun E σ H ⟨Hb, B, O, δ, F, S, q, L⟩ => ?_⟩
  obtain ⟨l0, r, vs0, e0, q, h1, h2, h3, h4, h5, h6⟩ := onOwn_at q (S.at_ i)
  refine ⟨_, h1, .inl ⟨rfl, _, .inl (.inl h4)⟩, Hb, B, O, δ, S, h.mono δ (fun d δ' k ws H1 S1 s1 as => ?_) q⟩
  cases as with
  | cons a1 r' =>
    cases r'
    obtain ⟨l, r2, vs, e1, ⟨k0, k⟩, g1, g2, g3, g4, g5, g6⟩ := onOwn_at k (S1.at_ i)
    rw [h1] at g1
    obtain rfl : r = r2 := by injection g1 with g1; injection g1 with g1; injection g1
    refine ⟨r, vs, _, rfl, rfl, g4, ?_, L.nx _ _ _ _ (own_upd S1 e1 h1 g2 g3 ?_ (g6.append (.cons a1 .nil))) k⟩
    · rw [g6.len]; exact Nat.lt_trans k0 LIM_size
    · rw [List.length_append, List.length_singleton]; omega
end
/-! ### a call that is given a new list, which it may change -/
abbrev DFs := List Sl → (List D → List D → List D → Prop) → Prop
def tFs (K : PySem.W.Frag) (x : DFs) : TA := fun σ H Q => ∃ Hb B O δ, Sta K Hb B O H σ δ ∧ x δ fun as l bs => ∀ us q cs ws H', Same H H' → H q = none → H' q = some (.lst cs) → l.length ≤ LIM → AtAll K (hid (q :: O) H') us as → AtAll K (hid (q :: O) H') cs l → AtAll K (hid (q :: O) H') ws bs → Q (us ++ .ref q :: ws) H'
structure FA (X : Cx) (K : PySem.W.Frag) (es : List Expr) (x : DFs) : Prop where
  mono : ∀ δ {Q Q' : List D → List D → List D → Prop}, (∀ a l b, Q a l b → Q' a l b) → x δ Q → x δ Q'
  pa : PA X es (tFs K x)
section
variable {X : Cx} {K : PySem.W.Frag} {Ex : XK} {e a b c : Expr} {pos : Pos} {es : List Expr}
def fHere (y : DAs) (xs : List DX) : DFs := fun δ Q => y δ fun l => dArgs xs δ fun bs => Q [] l bs
def fCons (x : DX) (xs : DFs) : DFs := fun δ Q => x δ fun a => xs δ fun as l bs => Q (a :: as) l bs
theorem fa_here {y : DAs} {xs : List DX} (h : FD X K e y) (r : AD X K es xs) (hs : starEach (e :: es) X.env = (false, eval e X.env) :: starEach es X.env := by rfl) : FA X K (e :: es) (fHere y xs) := by
  refine ⟨fun δ Q Q' i q => h.mono δ (fun l => r.mono δ fun bs => i _ _ _) q, pa_weak (pa_cons h.pe r.pa hs) fun σ H Q ⟨Hb, B, O, δ, S, q⟩ => ⟨Hb, B, O, δ, S, h.mono δ (fun l k p cs H1 s1 n hp hl ac => ?_) q⟩⟩
  have S1 := S.more n s1 (by rw [hp]; exact fun z => by cases z)
  exact ⟨Hb, B, p :: O, δ, S1, r.mono δ (fun bs k ws H2 s2 as => k [] p cs ws H2 (s1.trans s2) n (s2.at hp) hl .nil (ac.mono (hid_same s2)) as) k⟩
theorem fa_cons {x : DX} {xs : DFs} (h : PD X K e x) (r : FA X K es xs) (hs : starEach (e :: es) X.env = (false, eval e X.env) :: starEach es X.env := by rfl) : FA X K (e :: es) (fCons x xs) := by
  refine ⟨fun δ Q Q' i q => h.mono δ (fun a => r.mono δ fun as l bs => i _ _ _) q, pa_weak (pa_cons h.pe r.pa hs) fun σ H Q ⟨Hb, B, O, δ, S, q⟩ => ⟨Hb, B, O, δ, S, h.mono δ (fun d k v H1 s1 a => ?_) q⟩⟩
  exact ⟨Hb, B, O, δ, S.grow s1, r.mono δ (fun as l bs k us q cs ws H2 s2 n hq hl au ac aw => k (v :: us) q cs ws H2 (s1.trans s2) (s1.free n) hq hl (.cons (a.mono (hid_new n s2)) au) ac aw) k⟩
def dCallF (R : Rm) (x : DFs) : DX := fun δ Q => x δ fun as l bs => R as l bs fun d _ => Q d
theorem d_callF {k : Nat} {x : Str} {ps : List Str} {R : Rm} {xs : DFs} {p : Pos} (C : Cal X.prog X.w X.K X.mg X.base CX0 k x ps (spM K R)) (hm : MonoRm R) (hr : Ro k X.A) (ha : FA X K (e :: es) xs) (hg : Gl X x := by rfl) (hdb : (x == ("__debug__" : Str)) = false := by decide)
    (he : starEach (e :: es) X.env = (false, eval e X.env) :: starEach es X.env := by rfl) (hpl : (backTo pos (starEach es X.env)).any (·.1) = false := by rfl) : PD X K (.Call (.Name x p) (e :: es) [] pos) (dCallF R xs) := by
  obtain ⟨f, fd, h1, h2, h3, h4⟩ := C.ex
  refine ⟨fun δ Q Q' i q => ha.mono δ (fun as l bs => hm as l bs fun d _ => i d) q, pe_weak (peg_call h4 hr hg h1 h2 h3 .nil pass0 ha.pa hdb he hpl) fun σ H Q ⟨Hb, B, O, δ, S, q⟩ => ⟨Hb, B, O, δ, S, ha.mono δ (fun as l bs g us q cs ws H1 s1 n hq hl au ac aw => ?_) q⟩⟩
  show spM K R ((us ++ .ref q :: ws) ++ []) H1 Q E0
  rw [List.append_nil]
  refine ⟨O, us, q, ws, cs, as, l, bs, fun b hb => live_same (S.live b hb) s1, s1.t S.tab, fun z => S.live q z n, rfl, hq, hl, ac, au, aw, hm as l bs (fun d l' k v H' cs' sm _ _ _ a2 => ?_) g⟩
  refine k v H' ⟨⟨fun b x h nt => sm.k.k _ _ ?_ nt, fun b h => sm.k.l _ ?_⟩, fun _ => sm.t⟩ (a2.mono (hid_sub fun _ z => List.mem_cons_of_mem _ z))
  · rw [hid_of (by simpa using fun z : b = q => by rw [z, n] at h; cases h)]
    exact s1.k.k _ _ h nt
  · rw [hid_of (by simpa using fun z : b = q => by rw [z, n] at h; exact h rfl)]
    exact s1.k.l _ h
end
/-! ### comprehensions whose items change own lists -/
def keepS : Sl → Sl
  | .d x => .d x
  | _ => .no
def restD (δ : List Sl) : List Nat → List Sl → List Sl
  | [], δ2 => δ2
  | v :: vs, δ2 => (restD δ vs δ2).set v (keepS (sl δ v))
def lcRunM (t : DG) (tst : DT) (elt : DM) (vs : List Nat) (Q : List D → List Sl → Prop) : List D → List D → List Sl → Prop
  | [], acc, δ => Q acc δ
  | x :: xs, acc, δ => t x δ fun δ1 => tst δ1 fun b => if b = true then elt δ1 fun y δ2 => lcRunM t tst elt vs Q xs (acc ++ [y]) (wipeD δ2 vs) else lcRunM t tst elt vs Q xs acc (wipeD δ1 vs)
def mLc (src : DAs) (t : DG) (tst : DT) (elt : DM) (vs : List Nat) : DM := fun δ Q => src δ fun l => lcRunM t tst elt vs (fun acc δ2 => Q (.lst acc) (restD δ vs δ2)) l [] (wipeD δ vs)
section
variable {K : PySem.W.Frag}
theorem lcRunM_mono {t : DG} {tst : DT} {elt : DM} {vs : List Nat} {Q Q' : List D → List Sl → Prop} (mg : ∀ d δ {Q Q' : List Sl → Prop}, (∀ δ, Q δ → Q' δ) → t d δ Q → t d δ Q') (mt : MonoT tst) (me : MonoM elt) (i : ∀ l δ, Q l δ → Q' l δ) :
    ∀ l acc δ, lcRunM t tst elt vs Q l acc δ → lcRunM t tst elt vs Q' l acc δ
  | [], acc, δ, h => i _ _ h
  | x :: xs, acc, δ, h => mg x δ (fun δ1 => mt δ1 fun b => ite_mono b (me δ1 fun y δ2 => lcRunM_mono mg mt me i xs _ _) (lcRunM_mono mg mt me i xs acc _)) h
theorem Sta.pinD {Hb H : Hp} {B O : List Addr} {σ : L2.St} {δ : List Sl} {D : Addr} {u : HO} (S : Sta K Hb B (D :: O) H σ δ) (n : D ∉ O) (hD : H D = some u) (np : ∀ i, isOwn (sl δ i) = true → σ[i]? ≠ some (some (.ref D))) : Sta K (hid (nbs Hb O) H) (D :: B) (D :: O) H σ δ := by
  have q' : ∀ {i : Nat} {q : Addr}, isOwn (sl δ i) = true → σ[i]? = some (some (.ref q)) → q ∈ D :: O → q ∈ O := fun {i q} ho e m => by
    rcases List.mem_cons.mp m with rfl | m
    · exact absurd e (np i ho)
    · exact m
  refine ⟨S.len, hid_out, S.tab, fun b h => ?_, fun b h => ?_, S.live, fun q h => ?_, fun i => ?_, S.inj⟩
  · rcases List.mem_cons.mp h with rfl | h
    · exact List.mem_cons_self
    · exact S.sub b h
  · rcases List.mem_cons.mp h with rfl | h
    · rw [hid_of fun z => n (nbs_in z).1, hD]; exact fun z => by cases z
    · rw [hid_of fun z => S.liveB b h (nbs_in z).2]
      exact S.live b (S.sub b h)
  · rcases List.mem_cons.mp h with rfl | h
    · exact .inl List.mem_cons_self
    · exact (S.fresh q (List.mem_cons_of_mem _ h)).imp (List.mem_cons_of_mem _) fun k => hid_in (in_nbs h k)
  · have a := S.at_ i
    cases e : sl δ i with
    | no => trivial
    | d x => rw [e] at a; exact a
    | own l => rw [e] at a; obtain ⟨q, vs, h1, h2, h3, h4⟩ := a; exact ⟨q, vs, h1, h2, hid_in (in_nbs (q' (by rw [e]; rfl) h1 h2) h3), h4⟩
    | ownA q l => rw [e] at a; obtain ⟨vs, h1, h2, h3, h4⟩ := a; exact ⟨vs, h1, h2, hid_in (in_nbs (q' (by rw [e]; rfl) h1 h2) h3), h4⟩
    | owk ks l => rw [e] at a; obtain ⟨q, vs, h1, h2, h3, h4⟩ := a; exact ⟨q, vs, h1, h2, hid_in (in_nbs (q' (by rw [e]; rfl) h1 h2) h3), h4⟩
theorem Sta.unpin {Hb Hc H : Hp} {B O : List Addr} {σ : L2.St} {δ : List Sl} {D : Addr} (S : Sta K Hc (D :: B) (D :: O) H σ δ) (s : Keep Hb Hc) (hb : Hb D = none) (lb : ∀ b ∈ B, Hb b ≠ none) : Sta K Hb B (D :: O) H σ δ := by
  refine ⟨S.len, s.trans S.kp, S.tab, fun b h => S.sub b (List.mem_cons_of_mem _ h), lb, S.live, fun q h => ?_, fun i => ?_, S.inj⟩
  · rcases S.fresh q h with h | h
    · rcases List.mem_cons.mp h with rfl | h
      · exact .inr hb
      · exact .inl h
    · exact .inr (s.free h)
  · have a := S.at_ i
    cases e : sl δ i with
    | no => trivial
    | d x => rw [e] at a; exact a
    | own l => rw [e] at a; obtain ⟨q, vs, h1, h2, h3, h4⟩ := a; exact ⟨q, vs, h1, h2, s.free h3, h4⟩
    | ownA q l => rw [e] at a; obtain ⟨vs, h1, h2, h3, h4⟩ := a; exact ⟨vs, h1, h2, s.free h3, h4⟩
    | owk ks l => rw [e] at a; obtain ⟨q, vs, h1, h2, h3, h4⟩ := a; exact ⟨q, vs, h1, h2, s.free h3, h4⟩
theorem Sta.drop {Hb H : Hp} {B O : List Addr} {σ : L2.St} {δ : List Sl} {D : Addr} (S : Sta K Hb B (D :: O) H σ δ) (hb : Hb D = none) (np : ∀ i, isOwn (sl δ i) = true → σ[i]? ≠ some (some (.ref D))) : Sta K Hb B O H σ δ := by
  have q' : ∀ {i : Nat} {q : Addr}, isOwn (sl δ i) = true → σ[i]? = some (some (.ref q)) → q ∈ D :: O → q ∈ O := fun {i q} ho e m => by
    rcases List.mem_cons.mp m with rfl | m
    · exact absurd e (np i ho)
    · exact m
  have hm : ∀ {H : Hp}, Keep (hid (D :: O) H) (hid O H) := hid_sub fun a h => List.mem_cons_of_mem _ h
  refine ⟨S.len, S.kp, S.tab, fun b h => ?_, S.liveB, fun b h => S.live b (List.mem_cons_of_mem _ h), fun q h => S.fresh q (List.mem_cons_of_mem _ h), fun i => ?_, S.inj⟩
  · rcases List.mem_cons.mp (S.sub b h) with rfl | k
    · exact absurd hb (S.liveB _ h)
    · exact k
  · have a := S.at_ i
    cases e : sl δ i with
    | no => trivial
    | d x => rw [e] at a; obtain ⟨v, h1, h2⟩ := a; exact ⟨v, h1, h2.mono hm⟩
    | own l => rw [e] at a; obtain ⟨q, vs, h1, h2, h3, h4, h5, h6⟩ := a; exact ⟨q, vs, h1, q' (by rw [e]; rfl) h1 h2, h3, h4, h5, h6.mono hm⟩
    | ownA q l => rw [e] at a; obtain ⟨vs, h1, h2, h3, h4, h5, h6⟩ := a; exact ⟨vs, h1, q' (by rw [e]; rfl) h1 h2, h3, h4, h5, h6.mono hm⟩
    | owk ks l => rw [e] at a; obtain ⟨q, vs, h1, h2, h3, h4, h5, h6, h7⟩ := a; exact ⟨q, vs, h1, q' (by rw [e]; rfl) h1 h2, h3, h4, h5, h6, h7.mono hm⟩
theorem Sta.updD {Hb H : Hp} {B O : List Addr} {σ : L2.St} {δ : List Sl} {D : Addr} {x : HO} (S : Sta K Hb B (D :: O) H σ δ) (hb : Hb D = none) (ne : NE H D) (np : ∀ i, isOwn (sl δ i) = true → σ[i]? ≠ some (some (.ref D))) : Sta K Hb B (D :: O) (upd H D x) σ δ := by
  have eh : hid (D :: O) (upd H D x) = hid (D :: O) H := hid_upd List.mem_cons_self
  refine ⟨S.len, keep_upd S.kp hb, tabs_upd ne S.tab, S.sub, S.liveB, fun b h => ?_, S.fresh, fun i => ?_, S.inj⟩
  · by_cases z : b = D
    · rw [z, upd_same]; exact fun z => by cases z
    · rw [upd_ne z]; exact S.live b h
  · have a := S.at_ i
    cases e : sl δ i with
    | no => trivial
    | d x => rw [e] at a; obtain ⟨v, h1, h2⟩ := a; exact ⟨v, h1, by rw [eh]; exact h2⟩
    | own l => rw [e] at a; obtain ⟨q, vs, h1, h2, h3, h4, h5, h6⟩ := a; exact ⟨q, vs, h1, h2, h3, by rw [upd_ne fun z => np i (by rw [e]; rfl) (by rw [h1, z])]; exact h4, h5, by rw [eh]; exact h6⟩
    | ownA q l => rw [e] at a; obtain ⟨vs, h1, h2, h3, h4, h5, h6⟩ := a; exact ⟨vs, h1, h2, h3, by rw [upd_ne fun z => np i (by rw [e]; rfl) (by rw [h1, z])]; exact h4, h5, by rw [eh]; exact h6⟩
    | owk ks l => rw [e] at a; obtain ⟨q, vs, h1, h2, h3, h4, h5, h6, h7⟩ := a; exact ⟨q, vs, h1, h2, h3, by rw [upd_ne fun z => np i (by rw [e]; rfl) (by rw [h1, z])]; exact h4, h5, h6, by rw [eh]; exact h7⟩
theorem wipe_get (σ : L2.St) (i : Nat) : ∀ vs : List Nat, (wipe σ vs)[i]? = if i ∈ vs then (if i < σ.length then some none else none) else σ[i]?
  | [] => by rw [if_neg (by simp)]; rfl
  | v :: vs => by
    have ln : ∀ vs : List Nat, (wipe σ vs).length = σ.length := fun vs => by
      induction vs with
      | nil => rfl
      | cons v vs ih => unfold wipe; rw [List.length_set, ih]
    have ih := wipe_get σ i vs
    unfold wipe
    rw [set_at]
    by_cases h : v = i
    · subst h
      rw [if_pos rfl, if_pos List.mem_cons_self, ln]
    · rw [if_neg h, ih]
      by_cases m : i ∈ vs
      · rw [if_pos m, if_pos (List.mem_cons_of_mem _ m)]
      · rw [if_neg m, if_neg fun z => by
          rcases List.mem_cons.mp z with z | z
          · exact h z.symm
          · exact m z]
theorem rest_len (δ : List Sl) : ∀ (vs : List Nat) (δ2 : List Sl), (restD δ vs δ2).length = δ2.length
  | [], δ2 => rfl
  | v :: vs, δ2 => by unfold restD; rw [List.length_set, rest_len δ vs δ2]
theorem rest_get (δ : List Sl) (i : Nat) : ∀ (vs : List Nat) (δ2 : List Sl), sl (restD δ vs δ2) i = if i ∈ vs ∧ i < δ2.length then keepS (sl δ i) else sl δ2 i
  | [], δ2 => by rw [if_neg (by simp)]; rfl
  | v :: vs, δ2 => by
    unfold restD
    by_cases h : v = i
    · subst h
      by_cases l : v < δ2.length
      · rw [sl_set_same _ _ _ (by rw [rest_len]; exact l), if_pos ⟨List.mem_cons_self, l⟩]
      · rw [if_neg fun z => l z.2, sl_none _ _ (by rw [List.length_set, rest_len]; omega), sl_none _ _ (by omega)]
    · rw [sl_set_ne _ _ _ _ h, rest_get δ i vs δ2]
      by_cases m : i ∈ vs ∧ i < δ2.length
      · rw [if_pos m, if_pos ⟨List.mem_cons_of_mem _ m.1, m.2⟩]
      · rw [if_neg m, if_neg fun z => by
          rcases List.mem_cons.mp z.1 with z1 | z1
          · exact h z1.symm
          · exact m ⟨z1, z.2⟩]
theorem Sta.unwipe {Hb H H2 : Hp} {B O : List Addr} {σ : L2.St} {δ δ2 : List Sl} {vs : List Nat} (S2 : Sta K Hb B O H2 (wipe σ vs) δ2) (S : Sta K Hb B O H σ δ) (s : Keep (hid O H) (hid O H2)) : Sta K Hb B O H2 σ (restD δ vs δ2) := by
  have ln : σ.length = δ2.length := by
    have := S2.len
    have e : ∀ vs : List Nat, (wipe σ vs).length = σ.length := fun vs => by
      induction vs with
      | nil => rfl
      | cons v vs ih => unfold wipe; rw [List.length_set, ih]
    rw [e] at this; exact this
  have nk : ∀ x, isOwn (keepS x) = false := fun x => by cases x <;> rfl
  have out : ∀ i, isOwn (sl (restD δ vs δ2) i) = true → isOwn (sl δ2 i) = true ∧ (wipe σ vs)[i]? = σ[i]? := fun i h => by
    rw [rest_get] at h
    by_cases m : i ∈ vs ∧ i < δ2.length
    · rw [if_pos m, nk] at h; cases h
    · rw [if_neg m] at h
      refine ⟨h, ?_⟩
      have l : i < δ2.length := sl_len fun z => by rw [z] at h; cases h
      rw [wipe_get, if_neg fun z => m ⟨z, l⟩]
  refine ⟨by rw [rest_len]; exact ln, S2.kp, S2.tab, S2.sub, S2.liveB, S2.live, S2.fresh, fun i => ?_, fun i j q hi hj ei ej => ?_⟩
  · rw [rest_get]
    by_cases m : i ∈ vs ∧ i < δ2.length
    · rw [if_pos m]
      have a := S.at_ i
      cases e : sl δ i with
      | d x => rw [e] at a; obtain ⟨v, h1, h2⟩ := a; exact ⟨v, h1, h2.mono s⟩
      | no | own _ | ownA _ _ | owk _ _ => trivial
    · rw [if_neg m]
      by_cases l : i < δ2.length
      · have a := S2.at_ i
        rw [wipe_get, if_neg fun z => m ⟨z, l⟩] at a
        exact a
      · rw [sl_none _ _ (by omega)]; trivial
  · obtain ⟨o1, w1⟩ := out i hi
    obtain ⟨o2, w2⟩ := out j hj
    exact S2.inj i j q o1 o2 (by rw [w1]; exact ei) (by rw [w2]; exact ej)
theorem mLc_of {src : DAs} {t : DG} {tst : DT} {elt : DM} {vs js : List Nat} (ms : MonoA src) (mg : ∀ d δ {Q Q' : List Sl → Prop}, (∀ δ, Q δ → Q' δ) → t d δ Q → t d δ Q') (mt : MonoT tst) (me : MonoM elt) (hj : ∀ j ∈ js, j ∈ vs) {σ : L2.St} {H : Hp} {Q : VK}
    (h : tM K (mLc src t tst elt vs) σ H Q) : tLc (iP K src) (tG K js t) (tT K tst) (tM K elt) vs σ H Q := by
  obtain ⟨Hb, B, O, δ, S, q⟩ := h
  refine ⟨Hb, B, O, δ, S, ms δ (fun l q J H1 s1 hl wk Dn n => ?_) q⟩
  have S0 := S.grow s1
  have nO : Dn ∉ O := fun z => S0.live Dn z n
  have hbD : Hb Dn = none := S0.same.free n
  let Qf : List D → List Sl → Prop := fun acc δ2 => ∀ v H', Sta K Hb B O H' σ (restD δ vs δ2) → Keep (hid O H) (hid O H') → At K (hid O H') v (.lst acc) → Q v H'
  let W : Nat → Nat → Hp → Prop := fun i m H2 => m = l.length - i ∧ i ≤ l.length ∧ ∃ acc ws δ2, Sta K Hb B (Dn :: O) H2 (wipe σ vs) δ2 ∧ (∀ i, isOwn (sl δ2 i) = true → (wipe σ vs)[i]? ≠ some (some (.ref Dn))) ∧ Keep (hid (Dn :: O) H1) (hid (Dn :: O) H2) ∧ H2 Dn = some (.lst ws) ∧ acc.length ≤ i ∧ AtAll K (hid (Dn :: O) H2) ws acc ∧ lcRunM t tst elt vs Qf (l.drop i) acc δ2
  have npW : ∀ i, isOwn (sl (wipeD δ vs) i) = true → (wipe σ vs)[i]? ≠ some (some (.ref Dn)) := fun i ho z => by
    have a := (S0.wiped vs).at_ i
    cases e : sl (wipeD δ vs) i with
    | no => rw [e] at ho; cases ho
    | d x => rw [e] at ho; cases ho
    | own l => rw [e] at a; obtain ⟨w, vs, h1, h2, h3, h4, _⟩ := a; rw [z] at h1; cases h1; rw [n] at h4; cases h4
    | ownA w l => rw [e] at a; obtain ⟨vs, h1, h2, h3, h4, _⟩ := a; rw [z] at h1; cases h1; rw [n] at h4; cases h4
    | owk ks l => rw [e] at a; obtain ⟨w, vs, h1, h2, h3, h4, _⟩ := a; rw [z] at h1; cases h1; rw [n] at h4; cases h4
  refine ⟨W, ⟨l.length, by simp, Nat.zero_le _, [], [], wipeD δ vs, (S0.wiped vs).more n (same_new n) (by rw [upd_same]; exact fun z => by cases z), npW, hid_same (same_new n), upd_same, Nat.le_refl _, .nil, q⟩, ?_⟩
  rintro i m H2 ⟨rfl, hi, acc, ws, δ2, S2, np, sm, hd, ha, at2, q⟩
  have sO : Keep (hid O H1) (hid (Dn :: O) H2) := (hid_keep (.refl H1) fun a h z => by
    rcases List.mem_cons.mp z with rfl | z
    · exact absurd n h
    · exact z).trans sm
  by_cases lt : i < l.length
  · right
    obtain ⟨d, ed⟩ : ∃ d, l[i]? = some d := ⟨l[i], List.getElem?_eq_getElem lt⟩
    have dr : l.drop i = d :: l.drop (i + 1) := by
      rw [List.drop_eq_getElem_cons lt]
      rw [List.getElem?_eq_getElem lt] at ed
      rw [Option.some.inj ed]
    obtain ⟨go, yl⟩ := (wk i H2 (sO.trans hid_out)).1 d ed
    refine ⟨go, W (i + 1) (l.length - (i + 1)), fun H' w => ⟨_, by omega, w⟩, fun x H3 y => ?_⟩
    obtain ⟨s3, ax⟩ := yl x H3 y
    have ax := ax (Dn :: O) S2.live sO
    have S3 := S2.grow s3
    have hd3 := s3.at hd
    have P3 := S3.pinD nO hd3 np
    have sb : Keep Hb (hid (nbs Hb O) H3) := keep_nbs S3.kp
    have hcD : hid (nbs Hb O) H3 Dn = some (.lst ws) := by rw [hid_of fun z => nO (nbs_in z).1]; exact hd3
    have npp : ∀ {H4 : Hp} {σ1 : L2.St} {δ3 : List Sl}, Sta K (hid (nbs Hb O) H3) (Dn :: B) (Dn :: O) H4 σ1 δ3 → ∀ i, isOwn (sl δ3 i) = true → σ1[i]? ≠ some (some (.ref Dn)) := fun {H4 σ1 δ3} S4 i ho z => by
      have a := S4.at_ i
      cases e : sl δ3 i with
      | no => rw [e] at ho; cases ho
      | d x => rw [e] at ho; cases ho
      | own l => rw [e] at a; obtain ⟨w, vs, h1, h2, h3, _⟩ := a; rw [z] at h1; cases h1; rw [hcD] at h3; cases h3
      | ownA w l => rw [e] at a; obtain ⟨vs, h1, h2, h3, _⟩ := a; rw [z] at h1; cases h1; rw [hcD] at h3; cases h3
      | owk ks l => rw [e] at a; obtain ⟨w, vs, h1, h2, h3, _⟩ := a; rw [z] at h1; cases h1; rw [hcD] at h3; cases h3
    rw [dr] at q
    refine ⟨_, Dn :: B, Dn :: O, δ2, d, P3, ax, mg d _ (fun δ1 q σ1 S1 hw => ⟨?_, ?_⟩) q⟩
    · rw [hw vs hj, wipe_wipe σ vs vs fun _ z => z]
    · have ew : wipe σ1 vs = wipe σ vs := by rw [hw vs hj, wipe_wipe σ vs vs fun _ z => z]
      refine ⟨_, Dn :: B, Dn :: O, δ1, S1, mt δ1 (fun b q H4 s4 => ite_mono b (fun q => ?_) (fun q => ?_) q) q⟩
      · have S4 := S1.grow s4
        refine ⟨_, Dn :: B, Dn :: O, δ1, S4, me δ1 (fun y δ3 q v H5 S5 s5 ay => ?_) q⟩
        have hd5 := S5.same.at hcD
        have s35 : Keep (hid (Dn :: O) H2) (hid (Dn :: O) H5) := (hid_same s3).trans ((hid_same s4).trans s5)
        have S6 := S5.wiped vs
        rw [ew] at S6
        have np6 := npp S6
        have S7 := S6.unpin sb hbD S.liveB
        have eh : ∀ x, hid (Dn :: O) (upd H5 Dn x) = hid (Dn :: O) H5 := fun x => hid_upd List.mem_cons_self
        refine ⟨ws, hd5, ?_, rfl, lt, acc ++ [y], ws ++ [v], wipeD δ3 vs, S7.updD hbD (.lst hd5) np6, np6, by rw [eh]; exact sm.trans s35, upd_same, ?_, ?_, q⟩
        · rw [at2.len]; exact Nat.lt_of_le_of_lt (Nat.le_trans ha (Nat.le_trans hi hl)) LIM_size
        · rw [List.length_append, List.length_singleton]; omega
        · rw [eh]; exact (at2.mono s35).append (.cons ay .nil)
      · have s34 := s3.trans s4
        have S6 := (S1.grow s4).wiped vs
        rw [ew] at S6
        exact ⟨rfl, lt, acc, ws, wipeD δ1 vs, S6.unpin sb hbD S.liveB, npp S6, sm.trans (hid_same s34), s34.at hd, by omega, at2.mono (hid_same s34), q⟩
  · left
    have e : i = l.length := by omega
    subst e
    rw [List.drop_length] at q
    have sO2 : Keep (hid O H1) (hid O H2) := sO.trans (hid_sub fun _ z => List.mem_cons_of_mem _ z)
    refine ⟨(wk _ H2 (sO.trans hid_out)).2 (Nat.le_refl _), q (.ref Dn) H2 ((S2.drop hbD np).unwipe S0 sO2) ((hid_same s1).trans sO2) (.lst ?_ (Nat.le_trans ha hl) (at2.mono (hid_sub fun _ z => List.mem_cons_of_mem _ z)))⟩
    rw [hid_of nO]; exact hd
end
section
variable {X : Cx} {K : PySem.W.Frag} {elt tg iter : Expr} {ifs : List Expr} {scope : Scope} {own : List (Str × Nat)} {spos pos : Pos}
theorem m_lc {src : DAs} {t : DG} {tst : DT} {el : DM} {js : List Nat} (hN : X.N.Nodup) (hi : IP X K tg iter src) (ok : BlkOk X.N X.env.scope scope own)
    (hg : ∀ (s : Shared) (H : Hp) (C : Addr) (cl : List (Str × Addr)) (fp : List Addr), GD (X.blk s H scope (compEnvC scope cl C X.env) fp) K tg js t)
    (ht : ∀ (s : Shared) (H : Hp) (C : Addr) (cl : List (Str × Addr)) (fp : List Addr), TsD (X.blk s H scope (compEnvC scope cl C X.env) fp) K ifs tst)
    (he : ∀ (s : Shared) (H : Hp) (C : Addr) (cl : List (Str × Addr)) (fp : List Addr), MD (X.blk s H scope (compEnvC scope cl C X.env) fp) K elt el)
    (hj : ∀ j ∈ js, j ∈ own.map (·.2) := by decide) (hc : X.calm = true := by rfl) (hs : ∀ x, foldedSetIterable iter X.env x = pure x := by intro _; rfl) :
    MD X K (.ListComp elt [⟨tg, iter, ifs, 0⟩] scope pos) (mLc src t tst el (own.map (·.2))) := by
  have m1 := (hg {} (fun _ => none) 0 [] []).mono
  have m2 := (ht {} (fun _ => none) 0 [] []).mono
  have m3 := (he {} (fun _ => none) 0 [] []).mono
  exact ⟨fun δ Q Q' i q => hi.mono δ (fun l => lcRunM_mono m1 m2 m3 (fun l δ => i _ _) l [] _) q, pe_weak (pe_lc hc hN hi.pi ok (fun s H C cl fp => (hg s H C cl fp).pg) (fun s H C cl fp => (ht s H C cl fp).pts) (fun s H C cl fp => (he s H C cl fp).pe) hs) fun σ H Q h => mLc_of hi.mono m1 m2 m3 hj h⟩
end
/-! ### defs that change a list of the caller's -/
def mstart (n : Nat) (q : Addr) (as l bs : List D) : List Sl := as.map Sl.d ++ .ownA q l :: (bs.map Sl.d ++ List.replicate (n - (as.length + bs.length + 1)) .no)
section
variable {K : PySem.W.Frag}
theorem slok_cons {Hb H : Hp} {O : List Addr} {o : Option V} {s : Sl} {σ : L2.St} {δ : List Sl} (h : SlOk K Hb O H (some o) s) (r : ∀ i, SlOk K Hb O H (σ[i]?) (sl δ i)) : ∀ i, SlOk K Hb O H ((o :: σ)[i]?) (sl (s :: δ) i)
  | 0 => h
  | i + 1 => r i
theorem slok_d {Hb H : Hp} {O : List Addr} {σ : L2.St} {δ : List Sl} (r : ∀ i, SlOk K Hb O H (σ[i]?) (sl δ i)) : ∀ {us : List V} {as : List D}, AtAll K (hid O H) us as → ∀ i, SlOk K Hb O H ((us.map some ++ σ)[i]?) (sl (as.map Sl.d ++ δ) i)
  | [], _, h => by cases h; exact r
  | u :: us, _, h => by
    cases h with
    | cons a as => exact slok_cons ⟨u, rfl, a⟩ (slok_d r as)
theorem slok_no {Hb H : Hp} {O : List Addr} (σ : L2.St) : ∀ (n : Nat) i, SlOk K Hb O H (σ[i]?) (sl (List.replicate n .no) i) := fun n i => by
  have : ∀ (n i : Nat), sl (List.replicate n .no) i = .no := by
    intro n
    induction n with
    | zero => intro i; rfl
    | succ n ih => intro i; cases i with
      | zero => rfl
      | succ i => exact ih i
  rw [this]; trivial
theorem own_no : ∀ (n i : Nat), isOwn (sl (List.replicate n .no) i) = false
  | 0, i => rfl
  | n + 1, 0 => rfl
  | n + 1, i + 1 => own_no n i
theorem own_d {δ : List Sl} : ∀ (as : List D) (i : Nat), isOwn (sl (as.map Sl.d ++ δ) i) = true → as.length ≤ i ∧ isOwn (sl δ (i - as.length)) = true
  | [], i, h => ⟨Nat.zero_le _, h⟩
  | a :: as, 0, h => by cases h
  | a :: as, i + 1, h => by
    obtain ⟨h1, h2⟩ := own_d as i h
    exact ⟨Nat.succ_le_succ h1, by rw [List.length_cons, Nat.add_sub_add_right]; exact h2⟩
theorem own_m {n : Nat} {q : Addr} {as l bs : List D} {i : Nat} (h : isOwn (sl (mstart n q as l bs) i) = true) : i = as.length := by
  obtain ⟨h1, h2⟩ := own_d as i h
  cases e : i - as.length with
  | zero => omega
  | succ k =>
    rw [e] at h2
    obtain ⟨_, h3⟩ := own_d bs k h2
    rw [own_no] at h3; cases h3
theorem sta_startM {H : Hp} {B : List Addr} {N : List Str} {us ws : List V} {q : Addr} {cs : List V} {as l bs : List D} (lb : ∀ b ∈ B, H b ≠ none) (tb : Tabs H) (nq : q ∉ B) (hq : H q = some (.lst cs)) (hl : l.length ≤ LIM) (ac : AtAll K (hid (q :: B) H) cs l) (au : AtAll K (hid (q :: B) H) us as) (aw : AtAll K (hid (q :: B) H) ws bs) :
    Sta K (hid [q] H) B (q :: B) H (L2.start N (us ++ .ref q :: ws)) (mstart N.length q as l bs) := by
  have e1 := au.len
  have e2 := aw.len
  have hn : hid [q] H q = none := hid_in List.mem_cons_self
  refine ⟨?_, hid_out, tb, fun b h => List.mem_cons_of_mem _ h, fun b h => ?_, fun b h => ?_, fun p h => ?_, ?_, fun i j p hi hj _ _ => (own_m hi).trans (own_m hj).symm⟩
  · unfold L2.start mstart
    simp only [List.length_append, List.length_map, List.length_cons, List.length_replicate]
    omega
  · rw [hid_of (by simpa using fun z : b = q => nq (by rw [← z]; exact h))]; exact lb b h
  · rcases List.mem_cons.mp h with rfl | h
    · rw [hq]; exact fun z => by cases z
    · exact lb b h
  · rcases List.mem_cons.mp h with rfl | h
    · exact .inr hn
    · exact .inl h
  · unfold L2.start mstart
    rw [List.map_append, List.map_cons, List.append_assoc, List.cons_append]
    have hc : SlOk K (hid [q] H) (q :: B) H (some (some (.ref q))) (.ownA q l) := ⟨cs, rfl, List.mem_cons_self, hn, hq, hl, ac⟩
    exact slok_d (slok_cons hc (slok_d (slok_no _ _) aw)) au
def atA (q : Addr) (j : Nat) (δ : List Sl) (G : List D → Prop) : Prop := match sl δ j with
  | .ownA p l => p = q ∧ G l
  | _ => False
theorem atA_at {q : Addr} {j : Nat} {δ : List Sl} {G : List D → Prop} {Hb H : Hp} {O : List Addr} {o : Option (Option V)} (h : atA q j δ G) (a : SlOk K Hb O H o (sl δ j)) : ∃ l cs, G l ∧ H q = some (.lst cs) ∧ l.length ≤ LIM ∧ AtAll K (hid O H) cs l ∧ q ∈ O := by
  unfold atA at h
  cases e : sl δ j with
  | ownA p l => rw [e] at h a; obtain ⟨rfl, h⟩ := h; obtain ⟨cs, _, h2, _, h4, h5, h6⟩ := a; exact ⟨l, cs, h, h4, h5, h6, h2⟩
  | no => rw [e] at h; exact h.elim
  | d _ => rw [e] at h; exact h.elim
  | own _ => rw [e] at h; exact h.elim
  | owk _ _ => rw [e] at h; exact h.elim
def endM (q : Addr) (j : Nat) (Q : D → List D → Prop) : DE := ⟨fun δ => atA q j δ (Q .non), fun _ => False, fun _ => False, fun _ => False, fun _ => False, fun d δ => atA q j δ (Q d)⟩
variable {P : Program} {w : World} {mg : Str → Option Value} {base : Heap}
theorem cal_okM (j : Nat) {x : Str} {st : Stmt} {N ps : List Str} {k : Nat} {R : Rm} {g : DS} (Df : Df K mg x st ps) (S : FnScope N ps (defScope st)) (len : ∀ as l bs Q, R as l bs Q → as.length + bs.length + 1 = ps.length)
    (hb : ∀ (f : Addr) (cdv : Value) (A : Around) (outer : List Env) (s : Shared) (H : Hp) (E : XK), Ro k (A.deeper (PyProof.Rows.envOfC x (defScope st) s.heap.objs.size f cdv)) → SDs (cxOf CX0 P w K mg base N x (defScope st) f cdv A outer s H E).nox K (fun _ _ _ => False) (defBody st) g)
    (hR : ∀ q as l bs Q, R as l bs Q → g (endM q j Q) (mstart N.length q as l bs)) : Cal P w K mg base CX0 (k + 1) x ps (spM K R) := by
  obtain ⟨f, fd, gf, F, b⟩ := Df
  refine ⟨f, fd, gf, F.kp, b, Fun_okG F S (fun vs H Q E ⟨B, us, q, ws, cs, as, l, bs, lb, tb, nq, ev, hq, hl, ac, au, aw, r⟩ => ?_) fun cdv A outer s H vs Q E hr ⟨B, us, q, ws, cs, as, l, bs, lb, tb, nq, ev, hq, hl, ac, au, aw, r⟩ => ?_⟩
  · rw [ev, List.length_append, List.length_cons, au.len, aw.len, ← len _ _ _ _ r]; omega
  · subst ev
    have fin : ∀ {O σ H' δ v d}, Sta K (hid [q] H) B O H' σ δ → At K (hid O H') v d → atA q j δ (fun l' => ∀ v H' cs', Kept (hid [q] H) H' → H' q = some (.lst cs') → l'.length ≤ LIM → AtAll K (hid (q :: B) H') cs' l' → At K (hid (q :: B) H') v d → Q v H') → Q v H' := fun {O σ H' δ v d} S a h => by
      obtain ⟨l', cs', k, h4, h5, h6, h7⟩ := atA_at h (S.at_ j)
      have hs : Keep (hid O H') (hid (q :: B) H') := hid_sub fun p z => by
        rcases List.mem_cons.mp z with rfl | z
        · exact h7
        · exact S.sub p z
      exact k v H' cs' S.same h4 h5 (h6.mono hs) (a.mono hs)
    refine ⟨_, (hb f cdv A outer s H E hr).pss, hid [q] H, B, q :: B, _, endM q j _, sta_startM lb tb nq hq hl ac au aw, hR _ _ _ _ _ r, ?_⟩
    exact ⟨fun O σ H' δ S k => fin S .non k, fun _ _ _ _ _ k => k.elim, fun _ _ _ _ _ k => k.elim, fun _ _ _ _ _ k => k.elim, fun _ _ _ k => k.elim, fun O σ H' δ v d S a k => fin S a k⟩
end
end DL

namespace DL
variable [Tbs]
open PySem L2
/-! ## del own[first:] -/
theorem zip_take (items : List Value) (f : Nat) : ∀ (j : Nat), ((items.zipIdx j).filterMap fun (p : Value × Nat) => if (decide ((f : Int) ≤ (p.2 : Int)) && decide ((p.2 : Int) < ((j + items.length : Nat) : Int)) && (((p.2 : Int) - (f : Int)) % 1 == 0)) = true then none else some p.1) = items.take (f - j) := by
  induction items with
  | nil => intro j; simp
  | cons x items ih =>
    intro j
    rw [List.zipIdx_cons, List.filterMap_cons]
    have e : j + (x :: items).length = j + 1 + items.length := by rw [List.length_cons]; omega
    have ih := ih (j + 1)
    rw [e]
    by_cases h : f ≤ j
    · have c : (decide ((f : Int) ≤ (j : Int)) && decide ((j : Int) < ((j + 1 + items.length : Nat) : Int)) && (((j : Int) - (f : Int)) % 1 == 0)) = true := by
        rw [decide_eq_true (by omega), decide_eq_true (by omega), Int.emod_one]; rfl
      simp only [c, if_true]
      rw [ih, show f - (j + 1) = 0 by omega, show f - j = 0 by omega]; rfl
    · have c : (decide ((f : Int) ≤ (j : Int)) && decide ((j : Int) < ((j + 1 + items.length : Nat) : Int)) && (((j : Int) - (f : Int)) % 1 == 0)) = false := by
        rw [decide_eq_false (by omega)]; rfl
      simp only [c]
      rw [ih, show f - j = (f - (j + 1)) + 1 by omega, List.take_succ_cons]
      rfl
section
variable {prog : Program} {w : World} {A : Around} {E : Value → Shared → Prop} {s : Shared}
theorem delItem_tail {l sl : Addr} {its : List Value} {n f : Nat} {vl vu : Value} {Q : Unit → Shared → Prop} (e : s.heap.get? l = some { cls := .type "list", data := .seq its.toArray n }) (hs : s.heap.IsSliceOf sl vl vu .none) (pl : IsPart vl (some (f : Int))) (pu : IsPart vu none) (hf : f ≤ its.length)
    (hz : its.length ≤ sizeLine) (h : ∀ g : Array Value → Array Value, g its.toArray = (its.take f).toArray → Q () { s with heap := s.heap.update l (Obj.mapSeq g) }) : wpAny (model prog w) A (delItem (.ref l) (.ref sl)) Q E s := by
  have hl : s.TypeIs (.ref l) "list" := ⟨_, e, rfl⟩
  obtain ⟨os, hos, hcs, hds⟩ := id hs
  have hTs : s.TypeIs (.ref sl) "slice" := ⟨os, hos, hcs⟩
  refine wpAny_delItem_slot hl (by decide) F.slot_list_delitem (wpAny_call_entry F.slot_list_delitem hl F.entry_list_delitem ?_ (F.args_list_delitem_2 _ _))
  show wpAny _ _ (Builtin.List.listSubscript? (.ref sl) >>= _) _ _ s
  refine wpAny_bind ?_
  unfold Builtin.List.listSubscript?
  refine wpAny_bind (wpAny_specialOf hTs slice_no_index ?_)
  simp only [Option.isNone_none, if_true]
  refine wpAny_pure ?_
  show wpAny _ _ (typeOf (.ref sl) >>= _) _ _ s
  refine wpAny_bind (wpAny_typeOf hTs ?_)
  rw [if_neg (by decide)]
  rw [listSliceParts_eq]
  refine wpAny_bind (wpAny_bind (wpAny_field hos hds (x := .none) rfl (wpAny_bind (wpAny_listPart .none ?_))))
  rw [if_neg (by decide)]
  refine wpAny_bind (wpAny_field hos hds (x := vl) rfl (wpAny_bind (wpAny_listPart pl ?_)))
  refine wpAny_bind (wpAny_field hos hds (x := vu) rfl (wpAny_bind (wpAny_listPart pu (wpAny_pure ?_))))
  refine wpAny_bind (m := Builtin.List.listItems (.ref l)) ?_
  unfold Builtin.List.listItems
  refine wpAny_bind (wpAny_seqItems e rfl (wpAny_pure ?_))
  refine wpAny_bind (wpAny_of_eq (sliceIndices_raw (some (f : Int)) none none its.toArray.size (by simp)) ?_)
  have hb : sliceBounds (some (f : Int)) none none its.toArray.size = ((f : Int), (its.length : Int), 1) := by
    rw [List.size_toArray]
    unfold sliceBounds
    have c1 : ¬ ((f : Int) < 0) := by omega
    simp only [Option.getD_none, c1, if_false, show (1 : Int) > 0 by decide, if_true]
    rw [show max (0 : Int) (min (f : Int) (its.length : Int)) = (f : Int) by omega]
  rw [hb]
  refine wpAny_bind (wpAny_rule ?_)
  refine wpAny_bind (m := Builtin.List.listUpdate (.ref l) _) ?_
  refine wpAny_updateSeq e rfl ?_ (by rw [List.size_toArray]; exact hz) ?_
  · refine wpAny_bind (wpAny_letGo (wpAny_pure ⟨_, rfl, h _ ?_⟩))
    show (List.filterMap (fun (p : Value × Nat) => if (decide ((f : Int) ≤ (p.2 : Int)) && decide ((p.2 : Int) < (its.length : Int)) && (((p.2 : Int) - (f : Int)) % 1 == 0)) = true then none else some p.1) its.zipIdx).toArray = _
    have := zip_take its f 0
    rw [Nat.zero_add] at this
    rw [this, Nat.sub_zero]
  · show (List.filterMap (fun (p : Value × Nat) => if (decide ((f : Int) ≤ (p.2 : Int)) && decide ((p.2 : Int) < (its.length : Int)) && (((p.2 : Int) - (f : Int)) % 1 == 0)) = true then none else some p.1) its.zipIdx).toArray.size ≤ _
    have := zip_take its f 0
    rw [Nat.zero_add] at this
    rw [this, List.size_toArray, List.length_take]
    omega
end
section
variable {X : Cx} {K : PySem.W.Frag} {Ex : XK} {e a b c : Expr} {pos : Pos} {es : List Expr}
def tDelT (to : TE) (tl : TO) : TS := fun D σ H => to σ H fun x H1 => tl σ H1 fun l H2 => ∃ a xs f, x = .ref a ∧ l = some ((f : Nat) : Int) ∧ H2 a = some (.lst xs) ∧ f ≤ xs.length ∧ D.nx σ (upd H2 a (.lst (xs.take f)))
theorem ps_delT {o : Expr} {lo : Option Expr} {to : TE} {tl : TO} {tpos p2 : Pos} (ho : PE X o to) (hl : PO X lo tl) : PS X (.Delete [.Subscript o (.Slice lo none none p2) tpos] pos) (tDelT to tl) := by
  refine ⟨fun pins s σ H D I h => ?_⟩
  refine wpAny_Delete (wpAny_deleteEach_cons (wpAny_delete_Subscript (thn (ho.run pins s σ H _ I h) fun u s1 ⟨x, H1, I1, rx, q1⟩ => ?_)))
  refine wpAny_Slice (thn (hl.run pins s1 σ H1 _ I1 q1) fun vl s2 ⟨l, H2, I2, pl, q2⟩ => ?_)
  refine thn (po_none.run pins s2 σ H2 (fun i H3 => i = none ∧ H3 = H2) I2 ⟨rfl, rfl⟩) fun vu s3 ⟨w, H3, I3, pu, q3⟩ => ?_
  obtain ⟨rfl, rfl⟩ := q3
  rw [evalPart_none]
  refine wpAny_pure ?_
  have I4 : Inv X pins σ H3 { s3 with heap := s3.heap.push { cls := .type "slice", data := .fields #[vl, vu, .none] } } := I3.kept (t' := s3.toks) fun b ob q => Heap.get?_push_of_some _ q
  obtain ⟨a, xs, f, rfl, rfl, hH, hf, q2⟩ := q2
  cases (show u = Value.ref a from rx)
  obtain ⟨z, its, n, r, el, ob⟩ := I4.lstM hH
  refine delItem_tail ob (Heap.IsSliceOf.new ..) pl pu (by rw [← el]; exact hf) (by rw [← el]; exact z) fun g hg => ?_
  exact wpAny_deleteEach_nil ⟨σ, _, I4.lset (its' := its.take f) (t' := s3.toks) hH ob hg (r.take f) (Nat.le_trans (by rw [List.length_take]; omega) z), q2⟩
/-- del own[k:] -/
def gDelT (i : Nat) (u : DX) : DS := fun F δ => onOwn (fun l => u δ (asI fun k => (0 ≤ k ∧ k ≤ (l.length : Int)) ∧ F.nx (δ.set i (.own (l.take k.toNat))))) (sl δ i)
theorem s_delT (i : Nat) {x : Str} {lo : Expr} {u : DX} {p1 tpos p2 : Pos} (h : QD X K lo u) (hN : X.N[i]? = some x := by rfl) (hv : Vis X.env.scope x := by first | exact Or.inl rfl | exact Or.inr (Or.inl rfl) | exact Or.inr (Or.inr rfl)) (hd : (x == ("__debug__" : Str)) = false := by decide)
    (hcd : (x == ("__classdict__" : Str)) = false := by decide) : SD X K Ex (.Delete [.Subscript (.Name x p1) (.Slice (some lo) none none p2) tpos] pos) (gDelT i u) := by
  refine ⟨ps_weak (ps_delT (pe_var hN hv hd hcd) (po_some h.pe)) fun E σ H ⟨Hb, B, O, δ, F, S, q, L⟩ => ?_⟩
  obtain ⟨l, r, vs, e1, q, h1, h2, h3, h4, h5, h6⟩ := onOwn_at q (S.at_ i)
  refine ⟨_, h1, Hb, B, O, δ, S, h.mono δ (fun d k v H1 s1 a => ?_) q⟩
  obtain ⟨k', rfl, ⟨k1, k2⟩, k⟩ := asI_at k a
  refine ⟨k', rfl, r, vs, k'.toNat, rfl, by rw [Int.toNat_of_nonneg k1], s1.at h4, by rw [h6.len]; omega, L.nx _ _ _ _ (own_upd (S.grow s1) e1 h1 h2 h3 (Nat.le_trans (by rw [List.length_take]; omega) h5) ((h6.mono (hid_same s1)).take _)) k⟩
/-! ### == of deep data -/
def rEqN (K : PySem.W.Frag) (N : Nat) (g : Bool → Bool) : R2 := fun x y H Q => ∃ d e, Dp K H x d ∧ Dp K H y e ∧ d.canLay0 = true ∧ e.canLay0 = true ∧ d.depth ≤ N ∧ Q (.bl (g (PyData.eqv d e))) H
theorem op_eqN {N : Nat} (hu : X.A.units + N < cLine) : OpR X (compareOp .Eq) (rEqN X.K N id) := by
  intro pins s σ H x y v u Q I rx ry h
  obtain ⟨d, e, hd, he, sd, se, hn, q⟩ := h
  obtain ⟨as, r1⟩ := Dp.reads I d x v hd rx
  obtain ⟨bs, r2⟩ := Dp.reads I e y u he ry
  exact PySem.SeqAt.compareEq_reads r1 r2 sd se (by have := Nat.min_le_left d.depth e.depth; omega) ⟨.bl _, H, I, rfl, q⟩
theorem op_neN {N : Nat} (hu : X.A.units + N < cLine) : OpR X (compareOp .NotEq) (rEqN X.K N Bool.not) := by
  intro pins s σ H x y v u Q I rx ry h
  obtain ⟨d, e, hd, he, sd, se, hn, q⟩ := h
  obtain ⟨as, r1⟩ := Dp.reads I d x v hd rx
  obtain ⟨bs, r2⟩ := Dp.reads I e y u he ry
  exact PySem.SeqAt.compareNe_reads r1 r2 sd se (by have := Nat.min_le_left d.depth e.depth; omega) ⟨.bl _, H, I, rfl, q⟩
/-- the datum can be compared, at this depth -/
def okN (N : Nat) (d : D) : Prop := isDat d = true ∧ (toP d).canLay0 = true ∧ (toP d).depth ≤ N
def oEqN (N : Nat) (g : Bool → Bool) : D → D → (D → Prop) → Prop := fun a b Q => (okN N a ∧ okN N b) ∧ Q (.bl (g (eqD a b)))
theorem o_eqN {N : Nat} (hu : X.A.units + N < cLine) (hK : X.K = K := by rfl) : OpD X K (compareOp .Eq) (oEqN N id) := by
  subst hK
  refine ⟨fun a b Q Q' i q => ⟨q.1, i _ q.2⟩, _, op_eqN hu, fun O H x y a b Q l ax ay ⟨⟨k1, k2⟩, q⟩ => ?_⟩
  exact ⟨_, _, ax.plain.dp k1.1, ay.plain.dp k2.1, k1.2.1, k2.2.1, k1.2.2, q _ H (.refl H) (.bl _)⟩
theorem o_neN {N : Nat} (hu : X.A.units + N < cLine) (hK : X.K = K := by rfl) : OpD X K (compareOp .NotEq) (oEqN N Bool.not) := by
  subst hK
  refine ⟨fun a b Q Q' i q => ⟨q.1, i _ q.2⟩, _, op_neN hu, fun O H x y a b Q l ax ay ⟨⟨k1, k2⟩, q⟩ => ?_⟩
  exact ⟨_, _, ax.plain.dp k1.1, ay.plain.dp k2.1, k1.2.1, k2.2.1, k1.2.2, q _ H (.refl H) (.bl _)⟩
theorem eqN_refl {N : Nat} {d : D} (h : okN N d) : eqD d d = true := eqv_refl _ h.2.1
/-! ### dicts: d[k], written ones, sorted(d) -/
def lookD : List L2.Key → List D → L2.Key → Option D
  | k :: ks, d :: ds, j => if k = j then some d else lookD ks ds j
  | _, _, _ => none
theorem look_at {H : Hp} {j : L2.Key} : ∀ {ks : List L2.Key} {vs : List V} {ds : List D} {d : D}, AtAll K H vs ds → lookD ks ds j = some d → ∃ v, valV (ks.zip vs) j = some v ∧ At K H v d
  | [], vs, ds, d, _, h => by unfold lookD at h; cases h
  | k :: ks, vs, ds, d, a, h => by
    cases a with
    | nil => unfold lookD at h; cases h
    | @cons v vs x ds a r =>
      unfold lookD at h
      by_cases e : k = j
      · rw [if_pos e] at h
        cases h
        exact ⟨v, valV_pos (p := (k, v)) e, a⟩
      · rw [if_neg e] at h
        obtain ⟨u, h1, h2⟩ := look_at (j := j) r h
        refine ⟨u, ?_, h2⟩
        rw [List.zip_cons_cons]
        unfold valV at h1 ⊢
        rw [List.find?_cons]
        simp only [e, decide_false]
        exact h1
def gDix (d e : D) (Q : D → Prop) : Prop := match d with
  | .dic ks vs => onSome (keyD e) fun k => onSome (lookD ks vs k) Q
  | _ => False
theorem gDix_mono {Q Q' : D → Prop} (i : ∀ d, Q d → Q' d) (d e : D) (q : gDix d e Q) : gDix d e Q' := by
  unfold gDix at q ⊢
  split at q
  · exact onSome_mono (fun k => onSome_mono i) q
  · exact q
theorem d_dget {x y : DX} (ha : QD X K a x) (hb : QD X K b y) (hu : X.A.units + 64 < cLine) (hK : X.K = K := by rfl) (hs : NoSl b := by exact fun _ _ => rfl) : PD X K (.Subscript a b pos) (dOp gDix x y) := by
  subst hK
  refine ⟨fun δ Q Q' i q => ha.mono δ (fun d => hb.mono δ fun e => gDix_mono i d e) q, pe_weak (pe_dget (by omega) ha.pe hb.pe hs) fun σ H Q ⟨Hb, B, O, δ, S, q⟩ => ?_⟩
  refine bin_imp (r := fun x y H Q => ∃ a v, x = .ref a ∧ DGet H a y (some v) ∧ Q v H) ha hb S q fun u v H2 d e s l au av g => ?_
  unfold gDix at g
  split at g
  · obtain ⟨k, e1, g⟩ := of_onSome g
    obtain ⟨z, e2, g⟩ := of_onSome g
    obtain ⟨p, vs, rfl, h1, h2, h3, h4⟩ := au.dict
    obtain ⟨w, h5, h6⟩ := look_at h4 e2
    refine ⟨p, w, rfl, .inl ⟨_, k, h1, keyD_at e1 av, h5.symm⟩, g w H2 s h6⟩
  · exact g.elim
end
end DL

namespace DL
variable [Tbs]
open PySem L2
section
variable {X : Cx} {K : PySem.W.Frag} {Ex : XK} {e a b c v : Expr} {pos : Pos} {es : List Expr}
/-! ### dicts written out, with texts for keys -/
def dictTrs (K : PySem.W.Frag) : List Str → List DX → List (TE × TE)
  | k :: ks, x :: xs => (tC (.str k), tP K x) :: dictTrs K ks xs
  | _, _ => []
structure DD (X : Cx) (K : PySem.W.Frag) (pos : Pos) (keys : List (Option Expr)) (values : List Expr) (ks : List Str) (xs : List DX) : Prop where
  mono : MonoA (dArgs xs)
  pps : PPs X pos keys values (dictTrs K ks xs)
  run : ∀ {σ : L2.St} {H : Hp} {Hb : Hp} {B O : List Addr} {δ : List Sl} {G : List (V × V) → Hp → Prop}, Sta K Hb B O H σ δ → (dArgs xs δ fun ds => ∀ vs H', Same H H' → AtAll K (hid O H') vs ds → vs.length = ks.length → G ((ks.zip vs).map fun kv => (V.str kv.1, kv.2)) H') → tPairs (dictTrs K ks xs) σ H G
theorem dd_nil : DD X K pos [] [] [] [] := ⟨fun δ Q Q' i q => i _ q, pps_nil, fun S q => q [] _ (.refl _) .nil rfl⟩
theorem dd_cons {k : Str} {j : Nat} {p : Pos} {x : DX} {keys : List (Option Expr)} {values : List Expr} {ks : List Str} {xs : List DX} (h : PD X K v x) (r : DD X K pos keys values ks xs) : DD X K pos (some (.Constant (.str k) j p) :: keys) (v :: values) (k :: ks) (x :: xs) := by
  refine ⟨fun δ Q Q' i q => h.mono δ (fun a => r.mono δ fun as => i _) q, pps_cons pe_str h.pe r.pps, fun {σ H Hb B O δ G} S q => ?_⟩
  refine ⟨Hb, B, O, δ, S, h.mono δ (fun d g u H1 s1 a => ?_) q⟩
  refine r.run (S.grow s1) (r.mono δ (fun ds g vs H2 s2 as hl => ?_) g)
  exact g (u :: vs) H2 (s1.trans s2) (.cons (a.mono (hid_same s2)) as) (by rw [List.length_cons, List.length_cons, hl])
theorem merge_go : ∀ (more kvs : List (L2.Key × V)), (∀ k ∈ more.map (·.1), ¬ k ∈ kvs.map (·.1)) → (more.map (·.1)).Nodup → mergeK kvs more = kvs ++ more
  | [], kvs, _, _ => by rw [List.append_nil]; rfl
  | (k, v) :: more, kvs, h, nd => by
    rw [List.map_cons, List.nodup_cons] at nd
    have h1 : (kvs.any fun kv => decide (kv.1 = k)) = false := by
      rw [List.any_eq_false]
      intro x hx
      have := h k List.mem_cons_self
      simp only [decide_eq_true_eq]
      intro z
      exact this (List.mem_map.mpr ⟨x, hx, z⟩)
    have e : putK kvs k v = kvs ++ [(k, v)] := by unfold putK; rw [h1]; rfl
    show mergeK (putK kvs k v) more = _
    rw [e, merge_go more _ (fun j hj z => ?_) nd.2, List.append_assoc]; rfl
    rw [List.map_append] at z
    rcases List.mem_append.mp z with z | z
    · exact h j (List.mem_cons_of_mem _ hj) z
    · rw [List.map_cons, List.map_nil, List.mem_singleton] at z
      exact nd.1 (by rw [← z]; exact hj)
theorem zip_keys : ∀ (ks : List Str) (vs : List V), (ks.zip vs).map (fun kv => (V.str kv.1, kv.2)) = (((ks.map fun k => (Sum.inr k : L2.Key)).zip vs).map fun kv => (kV kv.1, kv.2))
  | [], _ => rfl
  | _ :: _, [] => rfl
  | k :: ks, v :: vs => by
    show (V.str k, v) :: (ks.zip vs).map (fun kv => (V.str kv.1, kv.2)) = (kV (Sum.inr k), v) :: (((ks.map fun k => (Sum.inr k : L2.Key)).zip vs).map fun kv => (kV kv.1, kv.2))
    rw [zip_keys ks vs]; rfl
def dDict (ks : List Str) (xs : List DX) : DX := fun δ Q => dArgs xs δ fun ds => Q (.dic (ks.map fun k => (Sum.inr k : L2.Key)) ds)
theorem d_disp {keys : List (Option Expr)} {values : List Expr} {ks : List Str} {xs : List DX} (h : DD X K pos keys values ks xs) (hall : keys.all (·.isSome) = true := by rfl) (hl : keys.length = values.length := by rfl) (h0 : keys ≠ [] := by exact fun z => by cases z)
    (h15 : keys.length ≤ 15 := by exact Nat.le_of_ble_eq_true rfl) (hk : ks.length ≤ 15 := by exact Nat.le_of_ble_eq_true rfl) (nd : ks.Nodup := by decide) : PD X K (.Dict keys values pos) (dDict ks xs) := by
  refine ⟨fun δ Q Q' i q => h.mono δ (fun ds => i _) q, pe_weak (pe_disp h.pps hall hl h0 h15) fun σ H Q ⟨Hb, B, O, δ, S, q⟩ p n => ?_⟩
  have nO : p ∉ O := fun z => S.live p z n
  have S1 := S.more n (same_new (o := .dK []) n) (by rw [upd_same]; exact fun z => by cases z)
  refine h.run S1 (h.mono δ (fun ds g vs H2 s2 as hv => ?_) q)
  have hp : H2 p = some (.dK []) := s2.at upd_same
  have em : (ks.zip vs).map (fun kv => (V.str kv.1, kv.2)) = (((ks.map fun k => (Sum.inr k : L2.Key)).zip vs).map fun kv => (kV kv.1, kv.2)) := zip_keys ks vs
  refine ⟨hp, (ks.map fun k => (Sum.inr k : L2.Key)).zip vs, em, ?_, ?_⟩
  · rw [List.length_zip, List.length_map]; omega
  · have ek : (((ks.map fun k => (Sum.inr k : L2.Key)).zip vs).map (·.1)) = ks.map fun k => (Sum.inr k : L2.Key) := List.map_fst_zip (by rw [List.length_map]; omega)
    rw [merge_go _ [] (by simp) (by rw [ek]; exact List.Pairwise.map _ (fun a b z w => z (Sum.inr.inj w)) nd)]
    have eh : hid (p :: O) (upd H2 p (.dK ([] ++ (ks.map fun k => (Sum.inr k : L2.Key)).zip vs))) = hid (p :: O) H2 := hid_upd List.mem_cons_self
    refine g _ _ ?_ (.dic (.inl ?_) (by rw [List.length_map]; exact hv.symm) (by rw [List.length_map]; exact Nat.le_trans hk (by decide)) ?_)
    · exact same_new' ((same_new n).trans s2) n (.dK hp)
    · rw [hid_of nO, upd_same]; rfl
    · rw [← eh] at as
      exact as.mono (hid_sub fun _ z => List.mem_cons_of_mem _ z)
/-! ### sorted of a dict; of data -/
def gSortDic (Q : List D → Prop) : D → Prop
  | .dic ks _ => ∃ ss : List Str, ks = ss.map Sum.inr ∧ ss.length < 64 ∧ ∀ ys : List Str, ys.Perm ss → PyProof.Rows.sortedS ys = true → Q (ys.map D.str)
  | _ => False
theorem strs_at {H : Hp} : ∀ ys : List Str, AtAll K H (ys.map V.str) (ys.map D.str)
  | [] => .nil
  | y :: ys => .cons (.str y) (strs_at ys)
theorem c_sortedDic (hc : X.calm = true := by rfl) (hK : X.K = K := by rfl) : CaF X K (.builtin "sorted") (o1F fun d Q => gSortDic Q d) := by
  subst hK
  refine ca1F (call_sortedD hc) (fun d Q Q' i q => ?_) fun O H v d Q l a q => ?_
  · cases d with
    | dic ks vs => obtain ⟨ss, h1, h2, q⟩ := q; exact ⟨ss, h1, h2, fun ys a b => i _ (q ys a b)⟩
    | non | bl _ | int _ | str _ | tup _ | lst _ | scr _ | ref _ | ptp _ => exact q.elim
  · cases d with
    | dic ks vs =>
      obtain ⟨ss, rfl, h2, q⟩ := q
      obtain ⟨p, ws, rfl, h3, h4, h5, h6⟩ := a.dict
      refine ⟨p, _, ss, rfl, h3, List.map_fst_zip (by omega), h2, fun ys t pm so n => q ys pm so t _ _ (same_new n) n upd_same ?_ (strs_at _)⟩
      rw [List.length_map, pm.length_eq]
      exact Nat.le_trans (Nat.le_of_lt h2) (by decide)
    | non | bl _ | int _ | str _ | tup _ | lst _ | scr _ | ref _ | ptp _ => exact q.elim
/-- the order of data -/
def leD (a b : D) : Bool := !PySem.W.dataLt (toP b) (toP a)
def rSortDat (K : PySem.W.Frag) (N : Nat) : List V → Hp → VK → Prop := fun vs H Q => ∃ (a : Addr) (bs : List (V × D)), vs = [.ref a] ∧ SqL K H a (bs.map (·.1)) ∧ (∀ b ∈ bs, Dp K H b.1 (toP b.2)) ∧ PySem.W.AllAlike (bs.map fun b => toP b.2) ∧ PySem.W.Sortable (bs.map fun b => toP b.2) ∧ (∀ b ∈ bs, (toP b.2).depth ≤ N) ∧
  ∀ p, H p = none → Q (.ref p) (upd H p (.lst ((bs.mergeSort fun a b => leD a.2 b.2).map (·.1))))
theorem cr_sortedDat {N : Nat} (hu : X.A.units + 2 + N < cLine) : CallR X (.builtin "sorted") (rSortDat X.K N) := by
  intro pins s σ H vs us Q I r h
  obtain ⟨a, bs, rfl, hs, hd, hal, hk, hn, q⟩ := h
  obtain ⟨its, rv, hl, hz⟩ := I.list hs
  rw [Vals.ref1 r]
  have ee : PySem.W.EachIs (fun (u : Value) (b : V × D) => RelV b.1 u) its bs := by
    clear hd hal hk hn q hs hl hz
    induction bs generalizing its with
    | nil => cases rv; exact .nil
    | cons b bs ih => cases rv with
      | cons h r => exact .cons h (ih _ r)
  have er : PySem.W.EachIs (fun (u : Value) (b : V × D) => ∃ as, Reads s.heap u (toP b.2) as) its bs := (PySem.W.each_mem ee).mono fun u b ⟨h1, h2⟩ => Dp.reads I _ _ _ (hd b h2) h1
  refine PySem.W.sorted_data (enc := fun b : V × D => toP b.2) hl.isList ee er hal hk (by rw [List.length_map] at hz; exact hz) (fun b hb => by have := hn b hb; omega) fun out ho h => ?_
  obtain ⟨ep, he'⟩ := PyProof.Rows.sortedAll_at s.heap its out.toArray
  have vo : Vals ((bs.mergeSort fun a b => leD a.2 b.2).map (·.1)) out := by
    have h' : PySem.W.EachIs (fun (u : Value) (b : V × D) => RelV b.1 u) out (bs.mergeSort fun a b => leD a.2 b.2) := h
    clear h ho he'
    generalize (bs.mergeSort fun a b => leD a.2 b.2) = cs at h'
    induction h' with
    | nil => exact .nil
    | cons h _ ih => exact .cons h ih
  have hlen : ((bs.mergeSort fun a b => leD a.2 b.2).map (·.1)).length ≤ sizeLine := by
    rw [List.length_map, List.length_mergeSort]
    rw [List.length_map] at hz
    exact hz
  exact ⟨.ref _, upd H (s.heap.objs.size + 1) (.lst ((bs.mergeSort fun a b => leD a.2 b.2).map (·.1))), I.laid (t' := s.toks) (fun _ _ => PyProof.Rows.sortedAll_old) (Nat.le_succ _) ⟨hlen, out, ep, vo, he'⟩, rfl, q _ (I.hok.fresh (Nat.le_succ _))⟩
theorem zip_fst {α β : Type} : ∀ {vs : List α} {l : List β}, vs.length = l.length → (vs.zip l).map (·.1) = vs
  | [], [], _ => rfl
  | v :: vs, d :: l, h => by
    show v :: (vs.zip l).map (·.1) = _
    rw [zip_fst (by simpa using h)]
  | [], _ :: _, h => by simp at h
  | _ :: _, [], h => by simp at h
theorem zip_snd {α β : Type} : ∀ {vs : List α} {l : List β}, vs.length = l.length → (vs.zip l).map (·.2) = l
  | [], [], _ => rfl
  | v :: vs, d :: l, h => by
    show d :: (vs.zip l).map (·.2) = _
    rw [zip_snd (by simpa using h)]
  | [], _ :: _, h => by simp at h
  | _ :: _, [], h => by simp at h
theorem zip_at {H : Hp} : ∀ {vs : List V} {l : List D}, AtAll K H vs l → ∀ b ∈ vs.zip l, At K H b.1 b.2
  | [], _, _, b, hb => by simp at hb
  | v :: vs, _, .cons a r, b, hb => by
    rcases List.mem_cons.mp hb with rfl | hb
    · exact a
    · exact zip_at r b hb
theorem atAll_map {H : Hp} : ∀ {bs : List (V × D)}, (∀ b ∈ bs, At K H b.1 b.2) → AtAll K H (bs.map (·.1)) (bs.map (·.2))
  | [], _ => .nil
  | b :: bs, h => .cons (h b List.mem_cons_self) (atAll_map fun c hc => h c (List.mem_cons_of_mem _ hc))
theorem sort_snd (bs : List (V × D)) : (bs.mergeSort fun a b => leD a.2 b.2).map (·.2) = (bs.map (·.2)).mergeSort leD :=
  List.map_mergeSort fun a _ b _ => rfl
/-- data that can be put in order -/
structure OrdD (N : Nat) (l : List D) : Prop where
  dat : ∀ d ∈ l, isDat d = true
  dep : ∀ d ∈ l, (toP d).depth ≤ N
  al : PySem.W.AllAlike (l.map toP)
  so : PySem.W.Sortable (l.map toP)
def gSortDat (N : Nat) (Q : List D → Prop) : D → Prop
  | .lst l => OrdD N l ∧ Q (l.mergeSort leD)
  | _ => False
theorem c_sortedDat {N : Nat} (hu : X.A.units + 2 + N < cLine) (hK : X.K = K := by rfl) : CaF X K (.builtin "sorted") (o1F fun d Q => gSortDat N Q d) := by
  subst hK
  refine ca1F (cr_sortedDat hu) (fun d Q Q' i q => ?_) fun O H v d Q l a q => ?_
  · cases d with
    | lst l => exact ⟨q.1, i _ q.2⟩
    | non | bl _ | int _ | str _ | tup _ | dic _ _ | scr _ | ref _ | ptp _ => exact q.elim
  · cases d with
    | lst l =>
      obtain ⟨w, q⟩ := q
      obtain ⟨p, vs, rfl, h1, h2, h3⟩ := a.list
      have e1 := zip_fst h3.len
      have e2 := zip_snd h3.len
      have e3 := zip_at h3
      have em : ((vs.zip l).map fun b => toP b.2) = l.map toP := by
        have : ((vs.zip l).map fun b => toP b.2) = ((vs.zip l).map (·.2)).map toP := by rw [List.map_map]; rfl
        rw [this, e2]
      refine ⟨p, vs.zip l, rfl, .inl (.inl (by rw [e1]; exact h1)), fun b hb => ?_, by rw [em]; exact w.al, by rw [em]; exact w.so, fun b hb => w.dep _ (by rw [← e2]; exact List.mem_map.mpr ⟨b, hb, rfl⟩), fun t n => q t _ _ (same_new n) n upd_same ?_ ?_⟩
      · exact ((e3 b hb).mono hid_out).dp (w.dat _ (by rw [← e2]; exact List.mem_map.mpr ⟨b, hb, rfl⟩))
      · rw [List.length_mergeSort]; exact h2
      · have es := sort_snd (vs.zip l)
        rw [e2] at es
        rw [← es]
        exact atAll_map fun b hb => (e3 b (List.mem_mergeSort.mp hb)).mono (hid_new n (same_new n))
    | non | bl _ | int _ | str _ | tup _ | dic _ _ | scr _ | ref _ | ptp _ => exact q.elim
/-! ### min of data -/
theorem minD_mem (x : PyData) (xs : List PyData) : PySem.W.minD x xs ∈ x :: xs := by
  unfold PySem.W.minD
  induction xs generalizing x with
  | nil => exact List.mem_cons_self
  | cons y ys ih =>
    rw [List.foldl_cons]
    rcases List.mem_cons.mp (ih (if PySem.W.dataLt y x then y else x)) with h | h
    · rw [h]
      split
      · exact List.mem_cons_of_mem _ List.mem_cons_self
      · exact List.mem_cons_self
    · exact List.mem_cons_of_mem _ (List.mem_cons_of_mem _ h)
def rMinDat (K : PySem.W.Frag) (N : Nat) : List V → Hp → VK → Prop := fun vs H Q => ∃ (a : Addr) (b0 : V × D) (bs : List (V × D)), vs = [.ref a] ∧ SqL K H a ((b0 :: bs).map (·.1)) ∧ (∀ b ∈ b0 :: bs, Dp K H b.1 (toP b.2)) ∧ PySem.W.AlikeAll ((b0 :: bs).map fun b => toP b.2) ∧ PyData.depthAll ((b0 :: bs).map fun b => toP b.2) ≤ N ∧
  ∀ b ∈ b0 :: bs, toP b.2 = PySem.W.minD (toP b0.2) (bs.map fun b => toP b.2) → Q b.1 H
theorem dpAll_of {H : Hp} : ∀ {bs : List (V × D)}, (∀ b ∈ bs, Dp K H b.1 (toP b.2)) → DpAll K H (bs.map (·.1)) (bs.map fun b => toP b.2)
  | [], _ => .nil
  | b :: bs, h => .cons (h b List.mem_cons_self) (dpAll_of fun c hc => h c (List.mem_cons_of_mem _ hc))
theorem paired_get {α β : Type} {R : α → β → Prop} {xs : List α} {ys : List β} (h : Paired R xs ys) {i : Nat} {y : β} (e : ys[i]? = some y) : ∃ x, xs[i]? = some x ∧ R x y := by
  induction h generalizing i with
  | nil => simp at e
  | cons h _ ih =>
    cases i with
    | zero => simp at e; subst e; exact ⟨_, rfl, h⟩
    | succ i => exact ih (by simpa using e)
theorem cr_minDat {N : Nat} (hu : X.A.units + 1 + N < cLine) (hc : X.calm = true) : CallR X (.builtin "min") (rMinDat X.K N) := by
  intro pins s σ H vs us Q I r h
  obtain ⟨a, b0, bs, rfl, hs, hd, hal, hn, q⟩ := h
  obtain ⟨its, rv, hl, hz⟩ := I.list hs
  rw [Vals.ref1 r]
  obtain ⟨as, ra⟩ := Dp.readsAll I _ _ _ (dpAll_of hd) rv
  refine PySem.W.min_list_data (x := toP b0.2) (xs := bs.map fun (b : V × D) => toP b.2) (I.ok.hd hc) hl.isList (by simpa using ra) hal (by simp only [List.map_cons] at hn; omega) fun i v h' tk cs hv rr hk => ?_
  have hv' : its[i]? = some v := by simpa using hv
  obtain ⟨x, hx, rx⟩ := paired_get rv hv'
  rw [List.getElem?_map] at hx
  cases eb : (b0 :: bs)[i]? with
  | none => rw [eb] at hx; cases hx
  | some b =>
    rw [eb] at hx
    obtain rfl := Option.some.inj hx
    have mb := List.mem_of_getElem? eb
    obtain ⟨ds, rd⟩ := Dp.reads I _ _ _ (hd b mb) rx
    have rd2 : Reads h' v (toP b.2) ds := PySem.W.reads_keeps hk rd
    have hm : PySem.W.alike (toP b.2) (PySem.W.minD (toP b0.2) (bs.map fun b => toP b.2)) = true := by
      refine hal.1 _ (List.mem_map.mpr ⟨b, mb, rfl⟩) _ ?_
      rw [List.map_cons]
      exact minD_mem _ _
    have e := PySem.W.alike_unique _ _ _ _ _ hm rd2 rr
    exact ⟨b.1, H, I.kept hk, rx, q b mb e⟩
/-- min of a list of data -/
def gMinDat (N : Nat) (d : D) (Q : D → Prop) : Prop := match d with
  | .lst (x :: l) => ((∀ d ∈ x :: l, isDat d = true) ∧ PySem.W.AlikeAll ((x :: l).map toP) ∧ PyData.depthAll ((x :: l).map toP) ≤ N) ∧ ∀ d ∈ x :: l, toP d = PySem.W.minD (toP x) (l.map toP) → Q d
  | _ => False
theorem c_minDat {N : Nat} (hu : X.A.units + 1 + N < cLine) (hc : X.calm = true := by rfl) (hK : X.K = K := by rfl) : CaD X K (.builtin "min") (o1 (gMinDat N)) := by
  subst hK
  refine ca1 (cr_minDat hu hc) (fun d Q Q' i q => ?_) fun O H v d Q l a q => ?_
  · unfold gMinDat at q ⊢
    split at q
    · exact ⟨q.1, fun d hd e => i _ (q.2 d hd e)⟩
    · exact q
  · unfold gMinDat at q
    split at q
    · rename_i x l
      obtain ⟨⟨w1, w2, w3⟩, q⟩ := q
      obtain ⟨p, vs, rfl, h1, h2, h3⟩ := a.list
      cases h3 with
      | @cons u us _ _ a0 r =>
        have e1 := zip_fst r.len
        have e2 := zip_snd r.len
        have e3 : ∀ b ∈ (u, x) :: us.zip l, At X.K (hid O H) b.1 b.2 := fun b hb => by
          rcases List.mem_cons.mp hb with rfl | hb
          · exact a0
          · exact zip_at r b hb
        have e4 : ∀ b ∈ (u, x) :: us.zip l, b.2 ∈ x :: l := fun b hb => by
          rcases List.mem_cons.mp hb with rfl | hb
          · exact List.mem_cons_self
          · exact List.mem_cons_of_mem _ (by rw [← e2]; exact List.mem_map.mpr ⟨b, hb, rfl⟩)
        have em : ((us.zip l).map fun b => toP b.2) = l.map toP := by
          have : ((us.zip l).map fun b => toP b.2) = ((us.zip l).map (·.2)).map toP := by rw [List.map_map]; rfl
          rw [this, e2]
        have em2 : (((u, x) :: us.zip l).map fun b => toP b.2) = (x :: l).map toP := by rw [List.map_cons, List.map_cons, em]
        refine ⟨p, (u, x), us.zip l, rfl, .inl (.inl ?_), fun b hb => ((e3 b hb).mono hid_out).dp (w1 _ (e4 b hb)), by rw [em2]; exact w2, by rw [em2]; exact w3, fun b hb eb => q b.2 (e4 b hb) ?_ b.1 H (.refl H) (e3 b hb)⟩
        · rw [List.map_cons, e1]; exact h1
        · rw [eb, em]
    · exact q.elim
/-! ### a def called by a local name -/
def dCallV (i : Nat) (f : Addr) (R : Rf) (xs : List DX) : DX := fun δ Q => sl δ i = .d (.ref f) ∧ dArgs xs δ fun ds => R ds Q
theorem d_callV {k : Nat} (i : Nat) {f : Addr} {x y : Str} {ps : List Str} {R : Rf} {xs : List DX} {p : Pos} (C : Cal X.prog X.w X.K X.mg X.base CX0 k y ps (spW K R)) (hf : X.mg y = some (.ref f)) (hm : MonoR R) (hr : Ro k X.A) (ha : AD X K (e :: es) xs) (hN : X.N[i]? = some x := by rfl) (hv : Vis X.env.scope x := by first | exact Or.inl rfl | exact Or.inr (Or.inl rfl) | exact Or.inr (Or.inr rfl))
    (hdb : (x == ("__debug__" : Str)) = false := by decide) (hcd : (x == ("__classdict__" : Str)) = false := by decide)
    (he : starEach (e :: es) X.env = (false, eval e X.env) :: starEach es X.env := by rfl) (hpl : (backTo pos (starEach es X.env)).any (·.1) = false := by rfl) : PD X K (.Call (.Name x p) (e :: es) [] pos) (dCallV i f R xs) := by
  obtain ⟨f', fd, h1, h2, h3, h4⟩ := C.ex
  rw [hf] at h1
  obtain rfl : f = f' := by injection h1 with h1; injection h1
  refine ⟨fun δ Q Q' i q => ⟨q.1, ha.mono δ (fun ds => hm ds i) q.2⟩, pe_weak (peg_callL (i := i) h4 hr hN hv h2 h3 .nil pass0 ha.pa hdb hcd he hpl) fun σ H Q ⟨Hb, B, O, δ, S, q1, q⟩ => ⟨?_, Hb, B, O, δ, S, ha.mono δ (fun ds g vs H1 s1 as => ?_) q⟩⟩
  · have a := S.at_ i
    rw [q1] at a
    obtain ⟨v, hv, av⟩ := a
    cases av
    exact hv
  · show spW K R (vs ++ []) H1 Q _
    rw [List.append_nil]
    exact ⟨O, ds, fun p hp => live_same (S.live p hp) s1, s1.t S.tab, as, hm ds (fun d k v H' s a => k v H' (s1.trans s) a) g⟩
end
end DL

namespace DL
variable [Tbs]
open PySem L2
/-! ## comprehensions with two for -/
def lcRunB (t : DG) (tst : DT) (elt : DX) (δ : List Sl) (Q : List D → Prop) : List D → List D → Prop
  | [], acc => Q acc
  | x :: xs, acc => t x δ fun δ' => tst δ' fun b => if b = true then elt δ' fun y => acc.length < LIM ∧ lcRunB t tst elt δ Q xs (acc ++ [y]) else lcRunB t tst elt δ Q xs acc
def lcRun2 (t : DG) (tst : DT) (src1 : DAs) (t1 : DG) (tst1 : DT) (elt : DX) (vs1 : List Nat) (δ : List Sl) (Q : List D → Prop) : List D → List D → Prop
  | [], acc => Q acc
  | x :: xs, acc => t x δ fun δ1 => tst δ1 fun b => if b = true then src1 δ1 fun l1 => lcRunB t1 tst1 elt (wipeD δ1 vs1) (lcRun2 t tst src1 t1 tst1 elt vs1 δ Q xs) l1 acc else lcRun2 t tst src1 t1 tst1 elt vs1 δ Q xs acc
def fLc2 (src : DAs) (t : DG) (tst : DT) (src1 : DAs) (t1 : DG) (tst1 : DT) (elt : DX) (vs vs1 : List Nat) : DAs := fun δ Q => src δ fun l => lcRun2 t tst src1 t1 tst1 elt vs1 (wipeD δ vs) Q l []
abbrev MonoG (t : DG) : Prop := ∀ d δ {Q Q' : List Sl → Prop}, (∀ δ, Q δ → Q' δ) → t d δ Q → t d δ Q'
theorem lcRunB_mono {t : DG} {tst : DT} {elt : DX} {δ : List Sl} {Q Q' : List D → Prop} (mg : MonoG t) (mt : MonoT tst) (me : MonoX elt) (i : ∀ l, Q l → Q' l) : ∀ l acc, lcRunB t tst elt δ Q l acc → lcRunB t tst elt δ Q' l acc
  | [], acc, h => i _ h
  | x :: xs, acc, h => mg x δ (fun δ' => mt δ' fun b => ite_mono b (me δ' fun y k => ⟨k.1, lcRunB_mono mg mt me i xs _ k.2⟩) (lcRunB_mono mg mt me i xs acc)) h
theorem lcRun2_mono {t : DG} {tst : DT} {src1 : DAs} {t1 : DG} {tst1 : DT} {elt : DX} {vs1 : List Nat} {δ : List Sl} {Q Q' : List D → Prop} (mg : MonoG t) (mt : MonoT tst) (ms : MonoA src1) (mg1 : MonoG t1) (mt1 : MonoT tst1) (me : MonoX elt) (i : ∀ l, Q l → Q' l) :
    ∀ l acc, lcRun2 t tst src1 t1 tst1 elt vs1 δ Q l acc → lcRun2 t tst src1 t1 tst1 elt vs1 δ Q' l acc
  | [], acc, h => i _ h
  | x :: xs, acc, h => mg x δ (fun δ1 => mt δ1 fun b => ite_mono b (ms δ1 fun l1 => lcRunB_mono mg1 mt1 me (lcRun2_mono mg mt ms mg1 mt1 me i xs) l1 acc) (lcRun2_mono mg mt ms mg1 mt1 me i xs acc)) h
section
variable {K : PySem.W.Frag}
theorem own_fresh {Hb H1 H2 : Hp} {B O : List Addr} {σ : L2.St} {δ : List Sl} {D : Addr} (S : Sta K Hb B O H1 σ δ) (n : H1 D = none) : ∀ i, isOwn (sl δ i) = true → σ[i]? ≠ some (some (.ref D)) := fun i ho z => by
  have a := S.at_ i
  cases e : sl δ i with
  | no => rw [e] at ho; cases ho
  | d x => rw [e] at ho; cases ho
  | own l => rw [e] at a; obtain ⟨w, vs, h1, h2, h3, h4, _⟩ := a; rw [z] at h1; cases h1; rw [n] at h4; cases h4
  | ownA w l => rw [e] at a; obtain ⟨vs, h1, h2, h3, h4, _⟩ := a; rw [z] at h1; cases h1; rw [n] at h4; cases h4
  | owk ks l => rw [e] at a; obtain ⟨w, vs, h1, h2, h3, h4, _⟩ := a; rw [z] at h1; cases h1; rw [n] at h4; cases h4
theorem own_based {Hb H1 : Hp} {B O : List Addr} {σ : L2.St} {δ : List Sl} {D : Addr} {u : HO} (S : Sta K Hb B O H1 σ δ) (n : Hb D = some u) : ∀ i, isOwn (sl δ i) = true → σ[i]? ≠ some (some (.ref D)) := fun i ho z => by
  have a := S.at_ i
  cases e : sl δ i with
  | no => rw [e] at ho; cases ho
  | d x => rw [e] at ho; cases ho
  | own l => rw [e] at a; obtain ⟨w, vs, h1, h2, h3, _⟩ := a; rw [z] at h1; cases h1; rw [n] at h3; cases h3
  | ownA w l => rw [e] at a; obtain ⟨vs, h1, h2, h3, _⟩ := a; rw [z] at h1; cases h1; rw [n] at h3; cases h3
  | owk ks l => rw [e] at a; obtain ⟨w, vs, h1, h2, h3, _⟩ := a; rw [z] at h1; cases h1; rw [n] at h3; cases h3
theorem tLc2_of {src : DAs} {t : DG} {tst : DT} {src1 : DAs} {t1 : DG} {tst1 : DT} {elt : DX} {vs js vs1 js1 : List Nat} (ms : MonoA src) (mg : MonoG t) (mt : MonoT tst) (ms1 : MonoA src1) (mg1 : MonoG t1) (mt1 : MonoT tst1) (me : MonoX elt) (hj : ∀ j ∈ js, j ∈ vs) (hj1 : ∀ j ∈ js1, j ∈ vs1) {σ : L2.St} {H : Hp} {Q : VK}
    (h : tF K (fLc2 src t tst src1 t1 tst1 elt vs vs1) σ H Q) : tLc2 (iQ K src) (tG K js t) (tT K tst) (iP K src1) (tG K js1 t1) (tT K tst1) (tP K elt) vs vs1 σ H Q := by
  obtain ⟨Hb, B, O, δ, S, q⟩ := h
  refine ⟨Hb, B, O, δ, S, ms δ (fun l q J H1 s1 hl wk Dn n => ?_) q⟩
  have S0 := S.grow s1
  have nO : Dn ∉ O := fun z => S0.live Dn z n
  have hbD : Hb Dn = none := S0.same.free n
  let Qf : List D → Prop := fun l => ∀ p vs H', Same H H' → H p = none → H' p = some (.lst vs) → l.length ≤ LIM → AtAll K (hid (p :: O) H') vs l → Q (.ref p) H'
  let G : List D → List D → Prop := lcRun2 t tst src1 t1 tst1 elt vs1 (wipeD δ vs) Qf
  let W : Nat → Nat → Hp → Prop := fun i m H2 => m = l.length - i ∧ i ≤ l.length ∧ ∃ acc ws, Same H1 H2 ∧ H2 Dn = some (.lst ws) ∧ acc.length ≤ LIM ∧ AtAll K (hid (Dn :: O) H2) ws acc ∧ G (l.drop i) acc
  refine ⟨W, ⟨l.length, by simp, Nat.zero_le _, [], [], same_new n, upd_same, Nat.zero_le _, .nil, q⟩, ?_⟩
  rintro i m H2 ⟨rfl, hi, acc, ws, s2, hd, ha, at2, q⟩
  have nn : H2 Dn ≠ none := by rw [hd]; exact fun z => by cases z
  by_cases lt : i < l.length
  · right
    obtain ⟨d, ed⟩ : ∃ d, l[i]? = some d := ⟨l[i], List.getElem?_eq_getElem lt⟩
    have dr : l.drop i = d :: l.drop (i + 1) := by
      rw [List.drop_eq_getElem_cons lt]
      rw [List.getElem?_eq_getElem lt] at ed
      rw [Option.some.inj ed]
    obtain ⟨go, yl⟩ := (wk i H2 s2.k).1 d ed
    refine ⟨go, W (i + 1) (l.length - (i + 1)), fun H' w => ⟨_, by omega, w⟩, fun x H3 y => ?_⟩
    obtain ⟨s3, ax⟩ := yl x H3 y
    have S2 := (S0.wiped vs).more n s2 nn
    have ax := ax (Dn :: O) S2.live (hid_new n s2)
    have S3 := S2.grow s3
    have hd3 := s3.at hd
    have np0 : ∀ i, isOwn (sl (wipeD δ vs) i) = true → (wipe σ vs)[i]? ≠ some (some (.ref Dn)) := own_fresh (H2 := H1) (S0.wiped vs) n
    have P3 := S3.pinD nO hd3 np0
    have sb : Keep Hb (hid (nbs Hb O) H3) := keep_nbs S3.kp
    have hcD : hid (nbs Hb O) H3 Dn = some (.lst ws) := by rw [hid_of fun z => nO (nbs_in z).1]; exact hd3
    have q : G (d :: l.drop (i + 1)) acc := by rw [dr] at q; exact q
    refine ⟨_, Dn :: B, Dn :: O, wipeD δ vs, d, P3, ax, mg d _ (fun δ1 q σ2 S1 hw => ⟨?_, ?_⟩) q⟩
    · rw [hw vs hj, wipe_wipe σ vs vs fun _ z => z]
    · refine ⟨_, Dn :: B, Dn :: O, δ1, S1, mt δ1 (fun b q H4 s4 => ite_mono b (fun q => ?_) (fun q => ?_) q) q⟩
      · have S4 := S1.grow s4
        have np4 := own_based S4 hcD
        have U4 := S4.unpin sb hbD S.liveB
        refine ⟨Hb, B, Dn :: O, δ1, U4, ms1 δ1 (fun l1 q J1 H5 s5 hl1 wk1 => ?_) q⟩
        have U5 := U4.grow s5
        have s35 := s3.trans (s4.trans s5)
        let W1 : Nat → Nat → Hp → Prop := fun j k H6 => k = l1.length - j ∧ j ≤ l1.length ∧ ∃ acc ws, Same H1 H6 ∧ Keep (hid (Dn :: O) H5) (hid (Dn :: O) H6) ∧ Sta K Hb B (Dn :: O) H6 σ2 δ1 ∧ H6 Dn = some (.lst ws) ∧ acc.length ≤ LIM ∧ AtAll K (hid (Dn :: O) H6) ws acc ∧ lcRunB t1 tst1 elt (wipeD δ1 vs1) (G (l.drop (i + 1))) (l1.drop j) acc
        refine ⟨W1, ⟨l1.length, by simp, Nat.zero_le _, acc, ws, s2.trans s35, .refl _, U5, s35.at hd, ha, at2.mono (hid_same s35), q⟩, ?_⟩
        rintro j k H6 ⟨rfl, hj6, acc, ws, t2, t3, U6, hd6, ha, at6, q⟩
        by_cases lt1 : j < l1.length
        · right
          obtain ⟨d1, ed1⟩ : ∃ d, l1[j]? = some d := ⟨l1[j], List.getElem?_eq_getElem lt1⟩
          have dr1 : l1.drop j = d1 :: l1.drop (j + 1) := by
            rw [List.drop_eq_getElem_cons lt1]
            rw [List.getElem?_eq_getElem lt1] at ed1
            rw [Option.some.inj ed1]
          obtain ⟨go1, yl1⟩ := (wk1 j H6 (t3.trans hid_out)).1 d1 ed1
          refine ⟨go1, W1 (j + 1) (l1.length - (j + 1)), fun H' w => ⟨_, by omega, w⟩, fun x1 H7 y1 => ?_⟩
          obtain ⟨s7, ax1⟩ := yl1 x1 H7 y1
          have ax1 := ax1 (Dn :: O) U6.live t3
          have U7 := (U6.grow s7).wiped vs1
          rw [dr1] at q
          refine ⟨Hb, B, Dn :: O, wipeD δ1 vs1, d1, U7, ax1, mg1 d1 _ (fun δ3 q σ3 S8 hw1 => ⟨?_, ?_⟩) q⟩
          · rw [hw1 vs1 hj1, wipe_wipe σ2 vs1 vs1 fun _ z => z]
          · refine ⟨Hb, B, Dn :: O, δ3, S8, mt1 δ3 (fun b q H8 s8 => ite_mono b (fun q => ?_) (fun q => ?_) q) q⟩
            · refine ⟨Hb, B, Dn :: O, δ3, S8.grow s8, me δ3 (fun y ⟨k0, q⟩ v H9 s9 ay => ?_) q⟩
              have s79 := s7.trans (s8.trans s9)
              have eh : ∀ x, hid (Dn :: O) (upd H9 Dn x) = hid (Dn :: O) H9 := fun x => hid_upd List.mem_cons_self
              refine ⟨ws, s79.at hd6, ?_, rfl, lt1, acc ++ [y], ws ++ [v], same_new' (t2.trans s79) n (.lst (s79.at hd6)), by rw [eh]; exact t3.trans (hid_same s79), (U6.grow s79).updD hbD (.lst (s79.at hd6)) np4, upd_same, ?_, ?_, q⟩
              · rw [at6.len]; exact Nat.lt_trans k0 LIM_size
              · rw [List.length_append, List.length_singleton]; omega
              · rw [eh]; exact (at6.mono (hid_same s79)).append (.cons ay .nil)
            · have s78 := s7.trans s8
              exact ⟨rfl, lt1, acc, ws, t2.trans s78, t3.trans (hid_same s78), U6.grow s78, s78.at hd6, ha, at6.mono (hid_same s78), q⟩
        · left
          have e : j = l1.length := by omega
          subst e
          rw [List.drop_length] at q
          exact ⟨(wk1 _ H6 (t3.trans hid_out)).2 (Nat.le_refl _), rfl, lt, acc, ws, t2, hd6, ha, at6, q⟩
      · have s34 := s3.trans s4
        exact ⟨rfl, lt, acc, ws, s2.trans s34, s34.at hd, ha, at2.mono (hid_same s34), q⟩
  · left
    have e : i = l.length := by omega
    subst e
    have q : G [] acc := by rw [List.drop_length] at q; exact q
    exact ⟨(wk _ H2 s2.k).2 (Nat.le_refl _), q Dn ws H2 (s1.trans s2) (s1.free n) hd ha at2⟩
end
section
variable {X : Cx} {K : PySem.W.Frag} {elt tg iter tg1 iter1 : Expr} {ifs ifs1 : List Expr} {scope : Scope} {own : List (Str × Nat)} {pos : Pos}
theorem f_lc2 {src : DAs} {t : DG} {tst : DT} {src1 : DAs} {t1 : DG} {tst1 : DT} {el : DX} {js js1 vs1 : List Nat} (hN : X.N.Nodup) (hi : IQ X K tg iter src) (ok : BlkOk X.N X.env.scope scope own)
    (hg : ∀ (s : Shared) (H : Hp) (C : Addr) (cl : List (Str × Addr)) (fp : List Addr), GD (X.blk s H scope (compEnvC scope cl C X.env) fp) K tg js t)
    (ht : ∀ (s : Shared) (H : Hp) (C : Addr) (cl : List (Str × Addr)) (fp : List Addr), TsD (X.blk s H scope (compEnvC scope cl C X.env) fp) K ifs tst)
    (hi1 : ∀ (s : Shared) (H : Hp) (C : Addr) (cl : List (Str × Addr)) (fp : List Addr), IP (X.blk s H scope (compEnvC scope cl C X.env) fp) K tg1 iter1 src1)
    (hg1 : ∀ (s : Shared) (H : Hp) (C : Addr) (cl : List (Str × Addr)) (fp : List Addr), GD (X.blk s H scope (compEnvC scope cl C X.env) fp) K tg1 js1 t1)
    (ht1 : ∀ (s : Shared) (H : Hp) (C : Addr) (cl : List (Str × Addr)) (fp : List Addr), TsD (X.blk s H scope (compEnvC scope cl C X.env) fp) K ifs1 tst1)
    (he : ∀ (s : Shared) (H : Hp) (C : Addr) (cl : List (Str × Addr)) (fp : List Addr), PD (X.blk s H scope (compEnvC scope cl C X.env) fp) K elt el)
    (hj : ∀ j ∈ js, j ∈ own.map (·.2) := by decide) (hv : ∀ i ∈ vs1, i ∈ own.map (·.2) := by decide) (hj1 : ∀ j ∈ js1, j ∈ vs1 := by decide) (hc : X.calm = true := by rfl) (hs : ∀ x, foldedSetIterable iter X.env x = pure x := by intro _; rfl) (hs1 : ∀ env x, foldedSetIterable iter1 env x = pure x := by intro _ _; rfl) :
    FD X K (.ListComp elt [⟨tg, iter, ifs, 0⟩, ⟨tg1, iter1, ifs1, 0⟩] scope pos) (fLc2 src t tst src1 t1 tst1 el (own.map (·.2)) vs1) := by
  have m1 := (hg {} (fun _ => none) 0 [] []).mono
  have m2 := (ht {} (fun _ => none) 0 [] []).mono
  have m3 := (he {} (fun _ => none) 0 [] []).mono
  have m4 := (hi1 {} (fun _ => none) 0 [] []).mono
  have m5 := (hg1 {} (fun _ => none) 0 [] []).mono
  have m6 := (ht1 {} (fun _ => none) 0 [] []).mono
  exact ⟨fun δ Q Q' i q => hi.mono δ (fun l => lcRun2_mono m1 m2 m4 m5 m6 m3 i l []) q, pe_weak (pe_lc2 hc hN hi.pi ok hv (fun s H C cl fp => (hg s H C cl fp).pg) (fun s H C cl fp => (ht s H C cl fp).pts) (fun s H C cl fp => (hi1 s H C cl fp).pi) (fun s H C cl fp => (hg1 s H C cl fp).pg) (fun s H C cl fp => (ht1 s H C cl fp).pts) (fun s H C cl fp => (he s H C cl fp).pe) hs hs1)
    fun σ H Q h => tLc2_of hi.mono m1 m2 m4 m5 m6 m3 hj hj1 h⟩
end
/-! ### reversed of a list or a tuple -/
section
variable {X : Cx} {K : PySem.W.Frag} {tg e : Expr} {pos : Pos}
theorem walk_revT {H0 Hf : Hp} {p : Addr} {vs : List V} {l : List D} (h : SqT K H0 p vs) (a : AtAll K Hf vs l) : WalkD K H0 Hf l.reverse (RT.ItvT K p vs.length) := fun i H s => by
  refine ⟨fun d e => ?_, fun n => by rw [List.length_reverse, ← a.len] at n; exact n⟩
  have hi : i < l.length := by have := (List.getElem?_eq_some_iff.mp e).1; rw [List.length_reverse] at this; exact this
  rw [List.getElem?_reverse hi] at e
  obtain ⟨v, ev, av⟩ := a.get' e
  rw [← a.len] at ev hi
  refine ⟨⟨hi, vs, v, sqT_mono s h, ev⟩, fun x H' y => ?_⟩
  obtain ⟨rfl, y⟩ := y
  have := y vs (sqT_mono s h)
  rw [ev] at this
  obtain rfl := Option.some.inj this
  exact ⟨.refl _, fun O hO sf => av.mono sf⟩
def asLT (Q : List D → Prop) : D → Prop
  | .lst l => Q l
  | .tup l => Q l
  | _ => False
theorem asLT_mono {Q Q' : List D → Prop} (i : ∀ l, Q l → Q' l) (d : D) (q : asLT Q d) : asLT Q' d := by
  unfold asLT at q ⊢
  split at q
  · exact i _ q
  · exact i _ q
  · exact q
def sRevA (x : DX) : DAs := fun δ Q => x δ (asLT fun l => Q l.reverse)
theorem i_revA {x : DX} {p : Pos} (hm : X.mg "reversed" = none) (h : PD X K e x) (hK : X.K = K := by rfl) (hg : Gl X "reversed" := by rfl) (hs : starEach [e] X.env = (false, eval e X.env) :: starEach [] X.env := by rfl) :
    IP X K tg (.Call (.Name "reversed" p) [e] [] pos) (sRevA x) := by
  subst hK
  refine ⟨fun δ Q Q' i q => h.mono δ (asLT_mono fun l => i _) q, pi_weak (RT.pi_revA hg hm h.pe hs) fun σ H R ⟨Hb, B, O, δ, S, q⟩ => ⟨Hb, B, O, δ, S, h.mono δ (fun d k v H1 s1 a => ?_) q⟩⟩
  cases d with
  | lst l =>
    cases a with
    | lst h1 h2 h3 => exact ⟨_, _, rfl, .inl ⟨hid_out.seq (.inl (.inl h1)), k _ H1 s1 (by rw [List.length_reverse]; exact h2) (walk_rev (.inl (.inl h1)) h3)⟩⟩
  | tup l =>
    cases a with
    | tup h1 h2 h3 => exact ⟨_, _, rfl, .inr ⟨sqT_mono hid_out h1, k _ H1 s1 (by rw [List.length_reverse]; exact h2) (walk_revT h1 h3)⟩⟩
  | non | bl _ | int _ | str _ | scr _ | dic _ _ | ref _ | ptp _ => exact k.elim
end
end DL

/-! # sorted and min with a key that is a def's own: whatever the key's calls lay down -/
namespace DL
variable [Tbs]
open PySem PySem.Spec PySem.Calls PyProof.Rows L2
open PySem.W (AllAlike Sortable KeyedOut EachIs)
section
variable {prog : Program} {w : World} {A : Around} {E : Value → Shared → Prop} {s : Shared}
theorem copy_size (h : Heap) (vs : List Value) : (PySem.W.copyHeap h vs).objs.size = h.objs.size + 2 := by
  unfold PySem.W.copyHeap
  rw [size_push', Heap.size_update, size_push']
/-- what is asked of a state while keys are made: J ks, ks the keys so far; ow: cells that sorted or min lays for itself -/
structure KeySt (prog : Program) (w : World) (A : Around) (ow : List Addr) (f : Value) (xs : List V) (kz : List PyData) (J : List Value → Shared → Prop) : Prop where
  stay : ∀ ks s h' tk, J ks s → (∀ b o, b ∉ ow → s.heap.get? b = some o → h'.get? b = some o) → J ks { s with heap := h', toks := tk }
  turn : ∀ ks x v s, xs[ks.length]? = some x → L2.RelV x v → J ks s → (∀ b ∈ ow, ∃ o, s.heap.get? b = some o) → wpAny (model prog w) A (call f [v]) (fun k s' => J (ks ++ [k]) s' ∧ ∀ b o, b ∈ ow → s.heap.get? b = some o → s'.heap.get? b = some o) (fun _ _ => False) s
  read : ∀ ks s, J ks s → EachIs (fun v k => ∃ as, Reads s.heap v k as) ks (kz.take ks.length)
theorem sort_run {l : Addr} {f : Value} {vs : List Value} {xs : List V} {kz : List PyData} {kw : List (Str × Value)} {J : List Value → Shared → Prop} {Q : Value → Shared → Prop} (hl : s.heap.IsList l vs.toArray) (hv : L2.Vals xs vs) (hL : vs.length ≤ sizeLine) (hk : kz.length = vs.length)
    (hal : AllAlike kz) (hsk : Sortable kz) (hu : ∀ d ∈ kz, A.units + 2 + d.depth < cLine) (ha1 : argsOk "sorted" ⟨[.ref l], kw⟩) (ha2 : ∀ x, argsOk "list.sort" ⟨[.ref x], kw⟩) (ht : ∀ x, Builtin.«list.sort» ⟨[.ref x], kw⟩ = ksk_tree x f false)
    (j0 : ∀ h' tk, (∀ b o, s.heap.get? b = some o → h'.get? b = some o) → J [] { s with heap := h', toks := tk }) (K : KeySt prog w A.in1.in1 [s.heap.objs.size + 1, s.heap.objs.size + 3] f xs kz J)
    (fin : ∀ ks s' h' tk out c, J ks s' → (∀ b o, b ∉ [s.heap.objs.size + 1, s.heap.objs.size + 3] → s'.heap.get? b = some o → h'.get? b = some o) → h'.get? (s.heap.objs.size + 1) = some (seqObj "list" (List.toArray out) c) → KeyedOut false kz vs out → Q (.ref (s.heap.objs.size + 1)) { s' with heap := h', toks := tk }) :
    wpAny (model prog w) A (call (.builtin "sorted") [.ref l] kw) Q E s := by
  refine PySem.W.sorted_of_sort hl hL ha1 ha2 fun E' => ?_
  rw [ht]
  obtain ⟨D, hD⟩ : ∃ D, D = s.heap.objs.size + 1 := ⟨_, rfl⟩
  rw [← hD]
  have cD : (PySem.W.copyHeap s.heap vs).get? D = some (seqObj "list" vs.toArray 0) := by
    rw [hD]; exact PySem.W.copyHeap_at _ _
  obtain ⟨e1, cD1⟩ : ∃ e1, ((PySem.W.copyHeap s.heap vs).update D (Obj.mapSeq fun _ => (#[] : Array Value))).get? D = some (seqObj "list" #[] e1) := ⟨_, get?_update_seq cD fun _ => #[]⟩
  unfold ksk_tree
  refine wpAny_bind (listItems_at cD rfl (wpAny_bind (listUpdate_at cD rfl ?_ (by rw [List.size_toArray]; exact hL) (Nat.zero_le _))))
  refine wpAny_bind (seqEpoch_at cD1 rfl (wpAny_bind (wpAny_newTuple ?_ hL)))
  refine wpAny_bind (wpAny_newList (wpAny_holding ?_) (Nat.zero_le _))
  have sz3 : (((PySem.W.copyHeap s.heap vs).update D (Obj.mapSeq fun _ => (#[] : Array Value))).push (seqObj "tuple" vs.toArray 0)).objs.size = s.heap.objs.size + 3 := by
    rw [size_push', Heap.size_update, copy_size]
  obtain ⟨S, hS⟩ : ∃ S, S = s.heap.objs.size + 3 := ⟨_, rfl⟩
  obtain ⟨h0, eh0⟩ : ∃ h0, h0 = (((PySem.W.copyHeap s.heap vs).update D (Obj.mapSeq fun _ => (#[] : Array Value))).push (seqObj "tuple" vs.toArray 0)).push (seqObj "list" #[] 0) := ⟨_, rfl⟩
  have hDS : S ≠ D := by omega
  rw [← hD, ← hS] at K fin
  have oD : D ∈ [D, S] := List.mem_cons_self
  have oS : S ∈ [D, S] := List.mem_cons_of_mem _ List.mem_cons_self
  have gS : h0.get? S = some (seqObj "list" #[] 0) := by
    rw [eh0, hS, ← sz3]; exact Heap.get?_push_size _ rfl
  have gD : h0.get? D = some (seqObj "list" #[] e1) := by
    rw [eh0]; exact Heap.get?_push_of_some _ (Heap.get?_push_of_some _ cD1)
  have kp0 : ∀ b o, s.heap.get? b = some o → h0.get? b = some o := fun b o e => by
    rw [eh0]
    refine Heap.get?_push_of_some _ (Heap.get?_push_of_some _ ?_)
    rw [Heap.get?_update_ne _ _ _ _ (Nat.ne_of_lt (Nat.lt_of_lt_of_le (Heap.lt_size e) (by rw [hD]; exact Nat.le_succ _)))]
    exact PySem.W.copyHeap_old e
  show wpAny (model prog w) A.in1.in1 (ksk_rest D f false vs.toArray e1 (.ref (((PySem.W.copyHeap s.heap vs).update D (Obj.mapSeq fun _ => (#[] : Array Value))).push (seqObj "tuple" vs.toArray 0)).objs.size)) _ E' { s with heap := (((PySem.W.copyHeap s.heap vs).update D (Obj.mapSeq fun _ => (#[] : Array Value))).push (seqObj "tuple" vs.toArray 0)).push (seqObj "list" #[] 0) }
  rw [sz3, ← hS, ← eh0]
  unfold ksk_rest
  refine wpAny_bind (wpAny_rule ?_)
  first
    | rw [List.forIn_toArray]
    | (rw [← Array.forIn_toList]; simp only [List.toList_toArray])
  refine wpAny_bind (ksk_fold (fun i s' => ∃ ks c, ks.length = i ∧ J ks s' ∧ s'.heap.get? S = some (seqObj "list" (List.toArray ks) c) ∧ s'.heap.get? D = some (seqObj "list" #[] e1)) vs 0 _ ⟨[], 0, rfl, j0 h0 _ kp0, gS, gD⟩ (fun j x s' hx ⟨ks, c, hl2, hj, k1, k2⟩ => ?_) (fun s' ⟨ks, c, hl2, hj, k1, k2⟩ => ?_))
  · have hlt : j < vs.length := (List.getElem?_eq_some_iff.mp hx).1
    have hl2 : ks.length = j := by omega
    obtain ⟨xv, hxv, rxv⟩ := paired_get hv hx
    refine wpAny_bind (wpAny_attempt (wpAny_mono (K.turn ks xv x s' (by rw [hl2]; exact hxv) rxv hj fun b hb => ?_) (fun kv s2 ⟨hj2, ko⟩ => ?_) fun _ _ z => z.elim))
    · rcases List.mem_cons.mp hb with rfl | hb
      · exact ⟨_, k2⟩
      · rw [List.mem_singleton.mp hb]; exact ⟨_, k1⟩
    have k3 := ko S _ oS k1
    have k4 := ko D _ oD k2
    have cut : (List.toArray ks).size ≤ sizeLine := by rw [List.size_toArray]; omega
    refine wpAny_bind (listUpdate_at k3 rfl ?_ cut (by rw [Array.size_push]; exact Nat.succ_le_succ cut))
    have sb := Heap.SameBut.update s2.heap S (Obj.mapSeq (·.push kv))
    obtain ⟨c2, hc2⟩ : ∃ c2, (s2.heap.update S (Obj.mapSeq (·.push kv))).get? S = some (seqObj "list" ((List.toArray ks).push kv) c2) := ⟨_, get?_update_seq k3 (·.push kv)⟩
    refine wpAny_pure ⟨rfl, ks ++ [kv], c2, by rw [List.length_append, List.length_singleton]; omega, K.stay _ _ _ s2.toks hj2 (fun b o nb e => (sb.2 b fun z => nb (z ▸ oS)).trans e), ?_, (sb.2 D hDS.symm).trans k4⟩
    rw [hc2, List.push_toArray]
  · have hl2 : ks.length = vs.length := by omega
    refine wpAny_bind (listItems_at k1 rfl ?_)
    have rd := K.read ks s' hj
    rw [hl2, ← hk, List.take_length] at rd
    obtain ⟨g, g1, g2⟩ := L2.restrict s'.heap fun b => decide (b ≠ S)
    have gn : g.get? S = none := g2 S (by simp)
    have gk : ∀ b, b ≠ S → g.get? b = s'.heap.get? b := fun b n => g1 b (by simpa using n)
    have kb : PySem.W.KeepsBut D g s'.heap := fun b o nb e => by
      rw [← gk b (fun z => by rw [z, gn] at e; cases e)]; exact e
    refine PySem.W.keyH_end (κ := PySem.W.dataKind s'.heap kz) (h₁ := g) kb gn k1 k2 hDS (PySem.W.SortsAt.data (s := s') rd hal hsk (fun d hd => hu d hd)) (by rw [List.size_toArray]; exact hl2) hL fun h' tk c' kk hh => ⟨rfl, ?_⟩
    exact fin ks s' h' tk _ c' hj (fun b o nb e => kk b o (fun z => nb (z ▸ oD)) (by rw [gk b fun z => nb (z ▸ oS)]; exact e)) hh ⟨s'.heap, ks, hal, rfl, rd⟩
theorem each_get {R : Value → PyData → Prop} {as : List Value} {bs : List PyData} (e : EachIs R as bs) : ∀ {i : Nat} {a : Value}, as[i]? = some a → ∃ b, bs[i]? = some b ∧ R a b := by
  induction e with
  | nil => intro i a h; simp at h
  | cons r _ ih =>
    intro i a h
    cases i with
    | zero => simp at h; subst h; exact ⟨_, rfl, r⟩
    | succ i => exact ih (by simpa using h)
/-- the place of the first of the least -/
def bestK (kz : List PyData) : Nat → Nat
  | 0 => 0
  | j + 1 => if PySem.W.dataLt (kz.getD (j + 1) .none) (kz.getD (bestK kz j) .none) = true then j + 1 else bestK kz j
theorem best_le (kz : List PyData) : ∀ j, bestK kz j ≤ j
  | 0 => Nat.le_refl _
  | j + 1 => by
    unfold bestK
    split
    · exact Nat.le_refl _
    · exact Nat.le_succ_of_le (best_le kz j)
/-- the loop of min, j + 1 items behind it -/
theorem min_loop {l I S : Addr} {f : Addr} {xs : List V} {kz : List PyData} {J : List Value → Shared → Prop} {R : Result → Shared → Prop} (hh : A.handled = none) (hIS : I ≠ S) (hlI : l ≠ I) (hk : kz.length = xs.length) (hal : AllAlike kz) (hn : ∀ d ∈ kz, d ≠ .none) (hu : ∀ d ∈ kz, A.units + 1 + d.depth < cLine)
    (walk : ∀ ks s, J ks s → ∃ its, L2.Vals xs its ∧ s.heap.IsList l its.toArray) (K : KeySt prog w A.in1 [I, S] (.ref f) xs kz J)
    (fin : ∀ ks i x v s', xs[bestK kz (xs.length - 1)]? = some x → L2.RelV x v → J ks s' → i = 0 → R (.ok (.ret v)) s') :
    ∀ (r j : Nat) (ks : List Value) (x : V) (vb kb : Value) (s : Shared) (c : Nat), xs.length - (j + 1) = r → j + 1 ≤ xs.length → ks.length = j + 1 → J ks s → s.heap.IsListIter I l (j + 1) → xs[bestK kz j]? = some x → L2.RelV x vb → ks[bestK kz j]? = some kb →
      s.heap.get? S = some (seqObj "list" #[vb, kb] c) → codeAny (model prog w) A (.builtin "min.loop" ⟨[.ref I, .ref f, .ref S], []⟩) R s := by
  have nm : (toString "min" ++ toString ".loop" : String) = "min.loop" := by decide
  have oI : I ∈ [I, S] := List.mem_cons_self
  have oS : S ∈ [I, S] := List.mem_cons_of_mem _ List.mem_cons_self
  intro r
  induction r with
  | zero =>
    intro j ks x vb kb s c hr hj hks hJ hit hx rx hkb gS
    obtain ⟨its, rv, hl⟩ := walk ks s hJ
    have hz := rv.length
    refine codeAny_builtin F.entry_min_loop ?_
    rw [Around.under_plainId F.plain_min_loop _]
    show wpAny _ A.in1 (seqItems? (.ref S) >>= _) _ _ s
    refine wpAny_bind (wpAny_seqItems gS rfl ?_)
    show wpAny _ A.in1 (tryCatch (pyNext (.ref I)) _ >>= _) _ _ s
    refine wpAny_bind (wpAny_tryCatch (wpAny_pyNext_list_end hh hit hl (by simp; omega) fun h1 k1 => ?_))
    have gS1 := k1 S _ hIS.symm gS
    show wpAny _ A.in1 (updateSeq S (fun _ => #[]) >>= _) _ _ _
    refine wpAny_bind (wpAny_updateSeq gS1 rfl (wpAny_bind (wpAny_letGo (wpAny_pure ?_))))
    have sb := Heap.SameBut.update h1 S (Obj.mapSeq fun _ => (#[] : Array Value))
    refine fin ks 0 x vb _ (by rw [← show j = xs.length - 1 by omega]; exact hx) rx (K.stay _ s _ s.toks hJ fun b o nb e => ?_) rfl
    exact (sb.2 b fun z => nb (z ▸ oS)).trans (k1 b o (fun z => nb (z ▸ oI)) e)
  | succ r ih =>
    intro j ks x vb kb s c hr hj hks hJ hit hx rx hkb gS
    have hlt : j + 1 < xs.length := by omega
    obtain ⟨its, rv, hl⟩ := walk ks s hJ
    obtain ⟨x2, ex2⟩ : ∃ y, xs[j + 1]? = some y := ⟨_, List.getElem?_eq_getElem hlt⟩
    obtain ⟨v2, ev2, rx2⟩ := L2.Vals.get rv ex2
    refine codeAny_builtin F.entry_min_loop ?_
    rw [Around.under_plainId F.plain_min_loop _]
    show wpAny _ A.in1 (seqItems? (.ref S) >>= _) _ _ s
    refine wpAny_bind (wpAny_seqItems gS rfl ?_)
    show wpAny _ A.in1 (tryCatch (pyNext (.ref I)) _ >>= _) _ _ s
    refine wpAny_bind (wpAny_tryCatch (wpAny_pyNext_list_item hit hl (x := v2) (by simpa using ev2) fun h1 hit1 sb1 => ?_))
    have gS1 := (sb1.2 S hIS.symm).trans gS
    have hJ1 := K.stay _ s h1 s.toks hJ fun b o nb e => (sb1.2 b fun z => nb (z ▸ oI)).trans e
    obtain ⟨oi, goi, ci, di⟩ := id hit1
    show wpAny _ A.in1 (tryCatch (holding [v2] (call (.ref f) [v2])) _ >>= _) _ _ _
    refine wpAny_bind (wpAny_tryCatch (wpAny_holding (wpAny_mono (K.turn ks x2 v2 _ (by rw [hks]; exact ex2) rx2 hJ1 fun b hb => ?_) (fun k2 s2 ⟨hJ2, ko⟩ => ?_) fun _ _ z => z.elim)))
    · rcases List.mem_cons.mp hb with rfl | hb
      · exact ⟨_, goi⟩
      · rw [List.mem_singleton.mp hb]; exact ⟨_, gS1⟩
    have gS2 := ko S _ oS gS1
    have hit2 : s2.heap.IsListIter I l (j + 1 + 1) := ⟨oi, ko I _ oI goi, ci, di⟩
    have rd := K.read _ s2 hJ2
    have bl := best_le kz j
    have l2 : (ks ++ [k2]).length = j + 2 := by rw [List.length_append, List.length_singleton]; omega
    obtain ⟨da, ea, as, ra⟩ := each_get rd (i := j + 1) (a := k2) (by rw [List.getElem?_append_right (by omega), hks]; simp)
    obtain ⟨db, eb, bs, rb⟩ := each_get rd (i := bestK kz j) (a := kb) (by rw [List.getElem?_append_left (by omega)]; exact hkb)
    rw [l2, List.getElem?_take_of_lt (by omega)] at ea eb
    have ma := List.mem_of_getElem? ea
    have mb := List.mem_of_getElem? eb
    have eba : kz.getD (j + 1) .none = da := by rw [List.getD_eq_getElem?_getD, ea]; rfl
    have ebb : kz.getD (bestK kz j) .none = db := by rw [List.getD_eq_getElem?_getD, eb]; rfl
    show wpAny _ A.in1 (tryCatch (holding [v2, k2] (richCompare .Lt k2 kb >>= _)) _ >>= _) _ _ _
    refine wpAny_bind (wpAny_tryCatch (wpAny_holding (wpAny_bind (PySem.W.lt_data ra rb (hal _ ma _ mb) (hn _ ma) (Nat.lt_of_le_of_lt (Nat.add_le_add_left (Nat.min_le_left _ _) _) (hu _ ma)) ?_))))
    refine wpAny_bind (wpAny_holding (wpAny_truthy_bool ?_))
    refine wpAny_bind (wpAny_letGo (wpAny_pure ?_))
    have step : bestK kz (j + 1) = if PySem.W.dataLt da db = true then j + 1 else bestK kz j := by rw [← eba, ← ebb]; rfl
    cases hb : PySem.W.dataLt da db with
    | true =>
      rw [hb, if_pos rfl] at step
      simp only [if_true]
      refine wpAny_bind (wpAny_updateSeq gS2 rfl (wpAny_bind (wpAny_letGo ?_)))
      rw [nm]
      have sb := Heap.SameBut.update s2.heap S (Obj.mapSeq fun _ => #[v2, k2])
      obtain ⟨c2, hc2⟩ : ∃ c2, (s2.heap.update S (Obj.mapSeq fun _ => #[v2, k2])).get? S = some (seqObj "list" #[v2, k2] c2) := ⟨_, get?_update_seq gS2 fun _ => #[v2, k2]⟩
      refine wpAny_pure ⟨plainId_quiet F.plain_min_loop _, ih (j + 1) (ks ++ [k2]) x2 v2 k2 _ c2 (by omega) hlt l2 (K.stay _ s2 _ s2.toks hJ2 fun b o nb e => (sb.2 b fun z => nb (z ▸ oS)).trans e) ⟨oi, (sb.2 I hIS).trans hit2.choose_spec.1 |>.trans ?_, ci, di⟩ (by rw [step]; exact ex2) rx2 (by rw [step, List.getElem?_append_right (by omega), hks]; simp) hc2⟩
      rw [← hit2.choose_spec.1, ko I _ oI goi]
    | false =>
      rw [hb, if_neg (by decide)] at step
      simp only [Bool.false_eq_true, if_false]
      refine wpAny_bind (wpAny_letGo ?_)
      rw [nm]
      exact wpAny_pure ⟨plainId_quiet F.plain_min_loop _, ih (j + 1) (ks ++ [k2]) x vb kb s2 c (by omega) hlt l2 hJ2 hit2 (by rw [step]; exact hx) rx (by rw [step, List.getElem?_append_left (by omega)]; exact hkb) gS2⟩
/-- min(xs, key=f) -/
theorem min_run {l f : Addr} {xs : List V} {kz : List PyData} {J : List Value → Shared → Prop} {Q : Value → Shared → Prop} (hh : A.handled = none) (h0 : 0 < xs.length) (hk : kz.length = xs.length) (hal : AllAlike kz) (hn : ∀ d ∈ kz, d ≠ .none) (hu : ∀ d ∈ kz, A.units + 1 + d.depth < cLine)
    (hl : ∃ its, L2.Vals xs its ∧ s.heap.IsList l its.toArray) (j0 : ∀ h' tk, (∀ b o, s.heap.get? b = some o → h'.get? b = some o) → J [] { s with heap := h', toks := tk })
    (walk : ∀ ks s, J ks s → ∃ its, L2.Vals xs its ∧ s.heap.IsList l its.toArray) (K : KeySt prog w A.in1 [s.heap.objs.size, s.heap.objs.size + 1] (.ref f) xs kz J)
    (fin : ∀ ks x v s', xs[bestK kz (xs.length - 1)]? = some x → L2.RelV x v → J ks s' → Q v s') :
    wpAny (model prog w) A (call (.builtin "min") [.ref l] [(Str.ofString "key", .ref f)]) Q E s := by
  have nm : (toString "min" ++ toString ".loop" : String) = "min.loop" := by decide
  obtain ⟨its0, rv0, hl0⟩ := hl
  obtain ⟨ol, hol, _⟩ := id hl0
  have hll : l < s.heap.objs.size := Heap.lt_size hol
  refine kmk_tree F.kind_min F.plain_min F.entry_min (kmk_min_key _ _) ?_
  show wpAny _ A.in1 (Builtin.Builtins.bindParams "min" ["key", "default"] 0 ⟨[], [(Str.ofString "key", .ref f)]⟩ >>= _) _ _ s
  refine wpAny_bind (wpAny_of_eq (show _ = pure [some (.ref f), none] from rfl) (wpAny_bind (wpAny_pure ?_)))
  refine wpAny_bind (wpAny_pyIter_list hl0 (wpAny_bind (wpAny_newList ?_ (Nat.zero_le _))))
  rw [nm]
  refine wpAny_pure ⟨plainId_quiet F.plain_min_loop _, ?_⟩
  obtain ⟨I, hI⟩ : ∃ I, I = s.heap.objs.size := ⟨_, rfl⟩
  obtain ⟨S, hS⟩ : ∃ S, S = s.heap.objs.size + 1 := ⟨_, rfl⟩
  obtain ⟨h0', eh⟩ : ∃ g, g = (s.heap.push { cls := .type "list_iterator", data := .fields #[.ref l, .int 0 0] }).push (seqObj "list" #[] 0) := ⟨_, rfl⟩
  have sz : (s.heap.push { cls := .type "list_iterator", data := .fields #[.ref l, .int 0 0] }).objs.size = s.heap.objs.size + 1 := size_push' ..
  have gI : h0'.get? I = some { cls := .type "list_iterator", data := .fields #[.ref l, .int 0 0] } := by
    rw [eh, hI]; exact Heap.get?_push_of_some _ (Heap.get?_push_size _ rfl)
  have gS : h0'.get? S = some (seqObj "list" #[] 0) := by
    rw [eh, hS, ← sz]; exact Heap.get?_push_size _ rfl
  have kp : ∀ b o, s.heap.get? b = some o → h0'.get? b = some o := fun b o e => by
    rw [eh]; exact Heap.get?_push_of_some _ (Heap.get?_push_of_some _ e)
  show codeAny (model prog w) A (.builtin "min.loop" ⟨[.ref s.heap.objs.size, .ref f, .ref (s.heap.push { cls := .type "list_iterator", data := .fields #[.ref l, .int 0 0] }).objs.size], []⟩) _ { s with heap := (s.heap.push { cls := .type "list_iterator", data := .fields #[.ref l, .int 0 0] }).push (seqObj "list" #[] 0) }
  rw [sz, ← eh]
  rw [← hS, ← hI] at K ⊢
  have hIS : I ≠ S := by omega
  have hlI : l ≠ I := by rw [hI]; exact Nat.ne_of_lt hll
  have oI : I ∈ [I, S] := List.mem_cons_self
  have oS : S ∈ [I, S] := List.mem_cons_of_mem _ List.mem_cons_self
  have hJ := j0 h0' s.toks kp
  have hit : h0'.IsListIter I l 0 := ⟨_, gI, rfl, rfl⟩
  obtain ⟨its, rv, hl1⟩ := walk _ _ hJ
  obtain ⟨x2, ex2⟩ : ∃ y, xs[0]? = some y := ⟨_, List.getElem?_eq_getElem h0⟩
  obtain ⟨v2, ev2, rx2⟩ := L2.Vals.get rv ex2
  refine codeAny_builtin F.entry_min_loop ?_
  rw [Around.under_plainId F.plain_min_loop _]
  show wpAny _ A.in1 (seqItems? (.ref S) >>= _) _ _ _
  refine wpAny_bind (wpAny_seqItems gS rfl ?_)
  show wpAny _ A.in1 (tryCatch (pyNext (.ref I)) _ >>= _) _ _ _
  refine wpAny_bind (wpAny_tryCatch (wpAny_pyNext_list_item hit hl1 (x := v2) (by simpa using ev2) fun h1 hit1 sb1 => ?_))
  have gS1 := (sb1.2 S hIS.symm).trans gS
  have hJ1 := K.stay _ _ h1 s.toks hJ fun b o nb e => (sb1.2 b fun z => nb (z ▸ oI)).trans e
  obtain ⟨oi, goi, ci, di⟩ := id hit1
  show wpAny _ A.in1 (tryCatch (holding [v2] (call (.ref f) [v2])) _ >>= _) _ _ _
  refine wpAny_bind (wpAny_tryCatch (wpAny_holding (wpAny_mono (K.turn [] x2 v2 _ ex2 rx2 hJ1 fun b hb => ?_) (fun k2 s2 ⟨hJ2, ko⟩ => ?_) fun _ _ z => z.elim)))
  · rcases List.mem_cons.mp hb with rfl | hb
    · exact ⟨_, goi⟩
    · rw [List.mem_singleton.mp hb]; exact ⟨_, gS1⟩
  have gS2 := ko S _ oS gS1
  show wpAny _ A.in1 (updateSeq S (fun _ => #[v2, k2]) >>= _) _ _ _
  refine wpAny_bind (wpAny_updateSeq gS2 rfl ?_)
  rw [nm]
  have sb := Heap.SameBut.update s2.heap S (Obj.mapSeq fun _ => #[v2, k2])
  obtain ⟨c2, hc2⟩ : ∃ c2, (s2.heap.update S (Obj.mapSeq fun _ => #[v2, k2])).get? S = some (seqObj "list" #[v2, k2] c2) := ⟨_, get?_update_seq gS2 fun _ => #[v2, k2]⟩
  exact wpAny_pure ⟨plainId_quiet F.plain_min_loop _, min_loop hh hIS hlI hk hal hn hu walk K (fun ks i x v s' e r hj _ => fin ks x v s' e r hj) _ 0 [k2] x2 v2 k2 _ c2 rfl h0 rfl (K.stay _ s2 _ s2.toks hJ2 fun b o nb e => (sb.2 b fun z => nb (z ▸ oS)).trans e) ⟨oi, (sb.2 I hIS).trans (ko I _ oI goi), ci, di⟩ ex2 rx2 rfl hc2⟩
end
end DL

/-! # lambdas of one parameter, handed to sorted and min -/
namespace DL
variable [Tbs]
open PySem PySem.Spec PySem.Calls PyProof.Rows L2 LamX NdefX
section
variable {X : Cx} {pins : List (Addr × Obj)} {σ : L2.St} {H : Hp} {s : Shared}
theorem keep_code {P c : Addr} {q : Str} {ps ps' : Array Value} (hP : H P = some (.tbl ps)) (nc : H c = none) : Keep H (upd (upd H P (.tbl ps')) c (CodeO c q)) := by
  refine ⟨fun b o e n => ?_, fun b e => ?_⟩
  · rw [upd_ne (ne_of_none e nc), upd_ne (fun z => n ps (by rw [z, hP] at e; exact (Option.some.inj e).symm))]
    exact e
  · by_cases h1 : b = c
    · rw [h1, upd_same]; exact fun z => nomatch z
    · rw [upd_ne h1]
      by_cases h2 : b = P
      · rw [h2, upd_same]; exact fun z => nomatch z
      · rw [upd_ne h2]; exact e
/-- a lambda is made -/
theorem lam_mk {c P : Addr} {params : Arguments} {body : Expr} {scope : Scope} {pos : Pos} {E Q : Value → Shared → Prop} (I : Inv X pins σ H s) (TB : TabB X.base X.mg c P) (hcode : X.env.code = .ref c) (hm : (P, X.env.qual ++ "<lambda>") ∈ Tbs.T) (hu : ∀ p ∈ Tbs.T, p.1 = P → p.2 = X.env.qual ++ "<lambda>") (hT : Tabs H)
    (hdef : defaultsOf params X.env = ([], [])) (hfree : ∀ y ∈ scope.names, y.2 = .free → ∃ c, X.env.cells.lookup y.1 = some c)
    (h : ∀ (f c' : Addr) (pm ctv : Value) (H1 : Hp) (s' : Shared), Inv X pins σ H1 s' → Keep H H1 → Tabs H1 → s'.heap.get? f = some (PySem.W.kla_obj "<lambda>" (X.env.qual ++ "<lambda>") params body scope (cloFrom X.env.cells scope.names []) pm c' ctv) →
      H1 f = none → f ∉ frs X.stack → H1 c' = some (CodeO c' (X.env.qual ++ "<lambda>")) → Q (.ref f) s') : wpAny (model X.prog X.w) X.A (eval (.Lambda params body scope pos) X.env) Q E s := by
  obtain ⟨ps, hP, triples, known⟩ := hT _ hm
  have bP := TB.bm.keeps I.bk
  have oP : s.heap.get? P = some { cls := .none, data := .fields ps } := I.hok P _ hP
  have far : ∀ f, s.heap.objs.size ≤ f → f ∉ frs X.stack := fun f hf z => by
    rcases List.mem_cons.mp (I.stkSub _ z) with e | e
    · have lt := I.lt
      rw [← e] at lt
      exact absurd (Nat.lt_of_lt_of_le lt hf) (Nat.lt_irrefl _)
    · exact I.nofs hf e
  refine PySem.W.kla_eval hdef ?_
  cases hc : codeAmong pos ps.toList with
  | some cv =>
    obtain ⟨c', rfl, hco⟩ := known pos cv hc
    exact PySem.W.kla_makeFunctionHit (mg := X.mg) (c := c) (P := P) (ps := ps) (closure_ok hfree) I.ok.glob (I.mod.glob.keeps I.bk) hcode (TB.code.keeps I.bk) oP triples hc bP fun ctv h' tk hx hsz =>
      h h'.objs.size c' _ ctv H _ (I.kept fun b o e => Heap.get?_push_of_some _ (hx b o e)) (.refl H) hT (Heap.get?_push_size _ rfl) (I.hok.fresh hsz) (far _ hsz) hco
  | none =>
    refine PySem.W.kla_makeFunction (mg := X.mg) (c := c) (P := P) (ps := ps) (closure_ok hfree) I.ok.glob (I.mod.glob.keeps I.bk) hcode (TB.code.keeps I.bk) oP triples hc TB.gP bP fun c' ctv h' tk hx hge hlt hrec htb => ?_
    obtain ⟨c2, oc, vs, t, ec, hoc, hd, hv⟩ := hrec
    obtain rfl : c' = c2 := by injection ec
    have old : s.heap.objs.size ≤ h'.objs.size := Nat.le_trans hge (Nat.le_of_lt hlt)
    have nC : H c' = none := I.hok.fresh hge
    have nPc : P ≠ c' := ne_of_none hP nC
    have J := inv_table (t' := tk) (more := #[rawInt pos.line, rawInt pos.col, .ref c']) (h' := h'.push (PySem.W.kla_obj "<lambda>" (X.env.qual ++ "<lambda>") params body scope (cloFrom X.env.cells scope.names []) ((X.mg "__name__").getD .none) c' ctv)) I hP
      (fun b o hb e => Heap.get?_push_of_some _ (hx b o hb e)) (Heap.get?_push_of_some _ htb) hge ⟨oc, vs, t, Heap.get?_push_of_some _ hoc, hd, hv⟩
    have kk := keep_code (q := X.env.qual ++ "<lambda>") (ps' := ps ++ #[rawInt pos.line, rawInt pos.col, .ref c']) hP nC
    have stay : ∀ d q, H d = some (CodeO d q) → upd (upd H P (.tbl (ps ++ #[rawInt pos.line, rawInt pos.col, .ref c']))) c' (CodeO c' (X.env.qual ++ "<lambda>")) d = some (CodeO d q) := fun d q e => kk.k _ _ e LamX.codeO_ne
    refine h h'.objs.size c' _ ctv _ _ J kk (fun p hp => ?_) (Heap.get?_push_size _ rfl) ?_ (far _ old) upd_same
    · by_cases hb : p.1 = P
      · rw [hu p hp hb, hb]
        refine ⟨_, by rw [upd_ne nPc, upd_same], ?_, fun p' cv hcv => ?_⟩
        · rw [Array.toList_append]; exact PySem.TriplesOk_snoc _ _ _ _ triples
        · rw [Array.toList_append] at hcv
          rcases among_app _ triples hcv with z | z
          · obtain ⟨d, e1, e2⟩ := known p' cv z
            exact ⟨d, e1, stay _ _ e2⟩
          · exact ⟨c', z, upd_same⟩
      · obtain ⟨qs, a1, a2, a3⟩ := hT p hp
        refine ⟨qs, by rw [upd_ne (ne_of_none a1 nC), upd_ne hb]; exact a1, a2, fun p' cv hcv => ?_⟩
        obtain ⟨d, e1, e2⟩ := a3 p' cv hcv
        exact ⟨d, e1, stay _ _ e2⟩
    · rw [upd_ne (Nat.ne_of_gt hlt), upd_ne (Nat.ne_of_gt (Nat.lt_of_lt_of_le (Heap.lt_size oP) old))]
      exact I.hok.fresh old
/-- cells that a built-in function lays for itself while it runs -/
structure Cells (X : Cx) (pins : List (Addr × Obj)) (ow : List Addr) : Prop where
  up : ∀ b ∈ ow, X.s_0.heap.objs.size ≤ b
  loc : ∀ b ∈ ow, b ≠ X.env.locals
  cel : ∀ b ∈ ow, ∀ x c, X.env.cells.lookup x = some c → c ≠ b
  pin : ∀ b ∈ ow, ∀ p ∈ X.pn ++ pins, p.1 ≠ b
  frs : ∀ b ∈ ow, b ∉ frs X.stack
theorem cells_mk (I : L2.Inv X pins σ H s) {ow : List Addr} (h : ∀ b ∈ ow, s.heap.objs.size ≤ b) : Cells X pins ow := by
  have far : ∀ {b c : Nat}, c < s.heap.objs.size → b ∈ ow → c ≠ b := fun {b c} l m e => by
    have := h b m
    have : s.heap.objs.size ≤ c := by rw [e]; exact this
    exact absurd (Nat.lt_of_lt_of_le l this) (Nat.lt_irrefl _)
  refine ⟨fun b m => Nat.le_trans I.sz (h b m), fun b m e => far I.lt m e.symm, fun b m x c e => ?_, fun b m p hp => far (Heap.lt_size (I.pin p hp).1) m, fun b m z => ?_⟩
  · obtain ⟨v, o, ho, _⟩ := I.cell x c e
    exact far (Heap.lt_size ho) m
  · rcases List.mem_cons.mp (I.stkSub _ z) with e | e
    · exact far I.lt m e.symm
    · exact I.nofs (h b m) e
theorem inv_moved {ow : List Addr} {h' : Heap} {tk : Nat} (I : L2.Inv X pins σ H s) (C : Cells X pins ow) (hn : ∀ b ∈ ow, H b = none) (k : ∀ b o, b ∉ ow → s.heap.get? b = some o → h'.get? b = some o) : L2.Inv X pins σ H { s with heap := h', toks := tk } := by
  have no : ∀ {b u}, H b = some u → b ∉ ow := fun {b u} e m => by rw [hn b m] at e; cases e
  refine I.step (g' := s.gens) (d' := s.drawn) (ch := ow) (fun b m => ⟨.inr (C.up b m), C.loc b m, C.cel b m, C.pin b m⟩) (fun b o _ _ m e _ => k b o m e) (fun b o _ _ m e _ => ⟨o.slots, k b o m e⟩) (fun _ _ _ _ n => n) (fun b o m e => ⟨o, k b o m e⟩) (fun _ _ e => e) (fun _ _ _ e => e) (fun b ps e => ⟨#[], by rw [e]; simp⟩) (fun m hm => ?_) (fun b u e => ?_) I.bare
  · obtain ⟨o, es, ep, ho, r⟩ := hm
    exact ⟨o, es, ep, k _ o (fun z => C.loc _ z rfl) ho, r⟩
  · exact (I.hok b u e).stay (fun c v hc q => k c v (hc.elim (fun z => by rw [z]; exact no e) no) q) (fun _ q => q) fun _ _ q => q
theorem inv_told {ow : List Addr} {h' : Heap} {tk : Nat} {D : Addr} {o : HO} (I : L2.Inv X pins σ H s) (C : Cells X pins ow) (hn : ∀ b ∈ ow, H b = none) (k : ∀ b o, b ∉ ow → s.heap.get? b = some o → h'.get? b = some o) (mD : D ∈ ow) (new : ObjOk X.prog X.w (upd H D o) h' D o) : L2.Inv X pins σ (upd H D o) { s with heap := h', toks := tk } := by
  have nD := hn D mD
  have no : ∀ {b u}, H b = some u → b ∉ ow := fun {b u} e m => by rw [hn b m] at e; cases e
  have at_ : ∀ {b u}, H b = some u → upd H D o b = some u := fun {b u} e => by rw [upd_ne (ne_of_none e nD)]; exact e
  refine I.step (g' := s.gens) (d' := s.drawn) (ch := ow) (fun b m => ⟨.inr (C.up b m), C.loc b m, C.cel b m, C.pin b m⟩) (fun b o _ _ m e _ => k b o m e) (fun b o _ _ m e _ => ⟨o.slots, k b o m e⟩) (fun b _ m _ n => by rw [upd_ne fun z => m (by rw [z]; exact mD)]; exact n) (fun b o m e => ⟨o, k b o m e⟩) (fun _ _ e => at_ e) (fun _ _ _ e => at_ e) (fun b ps e => ⟨#[], by rw [at_ e]; simp⟩) (fun m hm => ?_) (fun b u e => ?_) I.bare
  · obtain ⟨o, es, ep, ho, r⟩ := hm
    exact ⟨o, es, ep, k _ o (fun z => C.loc _ z rfl) ho, r⟩
  · by_cases z : b = D
    · subst z
      rw [upd_same] at e
      rw [← Option.some.inj e]; exact new
    · rw [upd_ne z] at e
      exact (I.hok b u e).stay (fun c v hc q => k c v (hc.elim (fun z => by rw [z]; exact no e) no) q) (fun _ q => at_ q) fun _ _ q => at_ q
end
/-! ## the call -/
section
variable {P : Program} {w : World} {K : PySem.W.Frag} {mg : Str → Option Value} {base : Heap} {N fr : List Str} {f : Addr} {k : Nat} {px : Str}
def lamN (qual : Str) (params : Arguments) (scope : Scope) (cl : List (Str × Addr)) (c : Addr) : NF := ⟨"<lambda>", qual, params, [], scope, cl, c⟩
theorem lam_call {CX : CXT} {qual : Str} {params : Arguments} {body : Expr} {scope : Scope} {cl : List (Str × Addr)} {c' : Addr} {pm ctv u : Value} {tb : TE} {A : Around} {outer : List Env} {s : Shared} {H : Hp} {v : V} {ws : List (Option V)} {Q : VK} {E : XK}
    (S : NScope N [px] fr scope) (hb : bindArgs (PySem.W.kla_fn "<lambda>" qual params body scope cl pm (.ref c') ctv) ⟨[u], []⟩ = pure [(px, u)]) (hr : Ro (k + 1) A) (e0 : Env0 P w K mg base A outer s H)
    (ho : s.heap.get? f = some (PySem.W.kla_obj "<lambda>" qual params body scope cl pm c' ctv)) (hc : H c' = some (CodeO c' qual)) (C : CellsAt cl fr ws s.heap H) (rv : L2.RelV v u)
    (hbody : Ro k (A.deeper (envF (lamN qual params scope cl c') f s.heap.objs.size)) → PE (ncx CX P w K mg base N (lamN qual params scope cl c') f A outer s H E) body tb) (hq : tb (startF N [v] ws) H Q) :
    codeAny (model P w) A (.call (.ref f) ⟨[u], []⟩) (CR CX outer P w H s Q E) s := by
  have noLim := e0.mod.nolimit.keeps fun b o e => (e0.bs b o e).1
  refine PySem.W.kla_callFunE (by have := hr.dp; omega) ho rfl S.co S.gen rfl (codeO_at e0.hok hc) ?_
  rw [show bindArgs _ ⟨[u], []⟩ = pure [(px, u)] from hb]
  have vis : ∀ y ∈ [(px, u)], scope.names.lookup y.1 = some .local := fun y hy => by
    rw [List.mem_singleton.mp hy]; exact S.par px List.mem_cons_self
  refine wpAny_pure (wpAny_newFunctionEnv S.nocell vis (fun h1 hns hsb => ⟨noLim.fresh _ hsb, ?_⟩) S.kind)
  have kp : ∀ b o, s.heap.get? b = some o → h1.get? b = some o := fun b o e => hsb.extBut b o (Nat.ne_of_lt (Heap.lt_size e)) (Heap.get?_push_of_some _ e)
  have I : L2.Inv (ncx CX P w K mg base N (lamN qual params scope cl c') f A outer s H E) [] (startF N [v] ws) H { s with heap := h1, toks := s.toks + ([px].zip [u]).length } := inv_startN S hr.hd e0 rfl (.cons rv .nil) C hns kp
  show codeAny _ _ (.expr body (envF (lamN qual params scope cl c') f s.heap.objs.size)) _ _
  refine PySem.W.kla_codeExpr (wpAny_mono ((hbody (hr.inner _)).run [] _ _ H Q I hq) (fun z s' ⟨w', H', J, rz, q⟩ => ?_) fun _ _ hz => hz)
  exact ⟨w', H', J.os, J.bare, J.base, J.hok, rz, q⟩
end
/-! ## the rule -/
def dlam (n : Nat) (δ : List Sl) (js : List Nat) (y : D) : List Sl := .d y :: (js.map (fun j => keepS (sl δ j)) ++ List.replicate (n - 1 - js.length) .no)
section
variable {K : PySem.W.Frag}
theorem sta_lam {Hb H : Hp} {B O : List Addr} {σ : L2.St} {δ : List Sl} {N : List Str} {x : V} {y : D} {js : List Nat} (S : Sta K Hb B O H σ δ) (ax : At K (hid O H) x y) (hl : 1 + js.length ≤ N.length) : Sta K H O O H (startF N [x] (js.map (NdefX.slotAt σ))) (dlam N.length δ js y) := by
  have own0 : ∀ i, isOwn (sl (dlam N.length δ js y) i) = true → False := by
    have : ∀ (l : List Sl), (∀ s ∈ l, isOwn s = false) → ∀ i, isOwn (sl l i) = true → False := fun l => by
      induction l with
      | nil => intro _ i h; cases i <;> exact absurd h (by simp [sl, isOwn])
      | cons s l ih =>
        intro hs i h
        cases i with
        | zero => rw [show sl (s :: l) 0 = s from rfl, hs s List.mem_cons_self] at h; cases h
        | succ i => exact ih (fun t ht => hs t (List.mem_cons_of_mem _ ht)) i h
    refine this _ fun s hs => ?_
    rcases List.mem_cons.mp hs with rfl | hs
    · rfl
    · rcases List.mem_append.mp hs with hs | hs
      · obtain ⟨j, _, rfl⟩ := List.mem_map.mp hs
        cases sl δ j <;> rfl
      · rw [(List.mem_replicate.mp hs).2]; rfl
  have go : ∀ js : List Nat, ∀ i, SlOk K H O H ((js.map (NdefX.slotAt σ) ++ List.replicate (N.length - 1 - (js.map (NdefX.slotAt σ)).length) none)[i]?) (sl (js.map (fun j => keepS (sl δ j)) ++ List.replicate (N.length - 1 - js.length) .no) i) := by
    intro js
    rw [List.length_map]
    generalize N.length - 1 - js.length = m
    induction js with
    | nil => exact slok_no _ m
    | cons j js ih =>
      refine slok_cons (s := keepS (sl δ j)) ?_ ih
      have a := S.at_ j
      cases e : sl δ j with
      | d z =>
        rw [e] at a
        obtain ⟨v, h1, h2⟩ := a
        exact ⟨v, by unfold NdefX.slotAt; rw [h1], h2⟩
      | no => exact trivial
      | own _ => exact trivial
      | owk _ _ => exact trivial
      | ownA _ _ => exact trivial
  refine ⟨?_, .refl H, S.tab, fun _ h => h, S.live, S.live, fun _ h => .inl h, slok_cons ⟨x, rfl, ax⟩ (go js), fun i j q h => (own0 i h).elim⟩
  unfold startF dlam
  simp only [List.length_append, List.length_map, List.length_cons, List.length_nil, List.length_replicate]
  omega
end
/-- what stands while keys are made -/
def JK (X : Cx) (pins : List (Addr × Obj)) (σ : L2.St) (O : List Addr) (H3 : Hp) (f : Addr) (fo : Obj) (ow : List Addr) (kd : List D) (ks : List Value) (s : Shared) : Prop :=
  ∃ H' vs', L2.Inv X pins σ H' s ∧ Same H3 H' ∧ (∀ b ∈ ow, H' b = none) ∧ s.heap.get? f = some fo ∧ H' f = none ∧ L2.Vals vs' ks ∧ AtAll X.K (hid O H') vs' (kd.take ks.length)
section
variable {X : Cx} {pins : List (Addr × Obj)} {σ : L2.St} {H3 Hb : Hp} {B O : List Addr} {δ : List Sl}
theorem reads_of {s : Shared} {H : Hp} (I : L2.Inv X pins σ H s) : ∀ {vs : List V} {ks : List Value} {kd : List D}, L2.Vals vs ks → AtAll X.K (hid O H) vs kd → (∀ d ∈ kd, isDat d = true) → PySem.W.EachIs (fun v k => ∃ as, Reads s.heap v k as) ks (kd.map toP)
  | _, _, _, .nil, a, _ => by cases a; exact .nil
  | _, _, _, .cons r rv, a, dt => by
    cases a with
    | cons a b => exact .cons (Dp.reads I _ _ _ ((a.mono hid_out).dp (dt _ List.mem_cons_self)) r) (reads_of I rv b fun d hd => dt d (List.mem_cons_of_mem _ hd))
theorem keySt_mk {ow : List Addr} {A1 : Around} {Nl fr : List Str} {px : Str} {params : Arguments} {body : Expr} {scope : Scope} {f c' : Addr} {pm ctv : Value} {js : List Nat} {xb : DX} {k : Nat} {xs : List V} {l : List D} {key : D → D} (C : Cells X pins ow) (S3 : Sta X.K Hb B O H3 σ δ)
    (hA : ∀ s' H', Env0 X.prog X.w X.K X.mg X.base X.A X.stack s' H' → Env0 X.prog X.w X.K X.mg X.base A1 X.stack s' H') (hr : Ro (k + 1) A1) (nf : f ∉ frs X.stack) (fow : f ∉ ow) (cps : Caps X (cloFrom X.env.cells scope.names []) fr js)
    (hc3 : H3 c' = some (CodeO c' (X.env.qual ++ "<lambda>"))) (Sl : NScope Nl [px] fr scope) (hjl : js.length = fr.length) (hbind : ∀ (q : Str) (cl : List (Str × Addr)) (pm cv ctv u : Value), bindArgs (PySem.W.kla_fn "<lambda>" q params body scope cl pm cv ctv) ⟨[u], []⟩ = pure [(px, u)])
    (hbody : ∀ (cl : List (Str × Addr)) (c' f : Addr) (A : Around) (outer : List Env) (s : Shared) (H : Hp), Ro k (A.deeper (envF (lamN (X.env.qual ++ "<lambda>") params scope cl c') f s.heap.objs.size)) →
      PD (ncx (fun _ _ _ _ _ _ => False) X.prog X.w X.K X.mg X.base Nl (lamN (X.env.qual ++ "<lambda>") params scope cl c') f A outer s H (fun _ _ _ => False)) X.K body xb)
    (ax : AtAll X.K (hid O H3) xs l) (hkey : ∀ y ∈ l, ∀ Q : D → Prop, Q (key y) → xb (dlam Nl.length δ js y) Q) (dat : ∀ d ∈ l.map key, isDat d = true) :
    KeySt X.prog X.w A1 ow (.ref f) xs ((l.map key).map toP) (JK X pins σ O H3 f (PySem.W.kla_obj "<lambda>" (X.env.qual ++ "<lambda>") params body scope (cloFrom X.env.cells scope.names []) pm c' ctv) ow (l.map key)) := by
  have lN : 1 + js.length ≤ Nl.length := by
    have := congrArg List.length Sl.pre
    rw [List.length_take, List.length_append, List.length_singleton] at this
    omega
  refine ⟨fun ks s h' tk ⟨H', vs', I, s1, no, gf, nf', rv, at'⟩ kp => ⟨H', vs', inv_moved I C no kp, s1, no, kp _ _ fow gf, nf', rv, at'⟩, fun ks x v s' hx rx ⟨H', vs', I, s1, no, gf, nf', rv, at'⟩ ex => ?_, fun ks s ⟨H', vs', I, s1, no, gf, nf', rv, at'⟩ => ?_⟩
  · obtain ⟨y, ey, ay⟩ := ax.get hx
    have ay := ay.mono (hid_same s1)
    have my : y ∈ l := List.mem_of_getElem? ey
    refine wpAny_call (codeAny_mono (lam_call (CX := fun _ _ _ _ _ _ => False) (E := fun _ _ _ => False) (Q := fun v' H2 => Same H' H2 ∧ At X.K (hid O H2) v' (key y)) Sl (hbind _ _ _ _ _ _) hr (hA _ _ I.env0) gf (s1.at hc3 LamX.codeO_ne) (cells_of I cps) rx (fun hr2 => (hbody _ _ _ _ _ _ _ hr2).pe) ⟨H', O, O, _, sta_lam (S3.grow s1) ay lN, hkey y my _ fun v' H2 s2 a2 => ⟨s2, a2⟩⟩) fun r s2 hq => ?_)
    match r, hq with
    | .error e, hq => exact hq.elim
    | .ok .next, hq => exact hq.elim
    | .ok .brk, hq => exact hq.elim
    | .ok .cont, hq => exact hq.elim
    | .ok (.ret u), hq =>
      obtain ⟨v', H2, os, bare, un, hok, rv', s12, a2⟩ := hq
      obtain ⟨hh, g, d, t, os'⟩ := s2
      obtain rfl : os' = s'.os := os
      have J := I.call (h' := hh) (g' := g) (d' := d) (t' := t) (ch := []) un hok bare fun b z => absurd z (by simp)
      refine ⟨⟨H2, vs' ++ [v'], J, s1.trans s12, fun b hb => ?_, un.keep f _ gf nf' nf (by simp), un.free f _ gf nf' (by simp), rv.append (.cons rv' .nil), ?_⟩, fun b o hb e => un.keep b o e (no b hb) (C.frs b hb) (by simp)⟩
      · obtain ⟨o, e⟩ := ex b hb
        exact un.free b o e (no b hb) (by simp)
      · have lt : ks.length < l.length := (List.getElem?_eq_some_iff.mp ey).1
        have e1 : (l.map key).take (ks.length + 1) = (l.map key).take ks.length ++ [key y] := by
          rw [List.take_add_one, List.getElem?_map, ey]; rfl
        rw [List.length_append, List.length_singleton, e1]
        exact (at'.mono (hid_same s12)).append (.cons a2 .nil)
  · rw [← List.map_take]
    have dt : ∀ d ∈ (l.map key).take ks.length, isDat d = true := fun d hd => dat d (List.mem_of_mem_take hd)
    exact reads_of I rv at' dt
end
end DL

/-! # sorted(x, key=lambda ..), min(x, key=lambda ..) -/
namespace DL
variable [Tbs]
open PySem PySem.Spec PySem.Calls PyProof.Rows L2 LamX NdefX
variable {X : Cx} {K : PySem.W.Frag} {a : Expr} {pos : Pos}
theorem Ro.up2 {k : Nat} {A : Around} (r : Ro (k + 2) A) : Ro (k + 1) A.in1.in1 := ⟨r.hd, by have := r.dp; show A.depth + (k + 1) + 20 < _; omega, by have := r.un; show A.units + 1 + 1 + 8 * (k + 1) + 400 < _; omega⟩
theorem Ro.up1 {k : Nat} {A : Around} (r : Ro (k + 2) A) : Ro (k + 1) A.in1 := ⟨r.hd, by have := r.dp; show A.depth + (k + 1) + 20 < _; omega, by have := r.un; show A.units + 1 + 8 * (k + 1) + 400 < _; omega⟩
def fSortK (N : Nat) (x xb : DX) (n : Nat) (js : List Nat) : DAs := fun δ Q => x δ fun d => match d with
  | .lst l => ∃ key : D → D, (∀ y ∈ l, ∀ Q' : D → Prop, Q' (key y) → xb (dlam n δ js y) Q') ∧ OrdD N (l.map key) ∧ Q (l.mergeSort fun a b => leD (key a) (key b))
  | _ => False
theorem fSortK_mono {N : Nat} {x xb : DX} {n : Nat} {js : List Nat} (h : MonoX x) : MonoA (fSortK N x xb n js) := fun δ Q Q' i q => h δ (fun d k => by
  cases d with
  | lst l => obtain ⟨key, h1, h2, h3⟩ := k; exact ⟨key, h1, h2, i _ h3⟩
  | _ => exact k.elim) q
theorem zip_all {H : Hp} : ∀ {vs : List V} {l : List D}, AtAll K H vs l → ∀ b ∈ vs.zip l, At K H b.1 b.2 := zip_at
theorem each_zip : ∀ {xs : List V} {its : List Value} {l : List D}, L2.Vals xs its → xs.length = l.length → PySem.W.EachIs (fun (u : Value) (b : V × D) => L2.RelV b.1 u) its (xs.zip l)
  | _, _, [], .nil, _ => .nil
  | _, _, d :: l, .cons r rv, h => .cons r (each_zip rv (by simpa using h))
theorem each_vals : ∀ {out : List Value} {bs : List (V × D)}, PySem.W.EachIs (fun (u : Value) (b : V × D) => L2.RelV b.1 u) out bs → L2.Vals (bs.map (·.1)) out
  | _, _, .nil => .nil
  | _, _, .cons r e => .cons r (each_vals e)
theorem sort_by (key : D → D) (bs : List (V × D)) : (bs.mergeSort fun a b => leD (key a.2) (key b.2)).map (·.2) = (bs.map (·.2)).mergeSort fun a b => leD (key a) (key b) :=
  List.map_mergeSort fun a _ b _ => rfl
theorem f_sortedKey {N k : Nat} {x xb : DX} {Nl fr : List Str} {px : Str} {js : List Nat} {params : Arguments} {body : Expr} {scope : Scope} {p kp lpos : Pos} {c P : Addr} (hu : X.A.units + 2 + N < cLine) (hs : X.mg "sorted" = none) (h : QD X K a x)
    (TB : TabB X.base X.mg c P) (hm : (P, X.env.qual ++ "<lambda>") ∈ Tbs.T) (hu2 : ∀ p ∈ Tbs.T, p.1 = P → p.2 = X.env.qual ++ "<lambda>") (hr : Ro (k + 2) X.A)
    (hbody : ∀ (cl : List (Str × Addr)) (c' f : Addr) (A : Around) (outer : List Env) (s : Shared) (H : Hp), Ro k (A.deeper (envF (lamN (X.env.qual ++ "<lambda>") params scope cl c') f s.heap.objs.size)) →
      PD (ncx (fun _ _ _ _ _ _ => False) X.prog X.w X.K X.mg X.base Nl (lamN (X.env.qual ++ "<lambda>") params scope cl c') f A outer s H (fun _ _ _ => False)) X.K body xb)
    (Sl : NScope Nl [px] fr scope) (hfree : ∀ y ∈ scope.names, y.2 = .free → X.env.scope.names.lookup y.1 = some .cell ∨ X.env.scope.names.lookup y.1 = some .free) (hfrn : ∀ y ∈ fr, (y, NameKind.free) ∈ scope.names) (hjs : js.map (fun j => X.N[j]?) = fr.map some)
    (hbind : ∀ (q : Str) (cl : List (Str × Addr)) (pm cv ctv u : Value), bindArgs (PySem.W.kla_fn "<lambda>" q params body scope cl pm cv ctv) ⟨[u], []⟩ = pure [(px, u)]) (hcode : X.env.code = .ref c := by rfl) (hdef : defaultsOf params X.env = ([], []) := by rfl) (hK : X.K = K := by rfl) (hg : Gl X "sorted" := by rfl)
    (he2 : starEach [a] X.env = (false, eval a X.env) :: starEach [] X.env := by rfl)
    (w1 : backTo pos (starEach [a] X.env) = (false, eval a X.env) :: backTo pos (starEach [] X.env) := by rfl) (w2 : (backTo pos (starEach [a] X.env)).any (·.1) = false := by rfl)
    (w3 : (backToKw pos (keywordEach [⟨some "key", .Lambda params body scope lpos, kp⟩] X.env)).all (·.1.isSome) = true := by rfl) (w4 : (backToKw pos (keywordEach [⟨some "key", .Lambda params body scope lpos, kp⟩] X.env)).any (·.1.isNone) = false := by rfl)
    (w5 : (backToKw pos (keywordEach [⟨some "key", .Lambda params body scope lpos, kp⟩] X.env)).filterMap (·.1) = ([("key" : Str)] : List Str) := by rfl) :
    FD X K (.Call (.Name "sorted" p) [a] [⟨some "key", .Lambda params body scope lpos, kp⟩] pos) (fSortK N x xb Nl.length js) := by
  subst hK
  refine ⟨fSortK_mono h.mono, ⟨fun pins s σ H Q I ⟨Hb, B, O, δ, S, q⟩ => ?_⟩⟩
  have hfree' : ∀ y ∈ scope.names, y.2 = .free → ∃ c, X.env.cells.lookup y.1 = some c := fun y hy e => (hfree y hy e).elim (fun z => I.ok.has _ (.inl z)) fun z => I.ok.has _ (.inr z)
  let G : D → Prop := fun d => match d with
    | .lst l => ∃ key : D → D, (∀ y ∈ l, ∀ Q' : D → Prop, Q' (key y) → xb (dlam Nl.length δ js y) Q') ∧ OrdD N (l.map key) ∧ ∀ p vs H', Same H H' → H p = none → H' p = some (.lst vs) → (l.mergeSort fun a b => leD (key a) (key b)).length ≤ LIM → AtAll X.K (hid (p :: O) H') vs (l.mergeSort fun a b => leD (key a) (key b)) → Q (.ref p) H'
    | _ => False
  let R1 : List V → Hp → Prop := fun vs H1 => ∃ v d, vs = [v] ∧ Same H H1 ∧ OAt X.K O H1 v d ∧ G d
  refine wpAny_Call_Name_kw (ld_blt (u := .builtin "sorted") I hg hs (by decide +kernel) ?_ (by decide) (by decide))
  refine PyProof.Rows.callWith_kw (thn ((pa_cons h.pe pa_nil he2).run pos pins s σ H R1 I ⟨Hb, B, O, δ, S, h.mono δ (fun d kd v H1 s1 a1 => ⟨v, d, rfl, s1, a1, kd⟩) q⟩) fun us s1 ⟨vs, H1, I1, r1, v, d, evs, s01, av, g⟩ => ?_) w1 w2 w3 w4
  subst evs
  rw [w5]
  show wpAny _ _ (evalAll ((do let v ← eval (.Lambda params body scope lpos) X.env; standAt pos; pure v) :: [])) _ _ s1
  refine wpAny_evalAll_cons (wpAny_bind (lam_mk I1 TB hcode hm hu2 (s01.t S.tab) hdef hfree' fun f c' pm ctv H3 s3 I3 k3 t3 gf nf nfr hc3 => wpAny_bind (wpAny_standAt (wpAny_pure (wpAny_evalAll_nil ?_)))))
  cases d with
  | lst l =>
    obtain ⟨key, hkey, od, fin⟩ := g
    obtain ⟨pl, xs, rfl, hpl, hl1, axs⟩ := av.list
    have s13 : Same H1 H3 := ⟨k3, fun _ => t3⟩
    have s03 := s01.trans s13
    have S3 := S.grow s03
    rw [Vals.ref1 r1]
    obtain ⟨its, rv, hls, hz⟩ := I3.list (xs := xs) (.inl (.inl (s13.at hpl)))
    have ax3 := axs.mono (hid_same s13)
    have ln := ax3.len
    have lits := rv.length
    have n1 : s3.heap.objs.size + 1 ∉ ([] : List Addr) := by simp
    have C : Cells X pins [s3.heap.objs.size + 1, s3.heap.objs.size + 3] := cells_mk I3 fun b hb => by
      rcases List.mem_cons.mp hb with rfl | hb
      · exact Nat.le_succ _
      · rw [List.mem_singleton.mp hb]; exact Nat.le_add_right _ _
    have no3 : ∀ b ∈ [s3.heap.objs.size + 1, s3.heap.objs.size + 3], H3 b = none := fun b hb => I3.hok.fresh (by
      rcases List.mem_cons.mp hb with rfl | hb
      · exact Nat.le_succ _
      · rw [List.mem_singleton.mp hb]; exact Nat.le_add_right _ _)
    have fow : f ∉ [s3.heap.objs.size + 1, s3.heap.objs.size + 3] := fun hb => by
      have lf := Heap.lt_size gf
      rcases List.mem_cons.mp hb with e | hb
      · rw [e] at lf; exact absurd (Nat.lt_of_succ_lt lf) (Nat.lt_irrefl _)
      · rw [List.mem_singleton.mp hb] at lf; exact absurd (Nat.lt_of_le_of_lt (Nat.le_add_right _ 3) lf) (Nat.lt_irrefl _)
    have KS := keySt_mk (A1 := X.A.in1.in1) (k := k) (xb := xb) (js := js) (fr := fr) (px := px) (params := params) (body := body) (scope := scope) (f := f) (c' := c') (pm := pm) (ctv := ctv) (xs := xs) (l := l) (key := key) C S3 (fun s' H' e => e.in1.in1) (hr.up2) nfr fow (Caps.made I3.ok hfree hfrn hjs) hc3 Sl (by have := congrArg List.length hjs; simpa using this) hbind hbody ax3 hkey od.dat
    refine sort_run (kz := (l.map key).map toP) hls.isList rv (by rw [← lits]; exact hz) (by rw [List.length_map, List.length_map]; omega) od.al od.so (fun d hd => ?_) (ksk_s1 _ _) (fun _ => ksk_l1 _ _) (fun _ => ksk_t1 _ _) (fun h' tk kp => ⟨H3, [], I3.kept kp, .refl H3, no3, kp _ _ gf, nf, .nil, .nil⟩) KS fun ks s' h' tk out cc ⟨H', vs', I', s3', no', gf', nf', rv', at'⟩ kp' gD ko => ?_
    · obtain ⟨z, hz, rfl⟩ := List.mem_map.mp hd
      have := od.dep z hz
      omega
    · have em : ((xs.zip l).map fun b => toP (key b.2)) = (l.map key).map toP := by
        have : ((xs.zip l).map fun b => toP (key b.2)) = ((xs.zip l).map (·.2)).map fun d => toP (key d) := by rw [List.map_map]; rfl
        rw [this, zip_snd ln, List.map_map]; rfl
      rw [← em] at ko
      have eo := PySem.W.keyedOut_each (fun b : V × D => toP (key b.2)) ko (each_zip rv ln)
      have vo := each_vals (bs := (xs.zip l).mergeSort fun a b => leD (key a.2) (key b.2)) eo
      have es := sort_by key (xs.zip l)
      rw [zip_snd ln] at es
      have lz : (xs.zip l).length = l.length := by rw [List.length_zip, ln, Nat.min_self]
      have lm : ((xs.zip l).mergeSort fun a b => leD (key a.2) (key b.2)).length = l.length := by rw [List.length_mergeSort, lz]
      have nD := no' _ List.mem_cons_self
      refine ⟨.ref (s3.heap.objs.size + 1), upd H' (s3.heap.objs.size + 1) (.lst (((xs.zip l).mergeSort fun a b => leD (key a.2) (key b.2)).map (·.1))), inv_told I' C no' kp' List.mem_cons_self ⟨by rw [List.length_map, lm, ← ln]; exact hz, out, cc, vo, gD⟩, rfl, fin _ _ _ (s03.trans (s3'.trans (same_new nD))) (s03.free (s3'.free nD)) upd_same ?_ ?_⟩
      · rw [List.length_mergeSort]; exact hl1
      · rw [← es]
        exact atAll_map fun b hb => ((zip_at ax3 b (List.mem_mergeSort.mp hb)).mono (hid_same s3')).mono (hid_new nD (same_new nD))
  | non | bl _ | int _ | str _ | tup _ | dic _ _ | scr _ | ref _ | ptp _ => exact g.elim
def dMinK (N : Nat) (x xb : DX) (n : Nat) (js : List Nat) : DX := fun δ Q => x δ fun d => match d with
  | .lst l => ∃ key : D → D, (∀ y ∈ l, ∀ Q' : D → Prop, Q' (key y) → xb (dlam n δ js y) Q') ∧ OrdD N (l.map key) ∧ l ≠ [] ∧ Q (l.getD (bestK ((l.map key).map toP) (l.length - 1)) .non)
  | _ => False
theorem dMinK_mono {N : Nat} {x xb : DX} {n : Nat} {js : List Nat} (h : MonoX x) : MonoX (dMinK N x xb n js) := fun δ Q Q' i q => h δ (fun d k => by
  cases d with
  | lst l => obtain ⟨key, h1, h2, h3, h4⟩ := k; exact ⟨key, h1, h2, h3, i _ h4⟩
  | _ => exact k.elim) q
theorem d_minKey {N k : Nat} {x xb : DX} {Nl fr : List Str} {px : Str} {js : List Nat} {params : Arguments} {body : Expr} {scope : Scope} {p kp lpos : Pos} {c P : Addr} (hu : X.A.units + 2 + N < cLine) (hs : X.mg "min" = none) (h : QD X K a x)
    (TB : TabB X.base X.mg c P) (hm : (P, X.env.qual ++ "<lambda>") ∈ Tbs.T) (hu2 : ∀ p ∈ Tbs.T, p.1 = P → p.2 = X.env.qual ++ "<lambda>") (hr : Ro (k + 2) X.A)
    (hbody : ∀ (cl : List (Str × Addr)) (c' f : Addr) (A : Around) (outer : List Env) (s : Shared) (H : Hp), Ro k (A.deeper (envF (lamN (X.env.qual ++ "<lambda>") params scope cl c') f s.heap.objs.size)) →
      PD (ncx (fun _ _ _ _ _ _ => False) X.prog X.w X.K X.mg X.base Nl (lamN (X.env.qual ++ "<lambda>") params scope cl c') f A outer s H (fun _ _ _ => False)) X.K body xb)
    (Sl : NScope Nl [px] fr scope) (hfree : ∀ y ∈ scope.names, y.2 = .free → X.env.scope.names.lookup y.1 = some .cell ∨ X.env.scope.names.lookup y.1 = some .free) (hfrn : ∀ y ∈ fr, (y, NameKind.free) ∈ scope.names) (hjs : js.map (fun j => X.N[j]?) = fr.map some)
    (hbind : ∀ (q : Str) (cl : List (Str × Addr)) (pm cv ctv u : Value), bindArgs (PySem.W.kla_fn "<lambda>" q params body scope cl pm cv ctv) ⟨[u], []⟩ = pure [(px, u)]) (hcode : X.env.code = .ref c := by rfl) (hdef : defaultsOf params X.env = ([], []) := by rfl) (hK : X.K = K := by rfl) (hc : X.calm = true := by rfl) (hg : Gl X "min" := by rfl)
    (he2 : starEach [a] X.env = (false, eval a X.env) :: starEach [] X.env := by rfl)
    (w1 : backTo pos (starEach [a] X.env) = (false, eval a X.env) :: backTo pos (starEach [] X.env) := by rfl) (w2 : (backTo pos (starEach [a] X.env)).any (·.1) = false := by rfl)
    (w3 : (backToKw pos (keywordEach [⟨some "key", .Lambda params body scope lpos, kp⟩] X.env)).all (·.1.isSome) = true := by rfl) (w4 : (backToKw pos (keywordEach [⟨some "key", .Lambda params body scope lpos, kp⟩] X.env)).any (·.1.isNone) = false := by rfl)
    (w5 : (backToKw pos (keywordEach [⟨some "key", .Lambda params body scope lpos, kp⟩] X.env)).filterMap (·.1) = ([("key" : Str)] : List Str) := by rfl) :
    PD X K (.Call (.Name "min" p) [a] [⟨some "key", .Lambda params body scope lpos, kp⟩] pos) (dMinK N x xb Nl.length js) := by
  subst hK
  refine ⟨dMinK_mono h.mono, ⟨fun pins s σ H Q I ⟨Hb, B, O, δ, S, q⟩ => ?_⟩⟩
  have hfree' : ∀ y ∈ scope.names, y.2 = .free → ∃ c, X.env.cells.lookup y.1 = some c := fun y hy e => (hfree y hy e).elim (fun z => I.ok.has _ (.inl z)) fun z => I.ok.has _ (.inr z)
  let G : D → Prop := fun d => match d with
    | .lst l => ∃ key : D → D, (∀ y ∈ l, ∀ Q' : D → Prop, Q' (key y) → xb (dlam Nl.length δ js y) Q') ∧ OrdD N (l.map key) ∧ l ≠ [] ∧ ∀ v H', Same H H' → At X.K (hid O H') v (l.getD (bestK ((l.map key).map toP) (l.length - 1)) .non) → Q v H'
    | _ => False
  let R1 : List V → Hp → Prop := fun vs H1 => ∃ v d, vs = [v] ∧ Same H H1 ∧ OAt X.K O H1 v d ∧ G d
  refine wpAny_Call_Name_kw (ld_blt (u := .builtin "min") I hg hs (by decide +kernel) ?_ (by decide) (by decide))
  refine PyProof.Rows.callWith_kw (thn ((pa_cons h.pe pa_nil he2).run pos pins s σ H R1 I ⟨Hb, B, O, δ, S, h.mono δ (fun d kd v H1 s1 a1 => ⟨v, d, rfl, s1, a1, kd⟩) q⟩) fun us s1 ⟨vs, H1, I1, r1, v, d, evs, s01, av, g⟩ => ?_) w1 w2 w3 w4
  subst evs
  rw [w5]
  show wpAny _ _ (evalAll ((do let v ← eval (.Lambda params body scope lpos) X.env; standAt pos; pure v) :: [])) _ _ s1
  refine wpAny_evalAll_cons (wpAny_bind (lam_mk I1 TB hcode hm hu2 (s01.t S.tab) hdef hfree' fun f c' pm ctv H3 s3 I3 k3 t3 gf nf nfr hc3 => wpAny_bind (wpAny_standAt (wpAny_pure (wpAny_evalAll_nil ?_)))))
  cases d with
  | lst l =>
    obtain ⟨key, hkey, od, hne, fin⟩ := g
    obtain ⟨pl, xs, rfl, hpl, hl1, axs⟩ := av.list
    have s13 : Same H1 H3 := ⟨k3, fun _ => t3⟩
    have s03 := s01.trans s13
    have S3 := S.grow s03
    rw [Vals.ref1 r1]
    have hpl3 := s13.at hpl
    have ax3 := axs.mono (hid_same s13)
    have ln := ax3.len
    have lpos : 0 < xs.length := by
      rw [ln]; exact List.length_pos_iff.mpr hne
    have C : Cells X pins [s3.heap.objs.size, s3.heap.objs.size + 1] := cells_mk I3 fun b hb => by
      rcases List.mem_cons.mp hb with rfl | hb
      · exact Nat.le_refl _
      · rw [List.mem_singleton.mp hb]; exact Nat.le_succ _
    have no3 : ∀ b ∈ [s3.heap.objs.size, s3.heap.objs.size + 1], H3 b = none := fun b hb => I3.hok.fresh (by
      rcases List.mem_cons.mp hb with rfl | hb
      · exact Nat.le_refl _
      · rw [List.mem_singleton.mp hb]; exact Nat.le_succ _)
    have fow : f ∉ [s3.heap.objs.size, s3.heap.objs.size + 1] := fun hb => by
      have lf := Heap.lt_size gf
      rcases List.mem_cons.mp hb with e | hb
      · rw [e] at lf; exact Nat.lt_irrefl _ lf
      · rw [List.mem_singleton.mp hb] at lf; exact absurd (Nat.lt_of_succ_lt lf) (Nat.lt_irrefl _)
    have KS := keySt_mk (A1 := X.A.in1) (k := k) (xb := xb) (js := js) (fr := fr) (px := px) (params := params) (body := body) (scope := scope) (f := f) (c' := c') (pm := pm) (ctv := ctv) (xs := xs) (l := l) (key := key) C S3 (fun s' H' e => e.in1) (hr.up1) nfr fow (Caps.made I3.ok hfree hfrn hjs) hc3 Sl (by have := congrArg List.length hjs; simpa using this) hbind hbody ax3 hkey od.dat
    have nn : ∀ d ∈ (l.map key).map toP, d ≠ .none := fun d hd e => by
      rcases od.so with h | h
      · obtain ⟨x, r, z⟩ := h d hd
        rw [e] at z; cases z
      · exact (h d hd).1 e
    refine min_run (xs := xs) (kz := (l.map key).map toP) (I.ok.hd hc) lpos (by rw [List.length_map, List.length_map]; omega) od.al nn (fun d hd => ?hu) ?hl (fun h' tk kp => ⟨H3, [], I3.kept kp, .refl H3, no3, kp _ _ gf, nf, .nil, .nil⟩) ?walk KS ?fin
    case hu =>
      obtain ⟨z, hz, rfl⟩ := List.mem_map.mp hd
      have := od.dep z hz
      omega
    case hl =>
      obtain ⟨its, rv, hls, hz⟩ := I3.list (xs := xs) (.inl (.inl hpl3))
      exact ⟨its, rv, hls.isList⟩
    case walk =>
      intro ks s' ⟨H', vs', I', s3', _⟩
      obtain ⟨its, rv, hls, hz⟩ := I'.list (xs := xs) (.inl (.inl (s3'.at hpl3)))
      exact ⟨its, rv, hls.isList⟩
    case fin =>
      intro ks x v s' ex rx ⟨H', vs', I', s3', _⟩
      obtain ⟨y, ey, ay⟩ := ax3.get ex
      refine ⟨x, H', I', rx, fin _ _ (s03.trans s3') ?_⟩
      rw [← ln, List.getD_eq_getElem?_getD, ey]
      exact ay.mono (hid_same s3')
  | non | bl _ | int _ | str _ | tup _ | dic _ _ | scr _ | ref _ | ptp _ => exact g.elim
/-! ### list.index over data -/
def gIdx (Q : D → Prop) (l : List D) (e : D) : Prop := (okD (.lst l) = true ∧ okD e = true) ∧ ∃ (j : Nat) (z : D), l[j]? = some z ∧ eqD z e = true ∧ (∀ (m : Nat) (z' : D), m < j → l[m]? = some z' → eqD z' e = false) ∧ Q (.int (j : Nat))
def dIdx (x y : DX) : DX := fun δ Q => x δ fun d => match d with
  | .lst l => y δ (gIdx Q l)
  | _ => False
theorem toPs_get : ∀ {l : List D} {j : Nat} {z : PyData}, (toPs l)[j]? = some z → ∃ d, l[j]? = some d ∧ z = toP d
  | [], j, z, h => by rw [toPs] at h; simp at h
  | d :: l, 0, z, h => by rw [toPs] at h; simp at h; exact ⟨d, rfl, h.symm⟩
  | d :: l, j + 1, z, h => by rw [toPs] at h; exact toPs_get (l := l) (j := j) (by simpa using h)
theorem toPs_at : ∀ {l : List D} {j : Nat} {d : D}, l[j]? = some d → (toPs l)[j]? = some (toP d)
  | [], j, z, h => by simp at h
  | d :: l, 0, z, h => by rw [toPs]; simp at h; rw [h]; rfl
  | d :: l, j + 1, z, h => by rw [toPs]; exact toPs_at (l := l) (j := j) (by simpa using h)
theorem d_lidx {o : Expr} {x y : DX} {p2 p3 : Pos} (ho : QD X K o x) (ha : QD X K a y) (hu : X.A.units + 65 < cLine) (hK : X.K = K := by rfl) (hbase : attributeBase o "index" X.env (eval o X.env) = eval o X.env := by rfl)
    (hfew : ((backTo p3 (starEach [a] X.env)).all (fun x => !x.1) && (backToKw p3 (keywordEach [] X.env)).all (fun x => x.1.isSome) && decide ([a].length + ([] : List Keyword).length + (if ([] : List Keyword).isEmpty then 0 else 1) < 30)) = true := by rfl)
    (hline : (p2.endLine == p3.line) = true := by rfl) (hst : starEach [a] X.env = (false, eval a X.env) :: starEach [] X.env := by rfl) (hpl : (backTo p3 (starEach [] X.env)).any (·.1) = false := by rfl) :
    PD X K (.Call (.Attribute o "index" p2) [a] [] p3) (dIdx x y) := by
  subst hK
  refine ⟨fun δ Q Q' i q => ho.mono δ (fun d k => by
    cases d with
    | lst l => exact ha.mono δ (fun e ⟨h, j, z, h1, h2, h3, h4⟩ => ⟨h, j, z, h1, h2, h3, i _ h4⟩) k
    | _ => exact k.elim) q, pe_weak (pe_bm PySem.F.plainAttrs_list PySem.F.slot_list_index PySem.F.type_list_index (mt_indexD hu) ho.pe (pa_cons ha.pe pa_nil hst) hbase hfew hline hst hpl) fun σ H Q ⟨Hb, B, O, δ, S, q⟩ => ⟨Hb, B, O, δ, S, ho.mono δ (fun d q v H1 s1 av => ?_) q⟩⟩
  cases d with
  | lst l =>
    obtain ⟨p, vs, rfl, h1, h2, h3⟩ := av.list
    refine ⟨.inl ⟨rfl, _, .inl (.inl h1)⟩, Hb, B, O, δ, S.grow s1, ha.mono δ (fun e q w H2 s2 aw => ?_) q⟩
    obtain ⟨⟨k1, k2⟩, j, z, k3, k4, k5, k6⟩ := q
    unfold okD at k1 k2
    rw [Bool.and_eq_true] at k1 k2
    refine ⟨p, w, toP e, toPs l, j, toP z, rfl, rfl, ((av.grow s2).plain).dp k1.1, aw.plain.dp k2.1, k1.2, k2.2, toPs_at k3, k4, fun m z' hm hz => ?_, k6 _ _ (s1.trans s2) (.int _)⟩
    obtain ⟨z2, e2, rfl⟩ := toPs_get hz
    exact k5 m z2 hm e2
  | non | bl _ | int _ | str _ | tup _ | dic _ _ | scr _ | ref _ | ptp _ =>
    exact q.elim
/-! ### a def whose code object is known -/
def DfC (K : PySem.W.Frag) (mg : Str → Option Value) (x : Str) (st : Stmt) (ps : List Str) (c : Addr) : Prop :=
  ∃ (f : Addr) (oc : Value) (od : Option Addr) (kV doc pm : Value) (an : Option Addr) (ct : Value) (osl : Array (Option Value)), mg x = some (.ref f) ∧ PySem.W.keepIn K (.ref f) = true ∧
    K.lookup f = some ⟨oc, od, .func (PySem.W.fnOf x x (defArgs st) (defBody st) (defScope st) .none kV doc pm an (.ref c) ct), osl⟩ ∧ PySem.W.codeIn K (.ref c) x = true ∧ Binds K (PySem.W.fnOf x x (defArgs st) (defBody st) (defScope st) .none kV doc pm an (.ref c) ct) ps []
theorem cal_okC {P : Program} {w : World} {mg : Str → Option Value} {base : Heap} {x : Str} {st : Stmt} {N ps : List Str} {k : Nat} {R : Rf} {g : DS} {c : Addr} (Dd : DfC K mg x st ps c) (S : FnScope N ps (defScope st)) (len : ∀ ds Q, R ds Q → ds.length = ps.length)
    (hb : ∀ (f : Addr) (A : Around) (outer : List Env) (s : Shared) (H : Hp) (E : XK), Ro k (A.deeper (PyProof.Rows.envOfC x (defScope st) s.heap.objs.size f (.ref c))) → SDs (cxOf CX0 P w K mg base N x (defScope st) f (.ref c) A outer s H E).nox K (fun _ _ _ => False) (defBody st) g)
    (hR : ∀ ds Q, R ds Q → g (endR Q) (dstart N.length ds)) : Cal P w K mg base CX0 (k + 1) x ps (spW K R) := by
  obtain ⟨f, oc, od, kV, doc, pm, an, ct, osl, gf, kp, lk, hcd, b⟩ := Dd
  refine ⟨f, _, gf, kp, b, ⟨fun vs H Q E ⟨B, ds, lb, tb, a, r⟩ => by rw [a.len]; exact len _ _ r, fun {A} hr {outer s H args us vs Q E} e0 bd rv ⟨B, ds, lb, tb, a, r⟩ => ?_⟩⟩
  have same := fun b o e => (e0.bs b o e).1
  have ln : vs.length = ps.length := by rw [a.len]; exact len _ _ r
  refine codeAny_call_function (by have := hr.dp; omega) ((e0.mod.kin.keeps same) _ _ lk) rfl S.co S.gen rfl (PySem.W.codeRec_of (e0.mod.kin.keeps same) hcd) (bd _ _ _ _ ?_)
  have vis : ∀ y ∈ ps.zip us, (defScope st).names.lookup y.1 = some .local ∨ ((defScope st).names.lookup y.1 = some .cell ∧ ((cellsFrom (s.heap.objs.size + 1) (defScope st).names []).lookup y.1).isSome = true) := fun y hy =>
    (S.par y.1 (List.of_mem_zip hy).1).elim .inl fun c => .inr ⟨c, PySem.W.cellsFrom_some _ _ _ (.inl c)⟩
  refine wpAny_newFunctionEnv_cells S.kind vis fun env he s1 x => ?_
  cases he
  refine ⟨(e0.mod.nolimit.keeps same).keeps x.toInCall.keep, codeAny_func ?_⟩
  have run := (hb f A outer s H E (hr.inner _)).pss.nox
  have I : L2.Inv (cxOf CX0 P w K mg base N _ (defScope st) f (.ref c) A outer s H E) [] (start N vs) H s1 := inv_start S hr.hd e0 ln rv x
  have tt : tS K (fun _ _ _ => False) g { nx := fun _ H' => Q .non H', rt := Q } (start N vs) H := ⟨H, B, B, _, endR _, sta_start lb tb a, hR _ _ r, fun O σ H' δ S k => k .non H' S.same.same .non, fun _ _ _ _ _ k => k.elim, fun _ _ _ _ _ k => k.elim, fun v H' d s a k => k v H' s.same a, fun _ _ _ k => k.elim, fun _ _ _ _ _ _ _ _ k => k.elim⟩
  refine wpAny_mono (run.run [] s1 (start N vs) H _ I tt) (fun fl s' z => ?_) fun _ _ z => z
  cases fl with
  | ret u =>
    obtain ⟨v, σ', H', J, r, k⟩ := z
    exact ⟨v, H', J.os, J.bare, J.base, J.hok, r, k⟩
  | next =>
    obtain ⟨σ', H', J, k⟩ := z
    exact ⟨.non, H', J.os, J.bare, J.base, J.hok, rfl, k⟩
  | brk => obtain ⟨_, _, _, k⟩ := z; exact k.elim
  | cont => obtain ⟨_, _, _, k⟩ := z; exact k.elim
theorem huS {k N : Nat} {A : Around} (hr : Ro k A) (h : N ≤ 300) : A.units + 2 + N < cLine := by have := hr.un; omega
theorem hu65 {k : Nat} {A : Around} (hr : Ro k A) : A.units + 65 < cLine := by have := hr.un; omega
structure LamD (mg : Str → Option Value) (base : Heap) (c P : Addr) (q : Str) : Prop where
  TB : TabB base mg c P
  hm : (P, q) ∈ Tbs.T
  hu : ∀ p ∈ Tbs.T, p.1 = P → p.2 = q
/-! ### name = [.. for ..] that changes own lists and reads locals of the def -/
theorem s_setMLc {X : Cx} {K : PySem.W.Frag} {Ex : XK} {elt tg iter : Expr} {ifs : List Expr} {scope : Scope} {own : List (Str × Nat)} {spos pos : Pos} {src : DAs} {t : DG} {tst : DT} {el : DM} {js : List Nat} {i : Nat} {y : Str} {py : Pos} (hN : X.N.Nodup) (hy : X.N[i]? = some y) (hi : IP X K tg iter src) (ok : BlkOk X.N X.env.scope scope own)
    (hg : ∀ (s : Shared) (H : Hp) (C : Addr) (cl : List (Str × Addr)) (fp : List Addr), GD (X.blk s H scope (compEnvC scope cl C X.env) fp) K tg js t)
    (ht : ∀ (s : Shared) (H : Hp) (C : Addr) (cl : List (Str × Addr)) (fp : List Addr), TsD (X.blk s H scope (compEnvC scope cl C X.env) fp) K ifs tst)
    (he : ∀ (s : Shared) (H : Hp) (C : Addr) (cl : List (Str × Addr)) (fp : List Addr), MD (X.blk s H scope (compEnvC scope cl C X.env) fp) K elt el)
    (hj : ∀ j ∈ js, j ∈ own.map (·.2) := by decide) (hyl : X.env.scope.names.lookup y = some .local := by rfl)
    (hsw : swapsWith (.ListComp elt [⟨tg, iter, ifs, 0⟩] scope pos) (some (.Name y py)) spos.line X.env = pure true := by exact sw_true rfl rfl rfl (by decide +kernel))
    (hc : X.calm = true := by rfl) (hs : ∀ x, foldedSetIterable iter X.env x = pure x := by intro _; rfl) :
    SD X K Ex (.Assign [.Name y py] (.ListComp elt [⟨tg, iter, ifs, 0⟩] scope pos) spos) (gSetM i (mLc src t tst el (own.map (·.2)))) := by
  have m1 := (hg {} (fun _ => none) 0 [] []).mono
  have m2 := (ht {} (fun _ => none) 0 [] []).mono
  have m3 := (he {} (fun _ => none) 0 [] []).mono
  refine ⟨ps_weak (ps_setLc hc hN hy hyl hsw hi.pi ok (fun s H C cl fp => (hg s H C cl fp).pg) (fun s H C cl fp => (ht s H C cl fp).pts) (fun s H C cl fp => (he s H C cl fp).pe) hs) fun E σ H ⟨Hb, B, O, δ, F, S, q, L⟩ => ?_⟩
  show tLc _ _ _ _ _ σ H _
  exact mLc_of hi.mono m1 m2 m3 hj ⟨Hb, B, O, δ, S, hi.mono δ (fun l => lcRunM_mono m1 m2 m3 (fun acc δ2 k v H' S' s a => L.nx _ _ _ _ (S'.set a) k) l [] _) q⟩
end DL

/-! # a lambda that changes a list of its def, handed to another def -/
namespace DL
variable [Tbs]
open PySem PySem.Spec PySem.Calls PyProof.Rows L2 LamX NdefX
section
variable {X : Cx} {pins : List (Addr × Obj)} {σ : L2.St} {H : Hp} {s : Shared}
theorem among_more {pos : Pos} {cv : Value} : ∀ (l m : List Value), TriplesOk l → codeAmong pos l = some cv → codeAmong pos (l ++ m) = some cv := by
  intro l m h e
  fun_induction TriplesOk l with
  | case1 => simp [codeAmong] at e
  | case2 a t b u x rest ih =>
    simp only [List.cons_append, codeAmong] at e ⊢
    split at e
    · rename_i q; rw [if_pos q]; exact e
    · rename_i q; rw [if_neg q]; exact ih h e
  | case3 l h1 h2 => exact h.elim
/-- the code object of a lambda stands in a table -/
def InTab (H : Hp) (P : Addr) (q : Str) (c : Addr) : Prop := (P, q) ∈ Tbs.T ∧ ∃ (pos : Pos) (ps : Array Value), H P = some (.tbl ps) ∧ TriplesOk ps.toList ∧ codeAmong pos ps.toList = some (.ref c)
theorem InTab.code {H0 : Hp} {P : Addr} {q : Str} {c : Addr} (t : InTab H0 P q c) (g : ∀ ps, H0 P = some (.tbl ps) → ∃ more, H P = some (.tbl (ps ++ more))) (h : Tabs H) : H c = some (CodeO c q) := by
  obtain ⟨hm, pos, ps, h1, h2, h3⟩ := t
  obtain ⟨more, e⟩ := g ps h1
  obtain ⟨ps', e1, e2, e3⟩ := h _ hm
  have e1 : H P = some (.tbl ps') := e1
  rw [e] at e1
  obtain rfl : ps ++ more = ps' := by injection e1 with e1; injection e1
  obtain ⟨d, hd, hc⟩ := e3 pos (.ref c) (by rw [Array.toList_append]; exact among_more _ _ h2 h3)
  obtain rfl : c = d := by injection hd
  exact hc
theorem lam_mk2 {c P : Addr} {params : Arguments} {body : Expr} {scope : Scope} {pos : Pos} {E Q : Value → Shared → Prop} (I : L2.Inv X pins σ H s) (TB : TabB X.base X.mg c P) (hcode : X.env.code = .ref c) (hm : (P, X.env.qual ++ "<lambda>") ∈ Tbs.T) (hu : ∀ p ∈ Tbs.T, p.1 = P → p.2 = X.env.qual ++ "<lambda>") (hT : Tabs H)
    (hdef : defaultsOf params X.env = ([], [])) (hfree : ∀ y ∈ scope.names, y.2 = .free → ∃ c, X.env.cells.lookup y.1 = some c)
    (h : ∀ (f c' : Addr) (pm ctv : Value) (H1 : Hp) (s' : Shared), L2.Inv X pins σ H1 s' → Keep H H1 → Tabs H1 → s'.heap.get? f = some (PySem.W.kla_obj "<lambda>" (X.env.qual ++ "<lambda>") params body scope (cloFrom X.env.cells scope.names []) pm c' ctv) →
      H1 f = none → f ∉ frs X.stack → InTab H1 P (X.env.qual ++ "<lambda>") c' → Q (.ref f) s') : wpAny (model X.prog X.w) X.A (eval (.Lambda params body scope pos) X.env) Q E s := by
  obtain ⟨ps, hP, triples, known⟩ := id (hT _ hm)
  have bP := TB.bm.keeps I.bk
  have oP : s.heap.get? P = some { cls := .none, data := .fields ps } := I.hok P _ hP
  have far : ∀ f, s.heap.objs.size ≤ f → f ∉ frs X.stack := fun f hf z => by
    rcases List.mem_cons.mp (I.stkSub _ z) with e | e
    · have lt := I.lt
      rw [← e] at lt
      exact absurd (Nat.lt_of_lt_of_le lt hf) (Nat.lt_irrefl _)
    · exact I.nofs hf e
  refine PySem.W.kla_eval hdef ?_
  cases hc : codeAmong pos ps.toList with
  | some cv =>
    obtain ⟨c', rfl, hco⟩ := known pos cv hc
    exact PySem.W.kla_makeFunctionHit (mg := X.mg) (c := c) (P := P) (ps := ps) (closure_ok hfree) I.ok.glob (I.mod.glob.keeps I.bk) hcode (TB.code.keeps I.bk) oP triples hc bP fun ctv h' tk hx hsz =>
      h h'.objs.size c' _ ctv H _ (I.kept fun b o e => Heap.get?_push_of_some _ (hx b o e)) (.refl H) hT (Heap.get?_push_size _ rfl) (I.hok.fresh hsz) (far _ hsz) ⟨hm, pos, ps, hP, triples, hc⟩
  | none =>
    refine PySem.W.kla_makeFunction (mg := X.mg) (c := c) (P := P) (ps := ps) (closure_ok hfree) I.ok.glob (I.mod.glob.keeps I.bk) hcode (TB.code.keeps I.bk) oP triples hc TB.gP bP fun c' ctv h' tk hx hge hlt hrec htb => ?_
    obtain ⟨c2, oc, vs, t, ec, hoc, hd, hv⟩ := hrec
    obtain rfl : c' = c2 := by injection ec
    have old : s.heap.objs.size ≤ h'.objs.size := Nat.le_trans hge (Nat.le_of_lt hlt)
    have nC : H c' = none := I.hok.fresh hge
    have nPc : P ≠ c' := ne_of_none hP nC
    have J := inv_table (t' := tk) (more := #[rawInt pos.line, rawInt pos.col, .ref c']) (h' := h'.push (PySem.W.kla_obj "<lambda>" (X.env.qual ++ "<lambda>") params body scope (cloFrom X.env.cells scope.names []) ((X.mg "__name__").getD .none) c' ctv)) I hP
      (fun b o hb e => Heap.get?_push_of_some _ (hx b o hb e)) (Heap.get?_push_of_some _ htb) hge ⟨oc, vs, t, Heap.get?_push_of_some _ hoc, hd, hv⟩
    have kk := keep_code (q := X.env.qual ++ "<lambda>") (ps' := ps ++ #[rawInt pos.line, rawInt pos.col, .ref c']) hP nC
    have stay : ∀ d q, H d = some (CodeO d q) → upd (upd H P (.tbl (ps ++ #[rawInt pos.line, rawInt pos.col, .ref c']))) c' (CodeO c' (X.env.qual ++ "<lambda>")) d = some (CodeO d q) := fun d q e => kk.k _ _ e LamX.codeO_ne
    have atP : upd (upd H P (.tbl (ps ++ #[rawInt pos.line, rawInt pos.col, .ref c']))) c' (CodeO c' (X.env.qual ++ "<lambda>")) P = some (.tbl (ps ++ #[rawInt pos.line, rawInt pos.col, .ref c'])) := by rw [upd_ne nPc, upd_same]
    have trip2 : TriplesOk (ps ++ #[rawInt pos.line, rawInt pos.col, .ref c']).toList := by rw [Array.toList_append]; exact PySem.TriplesOk_snoc _ _ _ _ triples
    refine h h'.objs.size c' _ ctv _ _ J kk (fun p hp => ?_) (Heap.get?_push_size _ rfl) ?_ (far _ old) ⟨hm, pos, _, atP, trip2, by rw [Array.toList_append]; exact PySem.codeAmong_snoc _ triples hc⟩
    · by_cases hb : p.1 = P
      · rw [hu p hp hb, hb]
        refine ⟨_, atP, trip2, fun p' cv hcv => ?_⟩
        rw [Array.toList_append] at hcv
        rcases among_app _ triples hcv with z | z
        · obtain ⟨d, e1, e2⟩ := known p' cv z
          exact ⟨d, e1, stay _ _ e2⟩
        · exact ⟨c', z, upd_same⟩
      · obtain ⟨qs, a1, a2, a3⟩ := hT p hp
        refine ⟨qs, by rw [upd_ne (ne_of_none a1 nC), upd_ne hb]; exact a1, a2, fun p' cv hcv => ?_⟩
        obtain ⟨d, e1, e2⟩ := a3 p' cv hcv
        exact ⟨d, e1, stay _ _ e2⟩
    · rw [upd_ne (Nat.ne_of_gt hlt), upd_ne (Nat.ne_of_gt (Nat.lt_of_lt_of_le (Heap.lt_size oP) old))]
      exact I.hok.fresh old
end
/-! ## the call, any number of parameters -/
section
variable {P : Program} {w : World} {K : PySem.W.Frag} {mg : Str → Option Value} {base : Heap} {N fr ps : List Str} {f : Addr} {k : Nat}
theorem lam_callN {CX : CXT} {qual : Str} {params : Arguments} {body : Expr} {scope : Scope} {cl : List (Str × Addr)} {c' : Addr} {pm ctv : Value} {us : List Value} {tb : TE} {A : Around} {outer : List Env} {s : Shared} {H : Hp} {vs : List V} {ws : List (Option V)} {Q : VK} {E : XK}
    (S : NScope N ps fr scope) (hb : bindArgs (PySem.W.kla_fn "<lambda>" qual params body scope cl pm (.ref c') ctv) ⟨us, []⟩ = pure (ps.zip us)) (hl : vs.length = ps.length) (hr : Ro (k + 1) A) (e0 : Env0 P w K mg base A outer s H)
    (ho : s.heap.get? f = some (PySem.W.kla_obj "<lambda>" qual params body scope cl pm c' ctv)) (hc : H c' = some (CodeO c' qual)) (C : CellsAt cl fr ws s.heap H) (rv : L2.Vals vs us)
    (hbody : Ro k (A.deeper (envF (lamN qual params scope cl c') f s.heap.objs.size)) → PE (ncx CX P w K mg base N (lamN qual params scope cl c') f A outer s H E) body tb) (hq : tb (startF N vs ws) H Q) :
    codeAny (model P w) A (.call (.ref f) ⟨us, []⟩) (CR CX outer P w H s Q E) s := by
  have noLim := e0.mod.nolimit.keeps fun b o e => (e0.bs b o e).1
  refine PySem.W.kla_callFunE (by have := hr.dp; omega) ho rfl S.co S.gen rfl (codeO_at e0.hok hc) ?_
  rw [show bindArgs _ ⟨us, []⟩ = pure (ps.zip us) from hb]
  have vis : ∀ y ∈ ps.zip us, scope.names.lookup y.1 = some .local := fun y hy => S.par y.1 (List.of_mem_zip hy).1
  refine wpAny_pure (wpAny_newFunctionEnv S.nocell vis (fun h1 hns hsb => ⟨noLim.fresh _ hsb, ?_⟩) S.kind)
  have kp : ∀ b o, s.heap.get? b = some o → h1.get? b = some o := fun b o e => hsb.extBut b o (Nat.ne_of_lt (Heap.lt_size e)) (Heap.get?_push_of_some _ e)
  have I : L2.Inv (ncx CX P w K mg base N (lamN qual params scope cl c') f A outer s H E) [] (startF N vs ws) H { s with heap := h1, toks := s.toks + (ps.zip us).length } := inv_startN S hr.hd e0 hl rv C hns kp
  show codeAny _ _ (.expr body (envF (lamN qual params scope cl c') f s.heap.objs.size)) _ _
  refine PySem.W.kla_codeExpr (wpAny_mono ((hbody (hr.inner _)).run [] _ _ H Q I hq) (fun z s' ⟨w', H', J, rz, q⟩ => ?_) fun _ _ hz => hz)
  exact ⟨w', H', J.os, J.bare, J.base, J.hok, rz, q⟩
end
/-! ## the rule, within the def that got the lambda -/
/-- the lambda f stood when the def was entered; q is the list that it changes -/
structure LamH (Z : Cx) (f q : Addr) (qual : Str) (params : Arguments) (body : Expr) (scope : Scope) (cl : List (Str × Addr)) (pm : Value) (c' : Addr) (ctv : Value) (P : Addr) (y : Str) : Prop where
  go : Z.s_0.heap.get? f = some (PySem.W.kla_obj "<lambda>" qual params body scope cl pm c' ctv)
  hf : Z.H_0 f = none
  fs : f ∉ Z.fs
  ex : f ∉ Z.ex
  tab : InTab Z.H_0 P qual c'
  cells : CellsAt cl [y] [some (.ref q)] Z.s_0.heap Z.H_0
  nf : ∀ y c, cl.lookup y = some c → c ∉ Z.fs
  nx : ∀ y c, cl.lookup y = some c → c ∉ Z.ex
def mLam (i j : Nat) (f q : Addr) (n : Nat) (xm : DM) (x : DMs) : DM := fun δ Q => sl δ i = .d (.ref f) ∧ x δ fun as δ1 => atA q j δ1 fun l => xm (mstart n q as l []) fun d δ2 => atA q as.length δ2 fun l' => Q d (δ1.set j (.ownA q l'))
theorem atA_mono {q : Addr} {j : Nat} {δ : List Sl} {G G' : List D → Prop} (i : ∀ l, G l → G' l) (h : atA q j δ G) : atA q j δ G' := by
  unfold atA at h ⊢
  cases e : sl δ j with
  | ownA p l => rw [e] at h; exact ⟨h.1, i _ h.2⟩
  | no => rw [e] at h; exact h.elim
  | d _ => rw [e] at h; exact h.elim
  | own _ => rw [e] at h; exact h.elim
  | owk _ _ => rw [e] at h; exact h.elim
theorem atA_get {q : Addr} {j : Nat} {δ : List Sl} {G : List D → Prop} (h : atA q j δ G) : ∃ l, sl δ j = .ownA q l ∧ G l := by
  unfold atA at h
  cases e : sl δ j with
  | ownA p l => rw [e] at h; obtain ⟨rfl, h⟩ := h; exact ⟨l, rfl, h⟩
  | no => rw [e] at h; exact h.elim
  | d _ => rw [e] at h; exact h.elim
  | own _ => rw [e] at h; exact h.elim
  | owk _ _ => rw [e] at h; exact h.elim
theorem startF_start {N : List Str} {vs : List V} {q : Addr} : startF N vs [some (.ref q)] = L2.start N (vs ++ [.ref q]) := by
  unfold startF L2.start
  rw [List.map_append, List.append_assoc, List.length_append, Nat.sub_sub]; rfl
theorem m_lam {Z : Cx} {K : PySem.W.Frag} {f q : Addr} {qual : Str} {params : Arguments} {body : Expr} {scope : Scope} {cl : List (Str × Addr)} {pm ctv : Value} {c' P : Addr} {y a : Str} {Nl ps : List Str} {i j k : Nat} {xm : DM} {x : DMs} {es : List Expr} {e : Expr} {p1 p2 : Pos}
    (LH : LamH Z f q qual params body scope cl pm c' ctv P y) (S : NScope Nl ps [y] scope) (hbind : ∀ us : List Value, us.length = ps.length → bindArgs (PySem.W.kla_fn "<lambda>" qual params body scope cl pm (.ref c') ctv) ⟨us, []⟩ = pure (ps.zip us)) (hes : (e :: es).length = ps.length) (hr : Ro (k + 1) Z.A)
    (hbody : ∀ (s : Shared) (H : Hp), Ro k (Z.A.deeper (envF (lamN qual params scope cl c') f s.heap.objs.size)) → MD (ncx (fun _ _ _ _ _ _ => False) Z.prog Z.w Z.K Z.mg Z.base Nl (lamN qual params scope cl c') f Z.A Z.stack s H (fun _ _ _ => False)) K body xm)
    (ha : MA Z K (e :: es) x) (hN : Z.N[i]? = some a) (hv : Vis Z.env.scope a) (hK : Z.K = K := by rfl) (hd : (a == ("__debug__" : Str)) = false := by decide) (hcd : (a == ("__classdict__" : Str)) = false := by decide)
    (he : starEach (e :: es) Z.env = (false, eval e Z.env) :: starEach es Z.env := by rfl) (hpl : (backTo p2 (starEach es Z.env)).any (·.1) = false := by rfl) : MD Z K (.Call (.Name a p1) (e :: es) [] p2) (mLam i j f q Nl.length xm x) := by
  subst hK
  have mm : MonoM xm := (hbody {} (fun _ => none) (hr.inner _)).mono
  refine ⟨fun δ Q Q' g h => ⟨h.1, ha.mono δ (fun as δ1 => atA_mono fun l => mm _ fun d δ2 => atA_mono fun l' => g d _) h.2⟩, ⟨fun pins s σ H Q I ⟨Hb, B, O, δ, S0, h1, h2⟩ => ?_⟩⟩
  have hs : σ[i]? = some (some (.ref f)) := by
    have a := S0.at_ i
    rw [h1] at a
    obtain ⟨v, e1, e2⟩ := a
    cases e2
    exact e1
  refine wpAny_Call_Name_kw (thn ((pe_var (pos := p1) (i := i) hN hv hd hcd).run pins s σ H (fun v H1 => v = .ref f ∧ H1 = H) I ⟨.ref f, hs, rfl, rfl⟩) fun u s1 ⟨v, H1, I1, r1, q1⟩ => ?_)
  obtain ⟨ev, eH⟩ := q1
  subst ev
  rw [eH] at I1
  obtain rfl : u = Value.ref f := r1
  have ofn : ∀ {pz σz Hz sz}, L2.Inv Z pz σz Hz sz → sz.heap.get? f = some (PySem.W.kla_obj "<lambda>" qual params body scope cl pm c' ctv) := fun {pz σz Hz sz} Iz => Iz.base.keep f _ LH.go LH.hf LH.fs LH.ex
  let R1 : List V → Hp → Prop := fun vs H2 => ∃ as δ1, Sta Z.K Hb B O H2 σ δ1 ∧ Keep (hid O H) (hid O H2) ∧ AtAll Z.K (hid O H2) vs as ∧ as.length = (e :: es).length ∧ atA q j δ1 fun l => xm (mstart Nl.length q as l []) fun d δ2 => atA q as.length δ2 fun l' => ∀ v H', Sta Z.K Hb B O H' σ (δ1.set j (.ownA q l')) → Keep (hid O H) (hid O H') → At Z.K (hid O H') v d → Q v H'
  refine PySem.W.callWith_F (first := []) ⟨_, _, _, _, ofn I1⟩ (thn (ha.pa.run p2 pins s1 σ H R1 I1 ⟨Hb, B, O, δ, S0, ha.mono δ (fun as δ1 ⟨ln, g⟩ vs H2 S2 k2 a2 => ⟨as, δ1, S2, k2, a2, ln, g⟩) (ha.len δ _ h2)⟩) fun us s2 ⟨vs, H2, I2, r, as, δ1, S2, k2, a2, ln, g⟩ => ⟨⟨_, _, _, _, ofn I2⟩, ?_⟩) he hpl
  show wpAny _ _ (call (.ref f) us) _ _ _
  obtain ⟨l, el, g⟩ := atA_get g
  have sj := S2.at_ j
  rw [el] at sj
  obtain ⟨cs, hq, mq, hbq, hHq, hll, acs⟩ := sj
  have ef := hid_filter (O := O) (q := q) mq
  have C2 : CellsAt cl [y] [some (.ref q)] s2.heap H2 := CellsAt.later LH.cells LH.nf LH.nx I2
  have code : H2 c' = some (CodeO c' qual) := LH.tab.code (fun ps e => I2.base.tbls _ _ e) S2.tab
  have lvs : vs.length = ps.length := by rw [a2.len, ln, hes]
  have lus : us.length = ps.length := by rw [← r.length]; exact lvs
  have start : Sta Z.K (hid [q] H2) (O.filter (· ≠ q)) (q :: O.filter (· ≠ q)) H2 (startF Nl vs [some (.ref q)]) (mstart Nl.length q as l []) := by
    rw [startF_start]
    exact sta_startM (us := vs) (ws := []) (fun b h => S2.live b (List.mem_filter.mp h).1) S2.tab (fun h => by simpa using (List.mem_filter.mp h).2) hHq hll (by rw [ef]; exact acs) (by rw [ef]; exact a2) .nil
  refine wpAny_call (codeAny_mono (lam_callN (CX := fun _ _ _ _ _ _ => False) (E := fun _ _ _ => False) (Q := fun v H' => ∃ d l' cs', Kept (hid [q] H2) H' ∧ H' q = some (.lst cs') ∧ l'.length ≤ LIM ∧ AtAll Z.K (hid O H') cs' l' ∧ At Z.K (hid O H') v d ∧ ∀ v H', Sta Z.K Hb B O H' σ (δ1.set j (.ownA q l')) → Keep (hid O H) (hid O H') → At Z.K (hid O H') v d → Q v H') S (hbind us lus) lvs hr I2.env0 (ofn I2) code C2 r (fun hr2 => (hbody s2 H2 hr2).pe) ⟨_, _, _, _, start, mm _ (fun d δ2 g v H' S' k' a' => ?_) g⟩) fun o s3 hz => ?_)
  · obtain ⟨l', el', g⟩ := atA_get g
    have sj := S'.at_ as.length
    rw [el'] at sj
    obtain ⟨cs', _, _, _, hH', hl', acs'⟩ := sj
    rw [ef] at acs' a'
    exact ⟨d, l', cs', S'.same, hH', hl', acs', a', g⟩
  · match o, hz with
    | .error _, hz => exact hz.elim
    | .ok .next, hz => exact hz.elim
    | .ok .brk, hz => exact hz.elim
    | .ok .cont, hz => exact hz.elim
    | .ok (.ret u), hz =>
      obtain ⟨v, H3, I3, rv, d, l', cs', kp, hH', hl', acs', a', g⟩ := I2.after hz
      refine ⟨v, H3, I3, rv, g v H3 (S2.own_chg (by rw [el]; rfl) hq mq hbq kp (by rw [hH']; exact fun z => nomatch z) ⟨cs', rfl, mq, hbq, hH', hl', acs'⟩) (k2.trans ⟨fun b x h nt => ?_, fun b h => ?_⟩) a'⟩
      · obtain ⟨nb, h⟩ := hid_some h
        rw [hid_of nb]
        exact kp.k.k _ _ (by rw [hid_of (by simpa using fun z : b = q => nb (by rw [z]; exact mq))]; exact h) nt
      · obtain ⟨nb, h⟩ := hid_none h
        rw [hid_of nb]
        exact kp.k.l _ (by rw [hid_of (by simpa using fun z : b = q => nb (by rw [z]; exact mq))]; exact h)
end DL

/-! # a def called with a lambda that changes an own list of the caller's -/
namespace DL
variable [Tbs]
open PySem PySem.Spec PySem.Calls PyProof.Rows L2 LamX NdefX
/-- a def by its body, at one call -/
theorem body_at {P : Program} {w : World} {K : PySem.W.Frag} {mg : Str → Option Value} {base : Heap} {f : Addr} {fd : FuncData} {ps : List Str} {k : Nat} {x qual : Str} {st : Stmt} {N : List Str} {A : Around} {outer : List Env} {s : Shared} {H : Hp} {args : Args} {us : List Value} {vs : List V} {Q : VK} {σ0 : L2.St}
    (F : Fun K x qual st f fd) (S : FnScope N ps (defScope st)) (hr : Ro (k + 1) A) (e0 : Env0 P w K mg base A outer s H) (bd : BindsTo s fd args (ps.zip us)) (rv : Vals vs us) (ln : vs.length = ps.length)
    (gh : ∀ (cdv : Value) (s1 : Shared), L2.Inv (cxOf CX0 P w K mg base N qual (defScope st) f cdv A outer s H (fun _ _ _ => False)) [] (start N vs) H s1 → L2.Inv (cxOf CX0 P w K mg base N qual (defScope st) f cdv A outer s H (fun _ _ _ => False)) [] σ0 H s1)
    (hb : ∀ cdv : Value, Ro k (A.deeper (envOfC qual (defScope st) s.heap.objs.size f cdv)) → ∃ t, PSs (cxOf CX0 P w K mg base N qual (defScope st) f cdv A outer s H (fun _ _ _ => False)).nox (defBody st) t ∧ t { nx := fun _ H' => Q .non H', rt := Q } σ0 H) :
    codeAny (model P w) A (.call (.ref f) args) (CR CX0 outer P w H s Q (fun _ _ _ => False)) s := by
  obtain ⟨oc, od, kV, doc, pm, an, cdv, ct, osl, rfl, lk, hcd⟩ := F.ex
  have same := fun b o e => (e0.bs b o e).1
  refine codeAny_call_function (by have := hr.dp; omega) ((e0.mod.kin.keeps same) _ _ lk) rfl S.co S.gen rfl (PySem.W.codeRec_of (e0.mod.kin.keeps same) hcd) (bd _ _ _ _ ?_)
  have vis : ∀ y ∈ ps.zip us, (defScope st).names.lookup y.1 = some .local ∨ ((defScope st).names.lookup y.1 = some .cell ∧ ((cellsFrom (s.heap.objs.size + 1) (defScope st).names []).lookup y.1).isSome = true) := fun y hy =>
    (S.par y.1 (List.of_mem_zip hy).1).elim .inl fun c => .inr ⟨c, PySem.W.cellsFrom_some _ _ _ (.inl c)⟩
  refine wpAny_newFunctionEnv_cells S.kind vis fun env he s1 x => ?_
  cases he
  refine ⟨(e0.mod.nolimit.keeps same).keeps x.toInCall.keep, codeAny_func ?_⟩
  obtain ⟨t, run, h⟩ := hb cdv (hr.inner _)
  have I := gh cdv _ (inv_start (CX := CX0) (E := fun _ _ _ => False) S hr.hd e0 ln rv x)
  refine wpAny_mono (run.nox.run [] s1 σ0 H _ I h) (fun fl s' z => ?_) fun _ _ z => z
  cases fl with
  | ret u =>
    obtain ⟨v, σ', H', J, r, k⟩ := z
    exact ⟨v, H', J.os, J.bare, J.base, J.hok, r, k⟩
  | next =>
    obtain ⟨σ', H', J, k⟩ := z
    exact ⟨.non, H', J.os, J.bare, J.base, J.hok, rfl, k⟩
  | brk => obtain ⟨_, _, _, k⟩ := z; exact k.elim
  | cont => obtain ⟨_, _, _, k⟩ := z; exact k.elim
/-- a place whose name the def has not may hold anything -/
theorem ghost {X : Cx} {pins : List (Addr × Obj)} {σ : L2.St} {H : Hp} {s : Shared} {i : Nat} {g : Str} {v : Option V} (I : L2.Inv X pins σ H s) (hi : X.N[i]? = some g) (nv : ¬ Vis X.env.scope g) : L2.Inv X pins (σ.set i v) H s := by
  obtain ⟨m, hn, hl⟩ := I.loc
  refine ⟨I.ok, I.os, I.bare, I.base, ⟨m, hn, fun j x w h1 h2 h3 => ?_⟩, I.cell, I.free, I.freeC, I.pin, I.hok, by rw [List.length_set]; exact I.len⟩
  by_cases e : i = j
  · subst e
    rw [hi] at h1
    rw [← Option.some.inj h1] at h3
    exact absurd h3 nv
  · rw [List.getElem?_set_ne e] at h2
    exact hl j x w h1 h2 h3
theorem cell_nfs {X : Cx} {pins : List (Addr × Obj)} {σ : L2.St} {H : Hp} {s : Shared} (I : L2.Inv X pins σ H s) {y : Str} {c : Addr} (h : X.env.cells.lookup y = some c) (hf : X.fn y = true) : c ∉ frs X.stack := fun z => by
  rcases List.mem_cons.mp (I.stkSub _ z) with e | e
  · exact I.cne y c h e
  · obtain ⟨_, o, ho, _⟩ := I.ok.funs.mem e
    exact absurd (Nat.lt_of_lt_of_le (Heap.lt_size ho) (I.ok.cab y c hf h)) (Nat.lt_irrefl _)
/-- folded(x, lambda ..): slot j of the caller holds the list that the lambda changes -/
def mFold (j n : Nat) (x : DX) (g : Addr → Addr → DS) : DM := fun δ Q => x δ fun d => match sl δ j with
  | .own l => ∀ f q, ∃ R : D → List D → Prop, g f q (endM q 2 R) (mstart n q [d, .ref f] l []) ∧ ∀ d' l', R d' l' → Q d' (δ.set j (.own l'))
  | _ => False
theorem m_fold {X : Cx} {K : PySem.W.Frag} {x : DX} {e1 : Expr} {params : Arguments} {body : Expr} {scope : Scope} {p lpos pos : Pos} {c P : Addr} {stF : Stmt} {NF : List Str} {p1 p2 : Str} {y gn fname : Str} {j k : Nat} {g : Addr → Addr → DS} (h : PD X K e1 x)
    (TB : TabB X.base X.mg c P) (hm : (P, X.env.qual ++ "<lambda>") ∈ Tbs.T) (hu2 : ∀ p ∈ Tbs.T, p.1 = P → p.2 = X.env.qual ++ "<lambda>") (hr : Ro (k + 1) X.A) (Dd : Df X.K X.mg fname stF [p1, p2]) (SF : FnScope NF [p1, p2] (defScope stF))
    (hgn : NF[2]? = some gn) (nv : ¬ Vis (defScope stF) gn)
    (hb : ∀ (f q f0 : Addr) (cl : List (Str × Addr)) (pm : Value) (c' : Addr) (ctv cdv : Value) (s : Shared) (H : Hp), Ro k (X.A.deeper (envOfC fname (defScope stF) s.heap.objs.size f0 cdv)) →
      LamH (cxOf CX0 X.prog X.w X.K X.mg X.base NF fname (defScope stF) f0 cdv X.A X.stack s H (fun _ _ _ => False)).nox f q (X.env.qual ++ "<lambda>") params body scope cl pm c' ctv P y →
      SDs (cxOf CX0 X.prog X.w X.K X.mg X.base NF fname (defScope stF) f0 cdv X.A X.stack s H (fun _ _ _ => False)).nox X.K (fun _ _ _ => False) (defBody stF) (g f q))
    (hfree : ∀ y ∈ scope.names, y.2 = .free → X.env.scope.names.lookup y.1 = some .cell ∨ X.env.scope.names.lookup y.1 = some .free) (hfrn : ∀ z ∈ [y], (z, NameKind.free) ∈ scope.names) (hjs : [j].map (fun j => X.N[j]?) = [y].map some) (hfn : ∀ z, X.fn z = true := by intro _; rfl)
    (hcode : X.env.code = .ref c := by rfl) (hdef : defaultsOf params X.env = ([], []) := by rfl) (hK : X.K = K := by rfl) (hgl : Gl X fname := by rfl) (hdb : (fname == ("__debug__" : Str)) = false := by decide)
    (he : starEach [e1, .Lambda params body scope lpos] X.env = (false, eval e1 X.env) :: starEach [.Lambda params body scope lpos] X.env := by rfl) (he2 : starEach [.Lambda params body scope lpos] X.env = (false, eval (.Lambda params body scope lpos) X.env) :: starEach [] X.env := by rfl)
    (hpl : (backTo pos (starEach [.Lambda params body scope lpos] X.env)).any (·.1) = false := by rfl) :
    MD X K (.Call (.Name fname p) [e1, .Lambda params body scope lpos] [] pos) (mFold j NF.length x g) := by
  subst hK
  obtain ⟨f0, fd, gf0, F, bnd⟩ := Dd
  refine ⟨fun δ Q Q' i q => h.mono δ (fun d k => ?_) q, ⟨fun pins s σ H Q I ⟨Hb, B, O, δ, S, q⟩ => ?_⟩⟩
  · cases e : sl δ j with
    | own l => rw [e] at k; exact fun f q => let ⟨R, k1, k2⟩ := k f q; ⟨R, k1, fun d' l' r => i _ _ (k2 d' l' r)⟩
    | no => rw [e] at k; exact k.elim
    | d _ => rw [e] at k; exact k.elim
    | ownA _ _ => rw [e] at k; exact k.elim
    | owk _ _ => rw [e] at k; exact k.elim
  have hfree' : ∀ y ∈ scope.names, y.2 = .free → ∃ c, X.env.cells.lookup y.1 = some c := fun y hy e => (hfree y hy e).elim (fun z => I.ok.has _ (.inl z)) fun z => I.ok.has _ (.inr z)
  refine wpAny_Call_Name_kw (ld_glob I hgl gf0 (PySem.W.callWith_K (h₀ := X.base) I.ok.mod.kin F.kp ?_ he hpl) hdb)
  let G : D → Prop := fun d => ∃ l, sl δ j = .own l ∧ ∀ f q, ∃ R : D → List D → Prop, g f q (endM q 2 R) (mstart NF.length q [d, .ref f] l []) ∧ ∀ d' l', R d' l' → ∀ v H', Sta X.K Hb B O H' σ (δ.set j (.own l')) → Keep (hid O H) (hid O H') → At X.K (hid O H') v d' → Q v H'
  let R1 : V → Hp → Prop := fun v H1 => ∃ d, Same H H1 ∧ At X.K (hid O H1) v d ∧ G d
  have q1 : x δ G := h.mono δ (fun d k => by
    cases e : sl δ j with
    | own l => rw [e] at k; exact ⟨l, e, k⟩
    | no => rw [e] at k; exact k.elim
    | d _ => rw [e] at k; exact k.elim
    | ownA _ _ => rw [e] at k; exact k.elim
    | owk _ _ => rw [e] at k; exact k.elim) q
  rw [he]
  show wpAny _ _ (spliced ((false, eval e1 X.env) :: backTo pos (starEach [.Lambda params body scope lpos] X.env))) _ _ s
  refine Calls.spliced_cons (thn (h.pe.run pins s σ H R1 I ⟨Hb, B, O, δ, S, h.mono δ (fun d k v H' s a => ⟨d, s, a, k⟩) q1⟩) fun u s1 ⟨v, H1, I1, r1, d, s01, av, l, el, gd⟩ => ?_)
  rw [he2]
  show wpAny _ _ (spliced ((false, eval (.Lambda params body scope lpos) X.env) :: backTo pos (starEach [] X.env))) _ _ s1
  refine Calls.spliced_cons (lam_mk2 I1 TB hcode hm hu2 (s01.t S.tab) hdef hfree' fun f c' pm ctv H3 s3 I3 k3 t3 gf nf nfr tab => Calls.spliced_nil ⟨I3.kIn, ?_⟩)
  have s13 : Same H1 H3 := ⟨k3, fun _ => t3⟩
  have S3 := S.grow (s01.trans s13)
  have k03 : Keep (hid O H) (hid O H3) := hid_same (s01.trans s13)
  have av3 := av.mono (hid_same s13)
  have sj := S3.at_ j
  rw [el] at sj
  obtain ⟨q, cs, hq, mq, hbq, hHq, hll, acs⟩ := sj
  have ef := hid_filter (O := O) (q := q) mq
  have caps := Caps.made I3.ok hfree hfrn hjs
  have C3 : CellsAt (cloFrom X.env.cells scope.names []) [y] [some (.ref q)] s3.heap H3 := by
    have := cells_of I3 caps
    have e : [j].map (NdefX.slotAt σ) = [some (.ref q)] := by
      show [NdefX.slotAt σ j] = _
      unfold NdefX.slotAt
      rw [hq]
    rw [e] at this
    exact this
  have LH : ∀ cdv, LamH (cxOf CX0 X.prog X.w X.K X.mg X.base NF fname (defScope stF) f0 cdv X.A X.stack s3 H3 (fun _ _ _ => False)).nox f q (X.env.qual ++ "<lambda>") params body scope (cloFrom X.env.cells scope.names []) pm c' ctv P y := fun cdv =>
    ⟨gf, nf, nfr, fun z => absurd (show f ∈ ([] : List Addr) from z) (by simp), tab, C3, fun z a e => cell_nfs I3 (caps.sub z a e) (hfn z), fun z a e w => absurd (show a ∈ ([] : List Addr) from w) (by simp)⟩
  obtain ⟨R, gR, hR⟩ := gd f q
  have rr : Vals [v, .ref f] [u, .ref f] := .cons r1 (.cons rfl .nil)
  have start2 : L2.start NF ([v, .ref f] ++ [.ref q]) = (L2.start NF [v, .ref f]).set 2 (some (.ref q)) := by
    have l3 : 3 ≤ NF.length := by
      have := (List.getElem?_eq_some_iff.mp hgn).1
      omega
    unfold L2.start
    obtain ⟨m, hm⟩ : ∃ m, NF.length = m + 3 := ⟨NF.length - 3, by omega⟩
    rw [hm]
    show [some v, some (.ref f), some (.ref q)] ++ List.replicate (m + 3 - 3) none = ([some v, some (.ref f)] ++ List.replicate (m + 3 - 2) none).set 2 (some (.ref q))
    rw [show m + 3 - 3 = m from rfl, show m + 3 - 2 = m + 1 from rfl, List.replicate_succ]
    rfl
  have start : Sta X.K (hid [q] H3) (O.filter (· ≠ q)) (q :: O.filter (· ≠ q)) H3 (L2.start NF ([v, .ref f] ++ [.ref q])) (mstart NF.length q [d, .ref f] l []) :=
    sta_startM (us := [v, .ref f]) (ws := []) (fun b h => S3.live b (List.mem_filter.mp h).1) S3.tab (fun h => by simpa using (List.mem_filter.mp h).2) hHq hll (by rw [ef]; exact acs) (by rw [ef]; exact .cons av3 (.cons (.ref f) .nil)) .nil
  rw [start2] at start
  refine wpAny_call (codeAny_mono (body_at (Q := fun v H' => ∃ d' l' cs', Kept (hid [q] H3) H' ∧ H' q = some (.lst cs') ∧ l'.length ≤ LIM ∧ AtAll X.K (hid O H') cs' l' ∧ At X.K (hid O H') v d' ∧ ∀ v H', Sta X.K Hb B O H' σ (δ.set j (.own l')) → Keep (hid O H) (hid O H') → At X.K (hid O H') v d' → Q v H') F SF hr I3.env0 (bnd s3 [u, .ref f] I3.kIn rfl) rr rfl (fun cdv s' J => ghost J hgn nv) fun cdv hr2 => ⟨_, (hb f q f0 _ pm c' ctv cdv s3 H3 hr2 (LH cdv)).pss, _, _, _, _, endM q 2 R, start, gR, ?_⟩) fun o s4 hz => ?_)
  · have fin : ∀ {O' σ' H' δ' v d'}, Sta X.K (hid [q] H3) (O.filter (· ≠ q)) O' H' σ' δ' → At X.K (hid O' H') v d' → atA q 2 δ' (R d') → ∃ d' l' cs', Kept (hid [q] H3) H' ∧ H' q = some (.lst cs') ∧ l'.length ≤ LIM ∧ AtAll X.K (hid O H') cs' l' ∧ At X.K (hid O H') v d' ∧ ∀ v H', Sta X.K Hb B O H' σ (δ.set j (.own l')) → Keep (hid O H) (hid O H') → At X.K (hid O H') v d' → Q v H' := fun {O' σ' H' δ' v d'} S' a h => by
      obtain ⟨l', cs', k, h4, h5, h6, h7⟩ := atA_at h (S'.at_ 2)
      have hs : Keep (hid O' H') (hid O H') := hid_sub fun p z => by
        by_cases e : p = q
        · rw [e]; exact h7
        · exact S'.sub p (List.mem_filter.mpr ⟨z, by simpa using e⟩)
      exact ⟨d', l', cs', S'.same, h4, h5, h6.mono hs, a.mono hs, hR d' l' k⟩
    exact ⟨fun O' σ' H' δ' S' k => fin S' .non k, fun _ _ _ _ _ k => k.elim, fun _ _ _ _ _ k => k.elim, fun _ _ _ _ _ k => k.elim, fun _ _ _ k => k.elim, fun O' σ' H' δ' v d' S' a k => fin S' a k⟩
  · match o, hz with
    | .error _, hz => exact hz.elim
    | .ok .next, hz => exact hz.elim
    | .ok .brk, hz => exact hz.elim
    | .ok .cont, hz => exact hz.elim
    | .ok (.ret u'), hz =>
      obtain ⟨v', H4, I4, rv, d', l', cs', kp, hH', hl', acs', a', gg⟩ := I3.after hz
      refine ⟨v', H4, I4, rv, gg v' H4 (S3.own_chg (by rw [el]; rfl) hq mq hbq kp (by rw [hH']; exact fun z => nomatch z) ⟨q, cs', rfl, mq, hbq, hH', hl', acs'⟩) (k03.trans ⟨fun b x h nt => ?_, fun b h => ?_⟩) a'⟩
      · obtain ⟨nb, h⟩ := hid_some h
        rw [hid_of nb]
        exact kp.k.k _ _ (by rw [hid_of (by simpa using fun z : b = q => nb (by rw [z]; exact mq))]; exact h) nt
      · obtain ⟨nb, h⟩ := hid_none h
        rw [hid_of nb]
        exact kp.k.l _ (by rw [hid_of (by simpa using fun z : b = q => nb (by rw [z]; exact mq))]; exact h)
/-- own.pop() within an expression -/
def mPop0 (i : Nat) : DM := fun δ Q => onMut (fun l up => onSome l.getLast? fun d => Q d (δ.set i (up l.dropLast))) (sl δ i)
theorem m_pop0 {X : Cx} {K : PySem.W.Frag} {i : Nat} {x : Str} {p1 p2 p3 : Pos} (hN : X.N[i]? = some x := by rfl) (hK : X.K = K := by rfl) (hv : Vis X.env.scope x := by first | exact Or.inl rfl | exact Or.inr (Or.inl rfl) | exact Or.inr (Or.inr rfl)) (hd : (x == ("__debug__" : Str)) = false := by decide)
    (hcd : (x == ("__classdict__" : Str)) = false := by decide) (hbase : attributeBase (.Name x p1) "pop" X.env (eval (.Name x p1) X.env) = eval (.Name x p1) X.env := by rfl) (hline : (p2.endLine == p3.line) = true := by rfl) :
    MD X K (.Call (.Attribute (.Name x p1) "pop" p2) [] [] p3) (mPop0 i) := by
  subst hK
  refine ⟨fun δ Q Q' j q => onMut_mono (fun l up => onSome_mono fun d q => j _ _ q) q, pe_weak (pe_bm0 PySem.F.plainAttrs_list PySem.F.slot_list_pop PySem.F.type_list_pop mt_pop (pe_var hN hv hd hcd) hbase hline) fun σ H Q ⟨Hb, B, O, δ, S, q⟩ => ?_⟩
  obtain ⟨l, up, r, cs, e1, q, h5, h6, h7, h8, h9, h10, h11, h12⟩ := onMut_at q (S.at_ i)
  obtain ⟨d, e2, k⟩ := of_onSome q
  rw [List.getLast?_eq_getElem?] at e2
  obtain ⟨v, ev, av⟩ := h10.get' e2
  rw [← h10.len] at ev
  have eh : hid O (upd H r (.lst cs.dropLast)) = hid O H := hid_upd h6
  refine ⟨_, h5, .inl ⟨rfl, _, .inl (.inl h8)⟩, r, cs, v, rfl, rfl, h8, ev, k v _ (S.own_upd (by rw [e1]; exact h11 l) h5 h6 h7 (h12 _ _ _ upd_same ?_ ?_)) (by rw [eh]; exact .refl _) (by rw [eh]; exact av)⟩
  · rw [List.length_dropLast]; omega
  · rw [eh, List.dropLast_eq_take, List.dropLast_eq_take, h10.len]
    exact h10.take _
end DL

/-! # is not True; len(set(ints)); key not in a dict, as a value -/
namespace DL
variable [Tbs]
open PySem L2
section
variable {X : Cx} {K : PySem.W.Frag} {a b : Expr} {pos : Pos}
def oIsnB : D → D → (D → Prop) → Prop
  | .bl a, .bl b, Q => Q (.bl (!decide (a = b)))
  | _, _, _ => False
theorem oIsnB_ex {d e : D} {Q : D → Prop} (h : oIsnB d e Q) : ∃ a b, d = .bl a ∧ e = .bl b ∧ Q (.bl (!decide (a = b))) := by
  unfold oIsnB at h
  split at h
  · exact ⟨_, _, rfl, rfl, h⟩
  · exact h.elim
theorem o_isnB : OpD X K (compareOp .IsNot) oIsnB := by
  refine ⟨fun a b Q Q' i q => ?_, _, op_isnot_bl, fun O H x y a b Q l ax ay q => ?_⟩
  · obtain ⟨c, d, rfl, rfl, q⟩ := oIsnB_ex q
    exact i _ q
  · obtain ⟨c, d, rfl, rfl, q⟩ := oIsnB_ex q
    exact ⟨c, d, ax.bl, ay.bl, q _ H (.refl H) (.bl _)⟩
/-- len(set(x)), x a list of ints, no two alike -/
def gLenSet (Q : D → Prop) : D → Prop
  | .lst l => ∃ ns : List Int, l = ns.map D.int ∧ ns.Nodup ∧ ns.length ≤ 4000 ∧ Q (.int (ns.length : Nat))
  | _ => False
theorem gLenSet_mono {Q Q' : D → Prop} (i : ∀ d, Q d → Q' d) (d : D) (q : gLenSet Q d) : gLenSet Q' d := by
  unfold gLenSet at q ⊢
  split at q
  · obtain ⟨ns, h1, h2, h3, q⟩ := q; exact ⟨ns, h1, h2, h3, i _ q⟩
  · exact q
theorem d_lenSet {x : DX} {p p2 pos2 : Pos} (hl : X.mg "len" = none) (ht : X.mg "set" = none) (h : QD X K a x) (hK : X.K = K := by rfl) (hc : X.calm = true := by rfl) (hg : Gl X "len" := by rfl) (hg2 : Gl X "set" := by rfl)
    (na : starEach [a] X.env = (false, eval a X.env) :: starEach [] X.env := by rfl) : PD X K (.Call (.Name "len" p) [.Call (.Name "set" p2) [a] [] pos2] [] pos) (fun δ Q => x δ (gLenSet Q)) := by
  subst hK
  refine ⟨fun δ Q Q' i q => h.mono δ (gLenSet_mono i) q, pe_weak (RZ.pe_lenSetI hg hl hg2 ht h.pe hc na) fun σ H Q ⟨Hb, B, O, δ, S, q⟩ => ⟨Hb, B, O, δ, S, h.mono δ (fun d k v H1 s1 a => ?_) q⟩⟩
  unfold gLenSet at k
  split at k
  · obtain ⟨ns, rfl, h1, h2, k⟩ := k
    obtain ⟨p, vs, rfl, h3, h4, h5⟩ := a.list
    obtain rfl := h5.ints_of
    exact ⟨p, ns, rfl, .inl (.inl h3), h1, h2, k _ H1 s1 (.int _)⟩
  · exact k.elim
theorem d_dnin {x y : DX} (ha : QD X K a x) (hb : QD X K b y) (hu : X.A.units + 64 < cLine) (hm : behindInMarks .NotIn b = false := by rfl) : PD X K (.Compare a [.NotIn] [b] pos) (fun δ Q => x δ fun d => y δ fun e => gIn (fun b => !b) (fun b => Q (.bl b)) d e) := by
  refine ⟨fun δ Q Q' i q => ha.mono δ (fun d => hb.mono δ fun e => gIn_mono (fun b => i _) d e) q, pe_weak (pe_cmp (pc_dnotin (by omega) ha.pe hb.pe) hm) fun σ H Q ⟨Hb, B, O, δ, S, q⟩ => ⟨Hb, B, O, δ, S, ha.mono δ (fun d q v H1 s1 a1 => ⟨Hb, B, O, δ, S.grow s1, hb.mono δ (fun e q w H2 s2 a2 => ?_) q⟩) q⟩⟩
  unfold gIn at q
  split at q
  · obtain ⟨k, e, q⟩ := of_onSome q
    obtain ⟨p, vs, rfl, h1, h2, h3, h4⟩ := a2.dict
    refine ⟨p, _, rfl, .inl ⟨_, k, h1, keyD_at e (a1.grow s2), rfl⟩, ?_⟩
    rw [valV_zip k _ _ h2]
    exact q _ H2 (s1.trans s2) (.bl _)
  · exact q.elim
end
end DL

namespace DL
variable [Tbs]
open PySem L2
/-! # structures: plain -/
inductive Wd where
  | one | left | right | and | row | set | ring
  deriving DecidableEq
def Wd.s : Wd → Str
  | .one => "one" | .left => "left" | .right => "right" | .and => "and" | .row => "row" | .set => "set" | .ring => "ring"
def Wd.mem : Wd → Bool
  | .row | .set | .ring => true
  | _ => false
inductive Tr where
  | atom (l : Option Nat) | node (w : Wd) (ps : List Tr)
instance : Inhabited Tr := ⟨.node .one []⟩
mutual
theorem Tr.ind {P : Tr → Prop} (ha : ∀ l, P (.atom l)) (hn : ∀ w ps, (∀ p ∈ ps, P p) → P (.node w ps)) : ∀ t, P t
  | .atom l => ha l
  | .node w ps => hn w ps (Tr.inds ha hn ps)
theorem Tr.inds {P : Tr → Prop} (ha : ∀ l, P (.atom l)) (hn : ∀ w ps, (∀ p ∈ ps, P p) → P (.node w ps)) : ∀ ts : List Tr, ∀ p ∈ ts, P p
  | [], _, h => by cases h
  | t :: ts, p, h => by
    rcases List.mem_cons.mp h with e | h
    · rw [e]; exact Tr.ind ha hn t
    · exact Tr.inds ha hn ts p h
end
def encW (w : Wd) (ds : List D) : D := if w.mem = true then .tup [.str w.s, .tup ds] else .tup (.str w.s :: ds)
mutual
def encT : Tr → D
  | .atom none => .tup [.str "atom"]
  | .atom (some n) => .tup [.str "atom", .int n]
  | .node w ps => encW w (encTs ps)
def encTs : List Tr → List D
  | [] => []
  | t :: ts => encT t :: encTs ts
end
theorem encTs_map : ∀ ts : List Tr, encTs ts = ts.map encT
  | [] => rfl
  | t :: ts => by rw [encTs, encTs_map ts]; rfl
theorem enc_node (w : Wd) (ps : List Tr) : encT (.node w ps) = encW w (ps.map encT) := by rw [encT, encTs_map]
mutual
def sizeT : Tr → Nat
  | .atom _ => 1
  | .node _ ps => sizeTs ps
def sizeTs : List Tr → Nat
  | [] => 0
  | t :: ts => sizeT t + sizeTs ts
end
theorem sizeTs_sum : ∀ ts : List Tr, sizeTs ts = (ts.map sizeT).sum
  | [] => rfl
  | t :: ts => by rw [sizeTs, sizeTs_sum ts, List.map_cons, List.sum_cons]
theorem size_node (w : Wd) (ps : List Tr) : sizeT (.node w ps) = (ps.map sizeT).sum := by rw [sizeT, sizeTs_sum]
mutual
def labs : Tr → List Nat
  | .atom none => []
  | .atom (some n) => [n]
  | .node _ ps => labss ps
def labss : List Tr → List Nat
  | [] => []
  | t :: ts => labs t ++ labss ts
end
theorem labss_flat : ∀ ts : List Tr, labss ts = ts.flatMap labs
  | [] => rfl
  | t :: ts => by rw [labss, labss_flat ts, List.flatMap_cons]
theorem labs_node (w : Wd) (ps : List Tr) : labs (.node w ps) = ps.flatMap labs := by rw [labs, labss_flat]
mutual
def dep : Tr → Nat
  | .atom _ => 0
  | .node _ ps => deps ps + 1
def deps : List Tr → Nat
  | [] => 0
  | t :: ts => max (dep t) (deps ts)
end
theorem dep_node (w : Wd) (ps : List Tr) : dep (.node w ps) = deps ps + 1 := by rw [dep]
theorem dep_mem {p : Tr} : ∀ {ts : List Tr}, p ∈ ts → dep p ≤ deps ts
  | [], h => by cases h
  | t :: ts, h => by
    rw [deps]
    rcases List.mem_cons.mp h with rfl | h
    · exact Nat.le_max_left _ _
    · exact Nat.le_trans (dep_mem h) (Nat.le_max_right _ _)
theorem deps_le {ts : List Tr} {n : Nat} (h : ∀ p ∈ ts, dep p ≤ n) : deps ts ≤ n := by
  induction ts with
  | nil => exact Nat.zero_le _
  | cons t ts ih => rw [deps]; exact Nat.max_le.mpr ⟨h t List.mem_cons_self, ih fun p hp => h p (List.mem_cons_of_mem _ hp)⟩
mutual
def nodes : Tr → Nat
  | .atom _ => 1
  | .node _ ps => nodess ps + 1
def nodess : List Tr → Nat
  | [] => 0
  | t :: ts => nodes t + nodess ts
end
theorem nodess_sum : ∀ ts : List Tr, nodess ts = (ts.map nodes).sum
  | [] => rfl
  | t :: ts => by rw [nodess, nodess_sum ts, List.map_cons, List.sum_cons]
theorem nodes_node (w : Wd) (ps : List Tr) : nodes (.node w ps) = (ps.map nodes).sum + 1 := by rw [nodes, nodess_sum]
/-- as many parts as the word wants -/
def arity (w : Wd) (n : Nat) : Bool := match w with
  | .one => n == 0
  | .left => n == 1
  | .right => n == 1
  | .and => n == 2
  | _ => true
mutual
def wfT : Tr → Bool
  | .atom _ => true
  | .node w ps => arity w ps.length && wfTs ps
def wfTs : List Tr → Bool
  | [] => true
  | t :: ts => wfT t && wfTs ts
end
theorem wfTs_all : ∀ ts : List Tr, wfTs ts = ts.all wfT
  | [] => rfl
  | t :: ts => by rw [wfTs, wfTs_all ts, List.all_cons]
theorem wf_node {w : Wd} {ps : List Tr} : wfT (.node w ps) = true ↔ arity w ps.length = true ∧ ∀ p ∈ ps, wfT p = true := by
  rw [wfT, Bool.and_eq_true, wfTs_all, List.all_eq_true]
/-! ### labels in order -/
def insN (x : Nat) : List Nat → List Nat
  | [] => [x]
  | y :: l => if x ≤ y then x :: y :: l else y :: insN x l
def isN : List Nat → List Nat
  | [] => []
  | x :: l => insN x (isN l)
theorem insN_perm (x : Nat) : ∀ l, (insN x l).Perm (x :: l)
  | [] => List.Perm.refl _
  | y :: l => by
    unfold insN
    split
    · exact List.Perm.refl _
    · exact ((insN_perm x l).cons y).trans (List.Perm.swap x y l)
theorem insN_ord (x : Nat) : ∀ l : List Nat, l.Pairwise (· ≤ ·) → (insN x l).Pairwise (· ≤ ·)
  | [], _ => by unfold insN; simp
  | y :: l, h => by
    rw [List.pairwise_cons] at h
    unfold insN
    by_cases c : x ≤ y
    · rw [if_pos c]
      refine List.pairwise_cons.mpr ⟨fun z hz => ?_, List.pairwise_cons.mpr h⟩
      rcases List.mem_cons.mp hz with rfl | hz
      · exact c
      · have := h.1 z hz; omega
    · rw [if_neg c]
      refine List.pairwise_cons.mpr ⟨fun z hz => ?_, insN_ord x l h.2⟩
      rcases List.mem_cons.mp ((insN_perm x l).mem_iff.mp hz) with rfl | hz
      · omega
      · exact h.1 z hz
theorem isN_perm : ∀ l, (isN l).Perm l
  | [] => List.Perm.refl _
  | x :: l => (insN_perm x _).trans ((isN_perm l).cons x)
theorem isN_ord : ∀ l, (isN l).Pairwise (· ≤ ·)
  | [] => List.Pairwise.nil
  | x :: l => insN_ord x _ (isN_ord l)
theorem isN_eq {a b : List Nat} (h : a.Perm b) : isN a = isN b :=
  ((isN_perm a).trans (h.trans (isN_perm b).symm)).eq_of_pairwise (fun x y _ _ h3 h4 => by omega) (isN_ord a) (isN_ord b)
def toZ (l : List Nat) : List Int := l.map fun (n : Nat) => (n : Int)
theorem natsD_Z (l : List Nat) : natsD l = (toZ l).map D.int := natsD_ints l
/-- what sorted gives -/
theorem sorted_is {ns' : List Int} {l : List Nat} (h : ns'.Perm (toZ l)) (o : ns'.Pairwise (· ≤ ·)) : ns' = toZ (isN l) := by
  refine (h.trans ((isN_perm l).map _).symm).eq_of_pairwise (fun x y _ _ h3 h4 => by omega) o ?_
  unfold toZ
  rw [List.pairwise_map]
  exact (isN_ord l).imp fun h => by omega
def labL (t : Tr) : List Nat := isN (labs t)
theorem labL_node (w : Wd) (ps : List Tr) : isN (ps.flatMap labL) = labL (.node w ps) := by
  unfold labL
  rw [labs_node]
  refine isN_eq ?_
  induction ps with
  | nil => exact List.Perm.refl _
  | cons p ps ih => rw [List.flatMap_cons, List.flatMap_cons]; exact (isN_perm _).append ih
mutual
theorem labs_size : ∀ t : Tr, (labs t).length ≤ sizeT t
  | .atom none => by simp [labs, sizeT]
  | .atom (some _) => by simp [labs, sizeT]
  | .node w ps => by rw [labs, sizeT]; exact labss_size ps
theorem labss_size : ∀ ts : List Tr, (labss ts).length ≤ sizeTs ts
  | [] => Nat.le_refl _
  | t :: ts => by
    rw [labss, sizeTs, List.length_append]
    have := labs_size t
    have := labss_size ts
    omega
end
theorem labL_len (t : Tr) : (labL t).length ≤ sizeT t := by rw [labL, (isN_perm _).length_eq]; exact labs_size t
theorem size_mem {p : Tr} : ∀ {ts : List Tr}, p ∈ ts → sizeT p ≤ (ts.map sizeT).sum
  | [], h => by cases h
  | t :: ts, h => by
    rw [List.map_cons, List.sum_cons]
    rcases List.mem_cons.mp h with rfl | h
    · omega
    · have := size_mem h; omega
theorem nodes_mem {p : Tr} : ∀ {ts : List Tr}, p ∈ ts → nodes p ≤ (ts.map nodes).sum
  | [], h => by cases h
  | t :: ts, h => by
    rw [List.map_cons, List.sum_cons]
    rcases List.mem_cons.mp h with rfl | h
    · omega
    · have := nodes_mem h; omega
theorem nodes_pos : ∀ t : Tr, 1 ≤ nodes t
  | .atom _ => by simp [nodes]
  | .node w ps => by rw [nodes]; omega
/-! ### keys -/
def wD (t : Tr) : D := .tup [.int (sizeT t : Nat), .tup (natsD (labL t))]
def prD (p : D × D) : D := .tup [p.1, p.2]
def keyOf (w : Wd) (prs : List (D × D)) (none : Bool) : D := match w, prs with
  | .left, p :: _ => .tup [.int 0, p.2]
  | .right, p :: _ => .tup [.int 1, p.2]
  | .and, p :: q :: _ => .tup [p.1, p.2, q.2]
  | .ring, prs => if none = true then .tup [.int (prs.length : Nat), .tup (prs.map prD)] else .tup (prs.map prD)
  | _, prs => .tup (prs.map prD)
mutual
def keyT : Tr → D
  | .atom _ => .tup []
  | .node w ps => keyOf w (prsT ps) (labs (.node w ps)).isEmpty
def prsT : List Tr → List (D × D)
  | [] => []
  | t :: ts => (wD t, keyT t) :: prsT ts
end
theorem prsT_map : ∀ ts : List Tr, prsT ts = ts.map fun t => (wD t, keyT t)
  | [] => rfl
  | t :: ts => by rw [prsT, prsT_map ts]; rfl
def pairT (t : Tr) : D := .tup [wD t, keyT t]
theorem key_node (w : Wd) (ps : List Tr) : keyT (.node w ps) = keyOf w (ps.map fun t => (wD t, keyT t)) (labs (.node w ps)).isEmpty := by rw [keyT, prsT_map]
theorem labL_nil (t : Tr) : (labL t).isEmpty = (labs t).isEmpty := by
  have := (isN_perm (labs t)).length_eq
  show (isN (labs t)).isEmpty = _
  cases h : labs t with
  | nil => rfl
  | cons x l =>
    rw [h] at this
    cases h2 : isN (x :: l) with
    | nil => rw [h2] at this; cases this
    | cons y m => rfl
end DL

namespace DL
variable [Tbs]
open PySem L2
def topS (i : Nat) : Stmt := PySem.Challenge.pw_speciesmill_k14_labels_left_out.main.body.getD i (.Pass ⟨0, 0, 0, 0⟩)
abbrev s_is_whole : Stmt := topS 4
theorem sc_is_whole : FnScope ["value"] ["value"] (defScope s_is_whole) := ⟨rfl, rfl, rfl, by decide +kernel, rfl, by decide +kernel, by decide +kernel⟩
abbrev s_inner_parts : Stmt := topS 10
theorem sc_inner_parts : FnScope ["structure", "word"] ["structure"] (defScope s_inner_parts) := ⟨rfl, rfl, rfl, by decide +kernel, rfl, by decide +kernel, by decide +kernel⟩
abbrev s_with_parts : Stmt := topS 11
theorem sc_with_parts : FnScope ["structure", "parts", "word"] ["structure", "parts"] (defScope s_with_parts) := ⟨rfl, rfl, rfl, by decide +kernel, rfl, by decide +kernel, by decide +kernel⟩
abbrev s_atoms_of : Stmt := topS 12
theorem sc_atoms_of : FnScope ["structure", "atoms", "todo", "part", "inner"] ["structure"] (defScope s_atoms_of) := ⟨rfl, rfl, rfl, by decide +kernel, rfl, by decide +kernel, by decide +kernel⟩
abbrev s_folded : Stmt := topS 13
theorem sc_folded : FnScope ["structure", "made", "done", "todo", "part", "ready", "inner", "first", "results", "one"] ["structure", "made"] (defScope s_folded) := ⟨rfl, rfl, rfl, by decide +kernel, rfl, by decide +kernel, by decide +kernel⟩
abbrev s_with_atoms : Stmt := topS 14
theorem sc_with_atoms : FnScope ["structure", "atoms", "left", "atom"] ["structure", "atoms"] (defScope s_with_atoms) := ⟨rfl, rfl, rfl, by decide +kernel, rfl, by decide +kernel, by decide +kernel⟩
abbrev s_flat : Stmt := topS 15
theorem sc_flat : FnScope ["nested", "row", "todo", "part", "one"] ["nested"] (defScope s_flat) := ⟨rfl, rfl, rfl, by decide +kernel, rfl, by decide +kernel, by decide +kernel⟩
abbrev s_size_of : Stmt := topS 17
theorem sc_size_of : FnScope ["structure"] ["structure"] (defScope s_size_of) := ⟨rfl, rfl, rfl, by decide +kernel, rfl, by decide +kernel, by decide +kernel⟩
abbrev s_labels_of : Stmt := topS 18
theorem sc_labels_of : FnScope ["structure", "atom", "label"] ["structure"] (defScope s_labels_of) := ⟨rfl, rfl, rfl, by decide +kernel, rfl, by decide +kernel, by decide +kernel⟩
abbrev s_is_standard : Stmt := topS 19
theorem sc_is_standard : FnScope ["structure"] ["structure"] (defScope s_is_standard) := ⟨rfl, rfl, rfl, by decide +kernel, rfl, by decide +kernel, by decide +kernel⟩
abbrev s__pair_of : Stmt := topS 20
theorem sc__pair_of : FnScope ["part", "pairs", "weight"] ["part", "pairs"] (defScope s__pair_of) := ⟨rfl, rfl, rfl, by decide +kernel, rfl, by decide +kernel, by decide +kernel⟩
abbrev s__weight_of : Stmt := topS 21
theorem sc__weight_of : FnScope ["part", "pairs", "labels", "_", "inner", "label", "size"] ["part", "pairs"] (defScope s__weight_of) := ⟨rfl, rfl, rfl, by decide +kernel, rfl, by decide +kernel, by decide +kernel⟩
abbrev s__key_of_part : Stmt := topS 22
theorem sc__key_of_part : FnScope ["word", "weight", "pairs"] ["word", "weight", "pairs"] (defScope s__key_of_part) := ⟨rfl, rfl, rfl, by decide +kernel, rfl, by decide +kernel, by decide +kernel⟩
abbrev s_one_form : Stmt := topS 23
theorem sc_one_form : FnScope ["structure", "formed", "_"] ["structure"] (defScope s_one_form) := ⟨rfl, rfl, rfl, by decide +kernel, rfl, by decide +kernel, by decide +kernel⟩
abbrev s__formed : Stmt := topS 24
theorem sc__formed : FnScope ["part", "results", "places", "parts", "place", "_", "pair"] ["part", "results"] (defScope s__formed) := ⟨rfl, rfl, rfl, by decide +kernel, rfl, by decide +kernel, by decide +kernel⟩
abbrev s__set_places : Stmt := topS 25
theorem sc__set_places : FnScope ["pairs", "places", "rows", "pair"] ["pairs"] (defScope s__set_places) := ⟨rfl, rfl, rfl, by decide +kernel, rfl, by decide +kernel, by decide +kernel⟩
abbrev s__ring_places : Stmt := topS 26
theorem sc__ring_places : FnScope ["pairs", "places", "first", "ranks", "pair"] ["pairs"] (defScope s__ring_places) := ⟨rfl, rfl, rfl, by decide +kernel, rfl, by decide +kernel, by decide +kernel⟩
abbrev s__are_labelled : Stmt := topS 27
theorem sc__are_labelled : FnScope ["pairs"] ["pairs"] (defScope s__are_labelled) := ⟨rfl, rfl, rfl, by decide +kernel, rfl, by decide +kernel, by decide +kernel⟩
abbrev s__ranks : Stmt := topS 28
theorem sc__ranks : FnScope ["rows", "ordered", "row"] ["rows"] (defScope s__ranks) := ⟨rfl, rfl, rfl, by decide +kernel, rfl, by decide +kernel, by decide +kernel⟩
abbrev s_renamed : Stmt := topS 30
theorem sc_renamed : FnScope ["structure", "names", "labels", "numbers", "label", "number"] ["structure", "names"] (defScope s_renamed) := ⟨rfl, rfl, rfl, by decide +kernel, rfl, by decide +kernel, by decide +kernel⟩
abbrev s_erased : Stmt := topS 31
theorem sc_erased : FnScope ["structure", "_"] ["structure"] (defScope s_erased) := ⟨rfl, rfl, rfl, by decide +kernel, rfl, by decide +kernel, by decide +kernel⟩
abbrev s_labelled_from : Stmt := topS 32
theorem sc_labelled_from : FnScope ["structure", "many"] ["structure"] (defScope s_labelled_from) := ⟨rfl, rfl, rfl, by decide +kernel, rfl, by decide +kernel, by decide +kernel⟩
abbrev s__labels_in_place : Stmt := topS 33
theorem sc__labels_in_place : FnScope ["structure", "atoms", "_", "label", "atom"] ["structure"] (defScope s__labels_in_place) := ⟨rfl, rfl, rfl, by decide +kernel, rfl, by decide +kernel, by decide +kernel⟩
abbrev s__with_labels : Stmt := topS 34
theorem sc__with_labels : FnScope ["structure", "labels", "label"] ["structure", "labels"] (defScope s__with_labels) := ⟨rfl, rfl, rfl, by decide +kernel, rfl, by decide +kernel, by decide +kernel⟩
abbrev s__law_is_integer : Stmt := topS 36
theorem sc__law_is_integer : FnScope ["actual"] ["actual"] (defScope s__law_is_integer) := ⟨rfl, rfl, rfl, by decide +kernel, rfl, by decide +kernel, by decide +kernel⟩
abbrev s__law_cell : Stmt := topS 37
theorem sc__law_cell : FnScope ["script", "k"] ["script", "k"] (defScope s__law_cell) := ⟨rfl, rfl, rfl, by decide +kernel, rfl, by decide +kernel, by decide +kernel⟩
abbrev s__law_mixed : Stmt := topS 38
theorem sc__law_mixed : FnScope ["cell", "k", "first", "second"] ["cell", "k"] (defScope s__law_mixed) := ⟨rfl, rfl, rfl, by decide +kernel, rfl, by decide +kernel, by decide +kernel⟩
abbrev s__law_digits : Stmt := topS 39
theorem sc__law_digits : FnScope ["cell", "count", "many", "digits", "k"] ["cell", "count", "many"] (defScope s__law_digits) := ⟨rfl, rfl, rfl, by decide +kernel, rfl, by decide +kernel, by decide +kernel⟩
abbrev s__law_menu : Stmt := topS 40
theorem sc__law_menu : FnScope ["atom", "one", "two", "pair", "tree", "some", "menu"] [] (defScope s__law_menu) := ⟨rfl, rfl, rfl, by decide +kernel, rfl, by decide +kernel, by decide +kernel⟩
abbrev s__law_spec : Stmt := topS 41
theorem sc__law_spec : FnScope ["number", "menu", "equations", "names"] ["number"] (defScope s__law_spec) := ⟨rfl, rfl, rfl, by decide +kernel, rfl, by decide +kernel, by decide +kernel⟩
abbrev s__law_made : Stmt := topS 42
theorem sc__law_made : FnScope ["equations", "expression", "room", "draws", "place", "word", "draw", "sides", "side", "found", "first", "second", "members", "most", "k"] ["equations", "expression", "room", "draws", "place"] (defScope s__law_made) := ⟨rfl, rfl, rfl, by decide +kernel, rfl, by decide +kernel, by decide +kernel⟩
abbrev s__law_parts : Stmt := topS 43
theorem sc__law_parts : FnScope ["structure"] ["structure"] (defScope s__law_parts) := ⟨rfl, rfl, rfl, by decide +kernel, rfl, by decide +kernel, by decide +kernel⟩
abbrev s__law_with : Stmt := topS 44
theorem sc__law_with : FnScope ["structure", "parts"] ["structure", "parts"] (defScope s__law_with) := ⟨rfl, rfl, rfl, by decide +kernel, rfl, by decide +kernel, by decide +kernel⟩
abbrev s__law_size : Stmt := topS 45
theorem sc__law_size : FnScope ["structure", "part"] ["structure"] (defScope s__law_size) := ⟨rfl, rfl, rfl, by decide +kernel, rfl, by decide +kernel, by decide +kernel⟩
abbrev s__law_labels : Stmt := topS 46
theorem sc__law_labels : FnScope ["structure", "found", "part"] ["structure"] (defScope s__law_labels) := ⟨rfl, rfl, rfl, by decide +kernel, rfl, by decide +kernel, by decide +kernel⟩
abbrev s__law_numbered : Stmt := topS 47
theorem sc__law_numbered : FnScope ["structure", "labels", "part"] ["structure", "labels"] (defScope s__law_numbered) := ⟨rfl, rfl, rfl, by decide +kernel, rfl, by decide +kernel, by decide +kernel⟩
abbrev s__law_order : Stmt := topS 48
theorem sc__law_order : FnScope ["cell", "size", "left", "order", "digit"] ["cell", "size"] (defScope s__law_order) := ⟨rfl, rfl, rfl, by decide +kernel, rfl, by decide +kernel, by decide +kernel⟩
abbrev s__law_drawn : Stmt := topS 49
theorem sc__law_drawn : FnScope ["equations", "name", "cell", "room"] ["equations", "name", "cell", "room"] (defScope s__law_drawn) := ⟨rfl, rfl, rfl, by decide +kernel, rfl, by decide +kernel, by decide +kernel⟩
abbrev s__law_weight : Stmt := topS 50
theorem sc__law_weight : FnScope ["structure"] ["structure"] (defScope s__law_weight) := ⟨rfl, rfl, rfl, by decide +kernel, rfl, by decide +kernel, by decide +kernel⟩
abbrev s__law_key : Stmt := topS 51
theorem sc__law_key : FnScope ["structure", "word", "pairs", "member"] ["structure"] (defScope s__law_key) := ⟨rfl, rfl, rfl, by decide +kernel, rfl, by decide +kernel, by decide +kernel⟩
abbrev s__law_form : Stmt := topS 52
theorem sc__law_form : FnScope ["structure", "parts", "labels", "places", "pairs", "at", "part", "place", "k"] ["structure"] (defScope s__law_form) := ⟨rfl, rfl, rfl, by decide +kernel, rfl, by decide +kernel, by decide +kernel⟩
abbrev s_law : Stmt := topS 53
theorem sc_law : FnScope ["script", "number", "equations", "name", "cell", "raw", "size", "due", "turn", "labels", "structure", "back", "names", "k", "one"] ["script"] (defScope s_law) := ⟨rfl, rfl, rfl, by decide +kernel, rfl, by decide +kernel, by decide +kernel⟩
structure Ad where
  cSpeciesError : Addr
  cBadLabels : Addr
  k_set_places : Addr
  t_set_places : Addr
  k_ring_places : Addr
  t_ring_places : Addr
  kwith_atoms : Addr
  twith_atoms : Addr
  f_formed : Addr
  pMEMBER_WORDS : Addr
  v_END : Value
  v_BEGIN : Value
  v_NUMBERS : Value
structure Tx (K : PySem.W.Frag) (mg : Str → Option Value) (W : Ad) : Prop where
  f__formed : mg "_formed" = some (.ref W.f_formed)
  n_isinstance : mg "isinstance" = none
  n_int : mg "int" = none
  n_bool : mg "bool" = none
  n_tuple : mg "tuple" = none
  n_reversed : mg "reversed" = none
  n_len : mg "len" = none
  n_sorted : mg "sorted" = none
  n_range : mg "range" = none
  n_sum : mg "sum" = none
  n_list : mg "list" = none
  n_min : mg "min" = none
  n_any : mg "any" = none
  n_dict : mg "dict" = none
  n_set : mg "set" = none
  g_MEMBER_WORDS : mg "MEMBER_WORDS" = some (.ref W.pMEMBER_WORDS)
  r_MEMBER_WORDS : RelV (.ref W.pMEMBER_WORDS) (.ref W.pMEMBER_WORDS)
  s_MEMBER_WORDS : ∀ H, SqT K H W.pMEMBER_WORDS [.str "row", .str "set", .str "ring"]
  a_MEMBER_WORDS : ∀ H, At K H (.ref W.pMEMBER_WORDS) (.tup [.str "row", .str "set", .str "ring"])
  g__END : mg "_END" = some W.v_END
  r__END : RelV (.int 0) W.v_END
  a__END : ∀ H, At K H (.int 0) (.int 0)
  g__BEGIN : mg "_BEGIN" = some W.v_BEGIN
  r__BEGIN : RelV (.int 1) W.v_BEGIN
  a__BEGIN : ∀ H, At K H (.int 1) (.int 1)
  g__NUMBERS : mg "_NUMBERS" = some W.v_NUMBERS
  r__NUMBERS : RelV (.int 2) W.v_NUMBERS
  a__NUMBERS : ∀ H, At K H (.int 2) (.int 2)
  e_BadLabels : Exc K mg "BadLabels" W.cBadLabels
  g_SpeciesError : mg "SpeciesError" = some (.ref W.cSpeciesError)
structure Ex (K : PySem.W.Frag) (W : Ad) : Prop where
  x_BadLabels : Caught K W.cSpeciesError W.cBadLabels
  is_BadLabels_BadLabels : PySem.W.kitOne K (.ref W.cBadLabels) (.ref W.cBadLabels) = some true
end DL

namespace DL
variable [Tbs]
open PySem L2
section
variable {P : Program} {w : World} {K : PySem.W.Frag} {mg : Str → Option Value} {base : Heap} {W : Ad}
/-! ### words -/
def wordS : Tr → Str
  | .atom _ => "atom"
  | .node w _ => w.s
def tailT : Tr → List D
  | .atom none => []
  | .atom (some n) => [.int n]
  | .node w ps => if w.mem = true then [.tup (ps.map encT)] else ps.map encT
def partsT : Tr → List Tr
  | .atom _ => []
  | .node _ ps => ps
theorem enc_shape : ∀ t : Tr, encT t = .tup (.str (wordS t) :: tailT t)
  | .atom none => by rw [encT]; rfl
  | .atom (some _) => by rw [encT]; rfl
  | .node w ps => by
    rw [enc_node]
    cases w <;> rfl
theorem parts_wf {t : Tr} (h : wfT t = true) : ∀ p ∈ partsT t, wfT p = true := fun p hp => by
  cases t with
  | atom l => cases hp
  | node w ps => exact (wf_node.mp h).2 p hp
theorem in_mem (w : Wd) : inD (.str w.s) [.str "row", .str "set", .str "ring"] = w.mem := by cases w <;> decide +kernel
theorem in_memA : inD (.str "atom") [.str "row", .str "set", .str "ring"] = false := by decide +kernel
theorem in_one (w : Wd) : inD (.str w.s) [.str "one", .str "atom"] = decide (w = .one) := by cases w <;> decide +kernel
theorem in_oneA : inD (.str "atom") [.str "one", .str "atom"] = true := by decide +kernel
theorem okW (w : Wd) : okD (.str w.s) = true := by cases w <;> decide +kernel
theorem okWd (t : Tr) : okD (.str (wordS t)) = true := by cases t with
  | atom l => exact (by decide +kernel : okD (.str "atom") = true)
  | node w ps => exact okW w
theorem eqD_str (a b : Str) : eqD (.str a) (.str b) = (a == b) := by unfold eqD toP PyData.eqv; rfl
theorem oEqS {a b : Str} {r : Bool} {Q : Bool → Prop} (ha : okD (.str a) = true) (hb : okD (.str b) = true) (h : (a == b) = r) (q : Q r) : oEqB Q (.str a) (.str b) := ⟨⟨ha, hb⟩, by rw [eqD_str, h]; exact q⟩
theorem bne {c : Bool} {p : Prop} (h : c = false) (k : c = true) : p := by rw [h] at k; cases k
theorem bnt {c : Bool} {p : Prop} (h : c = true) (k : c = false) : p := by rw [h] at k; cases k
theorem w_atom (w : Wd) : (w.s == ("atom" : Str)) = false := by cases w <;> decide +kernel
theorem cut_one {α : Type} (x : α) (l : List α) : cutD (x :: l) (some 1) none = l := by
  unfold cutD
  rw [HT.sIx_none, show (1 : Int) = ((1 : Nat) : Int) from rfl, HT.sIx_nat]
  have : min 1 (x :: l).length = 1 := by rw [List.length_cons]; omega
  rw [this, List.drop_succ_cons, List.drop_zero, List.length_cons, Nat.add_sub_cancel, List.take_length]
/-! ### inner_parts -/
def r_inner_parts (ds : List D) (d : D) : Prop := ∃ t : Tr, ds = [encT t] ∧ wfT t = true ∧ d = .tup ((partsT t).map encT)
theorem ok_inner_parts (T : Tx K mg W) (Dd : Df K mg "inner_parts" s_inner_parts ["structure"]) : Cal P w K mg base CX0 1 "inner_parts" ["structure"] (spW K (relR r_inner_parts)) := by
  refine cal_ok Dd sc_inner_parts (fun ds Q h => ?_) (fun f cdv A outer s H E hr => 
  (ss_cons (s_set (i := 1) sc_inner_parts.nd rfl (.inl rfl) (d_ix (qv 0) d_int.q))
  (ss_cons (s_if (t_cmp (o_in) (qv 1) (d_glob T.g_MEMBER_WORDS T.r_MEMBER_WORDS T.a_MEMBER_WORDS).q) (
    (ss_one (s_ret (d_ix (qv 0) d_int.q)))) (ss_nil))
  (ss_cons (s_if (t_cmp (o_in) (qv 1) (d_tup (a_cons d_str (a_cons d_str a_nil))).q) (
    (ss_one (s_ret (d_tup a_nil)))) (ss_nil))
  (ss_one (s_ret (d_slice (qv 0) (o_some d_int.q) o_none))))))) (fun ds Q h => ?_)

  · obtain ⟨d, ⟨t, rfl, _⟩, _⟩ := h; rfl
  · obtain ⟨d, ⟨t, rfl, hw, rfl⟩, q⟩ := h
    rw [enc_shape]
    cases t with
    | atom l => exact ⟨⟨rfl, rfl⟩, ⟨rfl, rfl⟩, q⟩
    | node w ps =>
      have ha := (wf_node.mp hw).1
      cases w with
      | one =>
        obtain rfl : ps = [] := List.length_eq_zero_iff.mp (by simpa [arity] using ha)
        exact ⟨⟨rfl, rfl⟩, ⟨rfl, rfl⟩, q⟩
      | row | set | ring => exact ⟨⟨rfl, rfl⟩, q⟩
      | left | right | and =>
        refine ⟨⟨rfl, rfl⟩, ⟨rfl, rfl⟩, ?_⟩
        show Q (.tup (cutD (_ :: ps.map encT) (some 1) none))
        rw [cut_one]; exact q
/-! ### atoms_of -/
mutual
def atomsL : Tr → List Tr
  | .atom l => [.atom l]
  | .node _ ps => atomsLs ps
def atomsLs : List Tr → List Tr
  | [] => []
  | t :: ts => atomsL t ++ atomsLs ts
end
theorem atomsLs_flat : ∀ ts : List Tr, atomsLs ts = ts.flatMap atomsL
  | [] => rfl
  | t :: ts => by rw [atomsLs, atomsLs_flat ts, List.flatMap_cons]
theorem atoms_len : ∀ t : Tr, (atomsL t).length = sizeT t := by
  refine Tr.ind (fun l => by rw [atomsL, sizeT]; rfl) fun w ps ih => ?_
  rw [atomsL, sizeT, atomsLs_flat, sizeTs_sum]
  induction ps with
  | nil => rfl
  | cons p ps ih2 => rw [List.flatMap_cons, List.length_append, List.map_cons, List.sum_cons, ih p List.mem_cons_self, ih2 fun q hq => ih q (List.mem_cons_of_mem _ hq)]
theorem atoms_labs : ∀ t : Tr, (atomsL t).flatMap labs = labs t := by
  refine Tr.ind (fun l => by rw [atomsL, List.flatMap_cons, List.flatMap_nil, List.append_nil]) fun w ps ih => ?_
  rw [atomsL, labs, atomsLs_flat, labss_flat]
  induction ps with
  | nil => rfl
  | cons p ps ih2 => rw [List.flatMap_cons, List.flatMap_append, List.flatMap_cons, ih p List.mem_cons_self, ih2 fun q hq => ih q (List.mem_cons_of_mem _ hq)]
theorem atoms_parts (t : Tr) (h : wordS t ≠ "atom") : (partsT t).flatMap atomsL = atomsL t := by
  cases t with
  | atom l => exact absurd rfl h
  | node w ps => rw [atomsL, atomsLs_flat]; rfl
theorem nodes_parts (t : Tr) : ((partsT t).map nodes).sum + 1 = nodes t := by
  cases t with
  | atom l => rw [nodes]; rfl
  | node w ps => rw [nodes_node]; rfl
theorem len_nodes : ∀ st : List Tr, st.length ≤ (st.map nodes).sum
  | [] => Nat.le_refl _
  | t :: st => by
    rw [List.length_cons, List.map_cons, List.sum_cons]
    have := len_nodes st
    have := nodes_pos t
    omega
theorem sum_app (a b : List Nat) : (a ++ b).sum = a.sum + b.sum := List.sum_append
theorem pop_last {i : Nat} {t : DG} {F : DE} {δ : List Sl} {A : List D} {x : D} (h : sl δ i = .own (A ++ [x])) (k : t x (δ.set i (.own A)) F.nx) : gPop i t F δ := by
  unfold gPop
  rw [h]
  exact onSome_of List.getLast?_concat (by rw [List.dropLast_concat]; exact k)
theorem ix0 (p : Tr) {Q : D → Prop} (q : Q (.str (wordS p))) : oIx (encT p) (.int 0) Q := by rw [enc_shape]; exact q
def r_atoms_of (ds : List D) (d : D) : Prop := ∃ t : Tr, ds = [encT t] ∧ wfT t = true ∧ nodes t ≤ 100000 ∧ d = .lst ((atomsL t).map encT)
theorem ok_atoms_of (T : Tx K mg W) (Dd : Df K mg "atoms_of" s_atoms_of ["structure"]) (C_inner_parts : Cal P w K mg base CX0 1 "inner_parts" ["structure"] (spW K (relR r_inner_parts))) : Cal P w K mg base CX0 2 "atoms_of" ["structure"] (spW K (relR r_atoms_of)) := by
  refine cal_ok Dd sc_atoms_of (fun ds Q h => ?_) (fun f cdv A outer s H E hr => 
  (ss_cons (s_own (i := 1) sc_atoms_of.nd rfl (.inl rfl) (f_lst a_nil))
  (ss_cons (s_own (i := 2) sc_atoms_of.nd rfl (.inl rfl) (f_lst (a_cons (dv 0) a_nil)))
  (ss_cons (s_while PassesOwn.never (t_truth (qv 2)) (
    (ss_cons (s_popSet 2 (g_name (i := 3) sc_atoms_of.nd rfl (.inl rfl)))
    (ss_cons (s_if (t_cmp (o_eq (hu64 hr)) (d_ix (qv 3) d_int.q).q d_str.q) (
      (ss_one (s_append 1 (dv 3)))) (ss_nil))
    (ss_one (s_extend 2 (f_lc sc_atoms_of.nd (i_revA T.n_reversed (d_call C_inner_parts relR_mono (hr.mono (by decide)) (a_cons (dv 3) a_nil))).q (blkOk_by (own := [("inner", 4)]) (N := ["structure", "atoms", "todo", "part", "inner"]) (sc := defScope s_atoms_of) (by decide +kernel)) (fun _ _ _ _ _ => (g_name (i := 4) sc_atoms_of.nd rfl (.inl rfl))) (fun _ _ _ _ _ => ts_nil) (fun _ _ _ _ _ => (dv 4))).p))))))
  (ss_one (s_frz 1 (s_ret (dv 1)))))))) (fun ds Q h => ?_)

  · obtain ⟨d, ⟨t, rfl, _⟩, _⟩ := h; rfl
  · obtain ⟨d, ⟨t, rfl, hw, hn, rfl⟩, q⟩ := h
    refine ⟨fun m δ => ∃ (st acc : List Tr) (x3 : Sl), δ = [.d (encT t), .own (acc.map encT), .own (st.reverse.map encT), x3, .no] ∧ acc ++ st.flatMap atomsL = atomsL t ∧ (∀ p ∈ st, wfT p = true) ∧ m = (st.map nodes).sum ∧ acc.length + m ≤ nodes t, ⟨nodes t, [t], [], .no, rfl, by simp, by simpa using hw, by simp, by simp⟩, ?_⟩
    rintro m δ ⟨st, acc, x3, rfl, h1, h2, rfl, h4⟩
    cases st with
    | nil =>
      rw [List.flatMap_nil, List.append_nil] at h1
      subst h1
      exact q
    | cons p st =>
      rw [List.reverse_cons, List.map_append]
      have ne : ((st.reverse.map encT) ++ [p].map encT).isEmpty = false := by
        cases h : (st.reverse.map encT) with
        | nil => rfl
        | cons a b => rfl
      refine yNB (fun _ => ?_) (fun h => absurd (ne.symm.trans h) (by decide))
      refine pop_last rfl ?_
      refine ix0 p ?_
      have hp := h2 p List.mem_cons_self
      have ep := nodes_parts p
      have lp := len_nodes (partsT p)
      have ls := len_nodes st
      rw [List.map_cons, List.sum_cons] at h4
      have fin : ∀ (acc' : List Tr), acc' ++ (partsT p).flatMap atomsL = acc ++ atomsL p → acc'.length ≤ acc.length + 1 → ∃ (st' acc2 : List Tr) (x3 : Sl), [Sl.d (encT t), Sl.own (acc'.map encT), Sl.own (st.reverse.map encT ++ ((partsT p).map encT).reverse), Sl.d (encT p), Sl.no] = [Sl.d (encT t), Sl.own (acc2.map encT), Sl.own (st'.reverse.map encT), x3, Sl.no] ∧ acc2 ++ st'.flatMap atomsL = atomsL t ∧ (∀ p ∈ st', wfT p = true) ∧ ((partsT p).map nodes).sum + (st.map nodes).sum = (st'.map nodes).sum ∧ acc2.length + (((partsT p).map nodes).sum + (st.map nodes).sum) ≤ nodes t := fun acc' e le => by
        refine ⟨partsT p ++ st, acc', .d (encT p), ?_, ?_, ?_, ?_, by omega⟩
        · rw [List.reverse_append, List.map_append, List.map_reverse (l := partsT p)]
        · rw [List.flatMap_append, ← List.append_assoc, e, ← h1, List.flatMap_cons, List.append_assoc]
        · intro q hq
          rcases List.mem_append.mp hq with hq | hq
          · exact parts_wf hp q hq
          · exact h2 q (List.mem_cons_of_mem _ hq)
        · rw [List.map_append, sum_app]
      cases p with
      | atom l =>
        show oEq (.str "atom") (.str "atom") _
        refine oEqS (by decide +kernel) (by decide +kernel) rfl ?_
        refine ⟨lt_lim (by rw [List.length_map]; omega), ?_⟩
        refine ⟨_, ⟨.atom l, rfl, hp, rfl⟩, ?_⟩
        refine lc_map id (fun x hx P p => p) ?_
        rw [List.map_id]
        refine ⟨le_lim (by simp only [List.length_append, List.length_map, List.length_reverse]; omega), ?_⟩
        obtain ⟨st', acc2, x3, e, f1, f2, f3, f4⟩ := fin (acc ++ [.atom l]) (by rw [List.append_assoc]; rfl) (by rw [List.length_append]; exact Nat.le_refl _)
        refine ⟨_, ?_, st', acc2, x3, ?_, f1, f2, f3, f4⟩
        · rw [List.map_cons, List.sum_cons]; omega
        · rw [← e, List.map_append]; rfl
      | node w ps =>
        show oEq (.str w.s) (.str "atom") _
        refine oEqS (okW w) (by decide +kernel) (w_atom w) ?_
        refine ⟨_, ⟨.node w ps, rfl, hp, rfl⟩, ?_⟩
        refine lc_map id (fun x hx P p => p) ?_
        rw [List.map_id]
        refine ⟨le_lim (by simp only [List.length_append, List.length_map, List.length_reverse]; omega), ?_⟩
        obtain ⟨st', acc2, x3, e, f1, f2, f3, f4⟩ := fin acc (by rw [atoms_parts _ (fun z => by have := w_atom w; rw [show w.s = "atom" from z] at this; exact absurd this (by decide +kernel))]) (by omega)
        refine ⟨_, ?_, st', acc2, x3, ?_, f1, f2, f3, f4⟩
        · rw [List.map_cons, List.sum_cons]; omega
        · rw [← e]; rfl
end
end DL

namespace DL
variable [Tbs]
open PySem L2
section
variable {P : Program} {w : World} {K : PySem.W.Frag} {mg : Str → Option Value} {base : Heap} {W : Ad}
theorem lcB_map {t : DG} {elt : DX} {δ : List Sl} {N : List D → Prop} (g : D → D) : ∀ {l acc : List D}, (∀ x ∈ l, ∀ (P : D → Prop), P (g x) → t x δ fun δ' => elt δ' P) → acc.length + l.length ≤ LIM → N (acc ++ l.map g) → lcRunB t tYesD elt δ N l acc
  | [], acc, _, _, q => by rw [List.map_nil, List.append_nil] at q; exact q
  | x :: l, acc, h, hl, q => by
    rw [List.length_cons] at hl
    refine h x List.mem_cons_self _ ⟨by omega, lcB_map g (fun y hy => h y (List.mem_cons_of_mem _ hy)) (by rw [List.length_append, List.length_singleton]; omega) ?_⟩
    rw [List.append_assoc]
    exact q
theorem lc2_flat {t : DG} {src1 : DAs} {t1 : DG} {elt : DX} {vs1 : List Nat} {δ : List Sl} {Q : List D → Prop} (f : D → List D) : ∀ {l acc : List D}, (∀ x ∈ l, ∀ (acc : List D) (N : List D → Prop), acc.length + (f x).length ≤ LIM → N (acc ++ f x) → t x δ fun δ1 => src1 δ1 fun l1 => lcRunB t1 tYesD elt (wipeD δ1 vs1) N l1 acc) →
    acc.length + (l.flatMap f).length ≤ LIM → Q (acc ++ l.flatMap f) → lcRun2 t tYesD src1 t1 tYesD elt vs1 δ Q l acc
  | [], acc, _, _, q => by rw [List.flatMap_nil, List.append_nil] at q; exact q
  | x :: l, acc, h, hl, q => by
    rw [List.flatMap_cons, List.length_append] at hl
    refine h x List.mem_cons_self _ _ (by omega) (lc2_flat f (fun y hy => h y (List.mem_cons_of_mem _ hy)) (by rw [List.length_append]; omega) ?_)
    rw [List.flatMap_cons, ← List.append_assoc] at q
    exact q
/-! ### size_of, labels_of -/
def r_size_of (ds : List D) (d : D) : Prop := ∃ t : Tr, ds = [encT t] ∧ wfT t = true ∧ nodes t ≤ 100000 ∧ d = .int (sizeT t : Nat)
theorem ok_size_of (T : Tx K mg W) (Dd : Df K mg "size_of" s_size_of ["structure"]) (C_atoms_of : Cal P w K mg base CX0 2 "atoms_of" ["structure"] (spW K (relR r_atoms_of))) : Cal P w K mg base CX0 3 "size_of" ["structure"] (spW K (relR r_size_of)) := by
  refine cal_ok Dd sc_size_of (fun ds Q h => ?_) (fun f cdv A outer s H E hr => 
  (ss_one (s_ret (d_callB (c_len) T.n_len (b_cons (d_call C_atoms_of relR_mono (hr.mono (by decide)) (a_cons (dv 0) a_nil)).q b_nil))))) (fun ds Q h => ?_)

  · obtain ⟨d, ⟨t, rfl, _⟩, _⟩ := h; rfl
  · obtain ⟨d, ⟨t, rfl, hw, hn, rfl⟩, q⟩ := h
    refine ⟨_, ⟨t, rfl, hw, hn, rfl⟩, ?_⟩
    show Q (.int (((atomsL t).map encT).length : Nat))
    rw [List.length_map, atoms_len]
    exact q
def fLab : D → List D
  | .tup (_ :: r) => r
  | _ => []
theorem flab_atoms (t : Tr) : ((atomsL t).map encT).flatMap fLab = natsD (labs t) := by
  rw [← atoms_labs]
  have : ∀ t : Tr, ∀ a ∈ atomsL t, ∃ l, a = .atom l := by
    refine Tr.ind (fun l a ha => ?_) fun w ps ih a ha => ?_
    · rw [atomsL] at ha; exact ⟨l, List.mem_singleton.mp ha⟩
    · rw [atomsL, atomsLs_flat] at ha
      obtain ⟨p, hp, ha⟩ := List.mem_flatMap.mp ha
      exact ih p hp a ha
  have h := this t
  generalize atomsL t = L at h
  induction L with
  | nil => rfl
  | cons a L ih =>
    rw [List.map_cons, List.flatMap_cons, List.flatMap_cons, ih fun b hb => h b (List.mem_cons_of_mem _ hb)]
    obtain ⟨l, rfl⟩ := h a List.mem_cons_self
    unfold natsD
    rw [List.map_append]
    cases l with
    | none => rw [encT, labs]; rfl
    | some n => rw [encT, labs]; rfl
theorem atoms_are (t : Tr) : ∀ a ∈ atomsL t, ∃ l, a = .atom l := by
  refine Tr.ind (P := fun t => ∀ a ∈ atomsL t, ∃ l, a = .atom l) (fun l a ha => ?_) (fun w ps ih a ha => ?_) t
  · rw [atomsL] at ha; exact ⟨l, List.mem_singleton.mp ha⟩
  · rw [atomsL, atomsLs_flat] at ha
    obtain ⟨p, hp, ha⟩ := List.mem_flatMap.mp ha
    exact ih p hp a ha
theorem size_nodes : ∀ t : Tr, sizeT t ≤ nodes t := by
  refine Tr.ind (fun l => by rw [sizeT, nodes]; exact Nat.le_refl _) fun w ps ih => ?_
  rw [size_node, nodes_node]
  induction ps with
  | nil => simp
  | cons p ps ih2 =>
    have := ih p List.mem_cons_self
    have := ih2 fun q hq => ih q (List.mem_cons_of_mem _ hq)
    rw [List.map_cons, List.sum_cons, List.map_cons, List.sum_cons]
    omega
def r_labels_of (ds : List D) (d : D) : Prop := ∃ t : Tr, ds = [encT t] ∧ wfT t = true ∧ nodes t ≤ 100000 ∧ d = .tup (natsD (labL t))
theorem ok_labels_of (T : Tx K mg W) (Dd : Df K mg "labels_of" s_labels_of ["structure"]) (C_atoms_of : Cal P w K mg base CX0 2 "atoms_of" ["structure"] (spW K (relR r_atoms_of))) : Cal P w K mg base CX0 3 "labels_of" ["structure"] (spW K (relR r_labels_of)) := by
  refine cal_ok Dd sc_labels_of (fun ds Q h => ?_) (fun f cdv A outer s H E hr => 
  (ss_one (s_ret (d_callT c_tuple T.n_tuple (b_cons (f_callB c_sortedA T.n_sorted (b_cons (f_lc2 (vs1 := [2]) sc_labels_of.nd (i_listQ (d_call C_atoms_of relR_mono (hr.mono (by decide)) (a_cons (dv 0) a_nil)).q) (blkOk_by (own := [("atom", 1), ("label", 2)]) (N := ["structure", "atom", "label"]) (sc := defScope s_labels_of) (by decide +kernel)) (fun _ _ _ _ _ => (g_name (i := 1) sc_labels_of.nd rfl (.inl rfl))) (fun _ _ _ _ _ => ts_nil) (fun _ _ _ _ _ => (i_tup (d_slice (qv 1) (o_some d_int.q) o_none))) (fun _ _ _ _ _ => (g_name (i := 2) sc_labels_of.nd rfl (.inl rfl))) (fun _ _ _ _ _ => ts_nil) (fun _ _ _ _ _ => (dv 2))).p.q b_nil)).p.q b_nil))))) (fun ds Q h => ?_)

  · obtain ⟨d, ⟨t, rfl, _⟩, _⟩ := h; rfl
  · obtain ⟨d, ⟨t, rfl, hw, hn, rfl⟩, q⟩ := h
    refine ⟨_, ⟨t, rfl, hw, hn, rfl⟩, ?_⟩
    have hl : (natsD (labs t)).length ≤ 100000 := by
      rw [natsD_len]
      have := labs_size t
      have := size_nodes t
      omega
    refine lc2_flat fLab (fun x hx acc N ha k => ?_) ?_ ?_
    · obtain ⟨a, ha', rfl⟩ := List.mem_map.mp hx
      obtain ⟨l, rfl⟩ := atoms_are t a ha'
      rw [enc_shape] at *
      show lcRunB (gN 2) tYesD (dV 2) _ N (cutD (_ :: tailT (.atom l)) (some 1) none) acc
      rw [cut_one]
      refine lcB_map id (fun x hx P p => p) ha ?_
      rw [List.map_id]
      exact k
    · rw [flab_atoms]; show 0 + _ ≤ 1000000; omega
    · rw [flab_atoms, List.nil_append]
      refine ⟨toZ (labs t), natsD_Z _, fun ns' w1 w2 => ?_⟩
      rw [sorted_is w1 w2]
      show Q (.tup _)
      rw [← natsD_Z]
      exact q
/-! ### is_standard -/
theorem eqvAll_ints : ∀ a b : List Int, PyData.eqvAll (toPs (a.map D.int)) (toPs (b.map D.int)) = decide (a = b)
  | [], [] => by unfold toPs PyData.eqvAll; rfl
  | [], _ :: _ => by rw [List.map_cons]; unfold toPs PyData.eqvAll; rfl
  | _ :: _, [] => by rw [List.map_cons]; unfold toPs PyData.eqvAll; rfl
  | x :: a, y :: b => by
    have ih := eqvAll_ints a b
    rw [List.map_cons, List.map_cons]
    show PyData.eqvAll (PyData.int x :: toPs (a.map D.int)) (PyData.int y :: toPs (b.map D.int)) = _
    unfold PyData.eqvAll
    rw [ih]
    have : PyData.eqv (.int x) (.int y) = decide (x = y) := Bool.beq_eq_decide_eq x y
    rw [this]
    by_cases h : x = y
    · subst h
      by_cases h2 : a = b
      · subst h2; rw [decide_eq_true rfl, decide_eq_true rfl, decide_eq_true rfl]; rfl
      · rw [decide_eq_false h2, decide_eq_false (fun z => h2 (List.cons.inj z).2), Bool.and_false]
    · rw [decide_eq_false h, decide_eq_false (fun z => h (List.cons.inj z).1), Bool.false_and]
theorem eqD_tup (a b : List Int) : eqD (.tup (a.map D.int)) (.tup (b.map D.int)) = decide (a = b) := by
  unfold eqD toP PyData.eqv
  exact eqvAll_ints a b
theorem okD_tup (a : List Int) : okD (.tup (a.map D.int)) = true := by
  obtain ⟨h1, h2, h3⟩ := canLay_ints (a.map D.int) fun d h => by
    obtain ⟨i, _, rfl⟩ := List.mem_map.mp h
    exact ⟨i, rfl⟩
  have e : PyData.depth (.tuple (toPs (a.map D.int))) = PyData.depthAll (toPs (a.map D.int)) + 1 := by unfold PyData.depth; rfl
  have e2 : PyData.canLay0 (.tuple (toPs (a.map D.int))) = PyData.canLayAll0 (toPs (a.map D.int)) := by unfold PyData.canLay0; rfl
  show (isDats (a.map D.int) && (PyData.canLay0 (.tuple (toPs (a.map D.int))) && decide (PyData.depth (.tuple (toPs (a.map D.int))) ≤ 64))) = true
  rw [h1, e, e2, h2, h3]; rfl
theorem oEq_tup {a b : List Int} {Q : Bool → Prop} (q : Q (decide (a = b))) : oEqB Q (.tup (a.map D.int)) (.tup (b.map D.int)) := ⟨⟨okD_tup a, okD_tup b⟩, by rw [eqD_tup]; exact q⟩
def upTo1 (n : Nat) : List Int := (List.range n).map fun (i : Nat) => 1 + (i : Int)
theorem rg_up (n : Nat) : rgD 1 ((n : Int) + 1) = (upTo1 n).map D.int := by
  unfold rgD upTo1
  rw [List.map_map, show ((n : Int) + 1 - 1).toNat = n by omega]; rfl
def stdT (t : Tr) : Bool := decide (toZ (labL t) = upTo1 (sizeT t))
def r_is_standard (ds : List D) (d : D) : Prop := ∃ t : Tr, ds = [encT t] ∧ wfT t = true ∧ nodes t ≤ 100000 ∧ d = .bl (stdT t)
theorem ok_is_standard (T : Tx K mg W) (Dd : Df K mg "is_standard" s_is_standard ["structure"]) (C_labels_of : Cal P w K mg base CX0 3 "labels_of" ["structure"] (spW K (relR r_labels_of))) (C_size_of : Cal P w K mg base CX0 3 "size_of" ["structure"] (spW K (relR r_size_of))) : Cal P w K mg base CX0 4 "is_standard" ["structure"] (spW K (relR r_is_standard)) := by
  refine cal_ok Dd sc_is_standard (fun ds Q h => ?_) (fun f cdv A outer s H E hr => 
  (ss_one (s_ret (d_cmp (o_eq (hu64 hr)) (d_call C_labels_of relR_mono (hr.mono (by decide)) (a_cons (dv 0) a_nil)).q (d_tupRg T.n_tuple (r_2 T.n_range d_int.q (d_op (o_add) (d_call C_size_of relR_mono (hr.mono (by decide)) (a_cons (dv 0) a_nil)).q d_int.q).q)).q)))) (fun ds Q h => ?_)

  · obtain ⟨d, ⟨t, rfl, _⟩, _⟩ := h; rfl
  · obtain ⟨d, ⟨t, rfl, hw, hn, rfl⟩, q⟩ := h
    have := size_nodes t
    refine ⟨_, ⟨t, rfl, hw, hn, rfl⟩, _, ⟨t, rfl, hw, hn, rfl⟩, ?_⟩
    refine ⟨rgb (by decide) (by decide) (by omega) (by omega) (by omega), ?_⟩
    rw [rg_up, natsD_Z]
    exact oEq_tup q
end
end DL

namespace DL
variable [Tbs]
open PySem L2
section
variable {P : Program} {w : World} {K : PySem.W.Frag} {mg : Str → Option Value} {base : Heap} {W : Ad}
/-! ### _weight_of -/
def fInner : D → List D
  | .tup (.tup (_ :: .tup l :: _) :: _) => l
  | _ => []
def fSize : D → D
  | .tup (.tup (s :: _) :: _) => s
  | d => d
theorem inner_flat (ps : List Tr) : (ps.map pairT).flatMap fInner = natsD (ps.flatMap labL) := by
  induction ps with
  | nil => rfl
  | cons p ps ih =>
    rw [List.map_cons, List.flatMap_cons, ih, List.flatMap_cons]
    unfold natsD
    rw [List.map_append]; rfl
theorem flat_len (ps : List Tr) : (ps.flatMap labL).length ≤ (ps.map sizeT).sum := by
  induction ps with
  | nil => exact Nat.le_refl _
  | cons p ps ih =>
    rw [List.flatMap_cons, List.length_append, List.map_cons, List.sum_cons]
    have := labL_len p
    omega
theorem size_sum (ps : List Tr) : (ps.map pairT).map fSize = ((ps.map sizeT).map fun (n : Nat) => (n : Int)).map D.int := by
  rw [List.map_map, List.map_map, List.map_map]; rfl
theorem sum_nat (l : List Nat) : (l.map fun (n : Nat) => (n : Int)).sum = (l.sum : Nat) := by
  induction l with
  | nil => rfl
  | cons x l ih => rw [List.map_cons, List.sum_cons, List.sum_cons, ih]; omega
/-- the same but for the parts -/
def Hd : Tr → Tr → Prop
  | .atom l, .atom m => l = m
  | .node w _, .node v _ => w = v
  | _, _ => False
theorem hd_self : ∀ t : Tr, Hd t t
  | .atom _ => rfl
  | .node _ _ => rfl
theorem hd_word : ∀ {t u : Tr}, Hd t u → wordS t = wordS u
  | .atom _, .atom _, _ => rfl
  | .node _ _, .node _ _, h => by have h : _ = _ := h; subst h; rfl
def r__weight_of (ds : List D) (d : D) : Prop := ∃ t' t : Tr, ds = [encT t', .lst ((partsT t).map pairT)] ∧ Hd t' t ∧ wfT t = true ∧ sizeT t ≤ 100000 ∧ d = wD t
theorem ok__weight_of (T : Tx K mg W) (Dd : Df K mg "_weight_of" s__weight_of ["part", "pairs"]) : Cal P w K mg base CX0 1 "_weight_of" ["part", "pairs"] (spW K (relR r__weight_of)) := by
  refine cal_ok Dd sc__weight_of (fun ds Q h => ?_) (fun f cdv A outer s H E hr => 
  (ss_cons (s_if (t_cmp (o_eq (hu64 hr)) (d_ix (qv 0) d_int.q).q d_str.q) (
    (ss_one (s_ret (d_tup (a_cons d_int (a_cons (d_slice (qv 0) (o_some d_int.q) o_none) a_nil)))))) (ss_nil))
  (ss_cons (s_set (i := 2) sc__weight_of.nd rfl (.inl rfl) (f_callB c_sortedA T.n_sorted (b_cons (f_lc2 (vs1 := [5]) sc__weight_of.nd (i_listQ (qv 1)) (blkOk_by (own := [("_", 3), ("inner", 4), ("label", 5)]) (N := ["part", "pairs", "labels", "_", "inner", "label", "size"]) (sc := defScope s__weight_of) (by decide +kernel)) (fun _ _ _ _ _ => (g_tup (gs_cons (g_tup (gs_cons (g_name (i := 3) sc__weight_of.nd rfl (.inl rfl)) (gs_cons (g_name (i := 4) sc__weight_of.nd rfl (.inl rfl)) gs_nil))) (gs_cons (g_name (i := 3) sc__weight_of.nd rfl (.inl rfl)) gs_nil)))) (fun _ _ _ _ _ => ts_nil) (fun _ _ _ _ _ => (i_tup (dv 4))) (fun _ _ _ _ _ => (g_name (i := 5) sc__weight_of.nd rfl (.inl rfl))) (fun _ _ _ _ _ => ts_nil) (fun _ _ _ _ _ => (dv 5))).p.q b_nil)).p)
  (ss_one (s_ret (d_tup (a_cons (d_callB (c_sumA) T.n_sum (b_cons (f_lc sc__weight_of.nd (i_listQ (qv 1)) (blkOk_by (own := [("_", 3), ("size", 6)]) (N := ["part", "pairs", "labels", "_", "inner", "label", "size"]) (sc := defScope s__weight_of) (by decide +kernel)) (fun _ _ _ _ _ => (g_tup (gs_cons (g_tup (gs_cons (g_name (i := 6) sc__weight_of.nd rfl (.inl rfl)) (gs_cons (g_name (i := 3) sc__weight_of.nd rfl (.inl rfl)) gs_nil))) (gs_cons (g_name (i := 3) sc__weight_of.nd rfl (.inl rfl)) gs_nil)))) (fun _ _ _ _ _ => ts_nil) (fun _ _ _ _ _ => (dv 6))).p.q b_nil)) (a_cons (d_callT c_tuple T.n_tuple (b_cons (qv 2) b_nil)) a_nil)))))))) (fun ds Q h => ?_)

  · obtain ⟨d, ⟨t', t, rfl, _⟩, _⟩ := h; rfl
  · obtain ⟨d, ⟨t', t, rfl, hd, hw, hn, rfl⟩, q⟩ := h
    refine ix0 t' ?_
    rw [hd_word hd]
    cases t with
    | atom l =>
      obtain rfl : t' = .atom l := by
        cases t' with
        | atom m => rw [show m = l from hd]
        | node _ _ => exact hd.elim
      show oEq (.str "atom") (.str "atom") _
      refine oEqS (by decide +kernel) (by decide +kernel) rfl ?_
      rw [enc_shape]
      show Q (.tup [.int 1, .tup (cutD (_ :: tailT (.atom l)) (some 1) none)])
      rw [cut_one]
      cases l with
      | none => exact q
      | some n => exact q
    | node w ps =>
      show oEq (.str w.s) (.str "atom") _
      refine oEqS (okW w) (by decide +kernel) (w_atom w) ?_
      have hs : (ps.map sizeT).sum ≤ 100000 := by rw [← size_node w]; exact hn
      refine lc2_flat fInner (fun x hx acc N ha k => ?_) ?_ ?_
      · obtain ⟨p, hp, rfl⟩ := List.mem_map.mp hx
        refine lcB_map id (fun x hx P p => p) ha ?_
        rw [List.map_id]
        exact k
      · show 0 + ((ps.map pairT).flatMap fInner).length ≤ 1000000
        rw [inner_flat, natsD_len]
        have := flat_len ps
        omega
      · rw [show partsT (Tr.node w ps) = ps from rfl, inner_flat, List.nil_append]
        refine ⟨toZ (ps.flatMap labL), natsD_Z _, fun ns' w1 w2 => ?_⟩
        rw [sorted_is w1 w2, labL_node w]
        refine lc_map fSize (fun x hx P p => ?_) ?_
        · obtain ⟨a, ha, rfl⟩ := List.mem_map.mp hx
          exact p
        · rw [size_sum]
          refine ⟨_, rfl, ?_⟩
          rw [sum_nat, ← size_node w]
          show Q (.tup [_, .tup ((toZ (labL (.node w ps))).map D.int)])
          rw [← natsD_Z]
          exact q
/-! ### _key_of_part -/
theorem pair_map (ps : List Tr) : (ps.map fun t => (wD t, keyT t)).map prD = ps.map pairT := by rw [List.map_map]; rfl
theorem eqv_nil (l : List Nat) : eqD (.tup (natsD l)) (.tup []) = l.isEmpty := by
  rw [natsD_Z, show ([] : List D) = ([] : List Int).map D.int from rfl, eqD_tup]
  cases l with
  | nil => rfl
  | cons x l => exact decide_eq_false (fun z => by cases z)
theorem key_ringT (prs : List (D × D)) : keyOf .ring prs true = .tup [.int (prs.length : Nat), .tup (prs.map prD)] := rfl
theorem key_plain {w : Wd} {prs : List (D × D)} {b : Bool} (h : w = .one ∨ w = .row ∨ w = .set) : keyOf w prs b = .tup (prs.map prD) := by rcases h with rfl | rfl | rfl <;> rfl
theorem key_ringF (prs : List (D × D)) : keyOf .ring prs false = .tup (prs.map prD) := rfl
def r__key_of_part (ds : List D) (d : D) : Prop := ∃ t : Tr, ds = [.str (wordS t), wD t, .lst ((partsT t).map pairT)] ∧ wfT t = true ∧ d = keyT t
theorem okc (s : Str) (h : okD (.str s) = true) : okD (.str s) = true := h
theorem ok__key_of_part (T : Tx K mg W) (Dd : Df K mg "_key_of_part" s__key_of_part ["word", "weight", "pairs"]) : Cal P w K mg base CX0 1 "_key_of_part" ["word", "weight", "pairs"] (spW K (relR r__key_of_part)) := by
  refine cal_ok Dd sc__key_of_part (fun ds Q h => ?_) (fun f cdv A outer s H E hr => 
  (ss_cons (s_if (t_cmp (o_eq (hu64 hr)) (qv 0) d_str.q) (
    (ss_one (s_ret (d_tup (a_cons d_int (a_cons (d_ix (d_ix (qv 2) d_int.q).q d_int.q) a_nil)))))) (ss_nil))
  (ss_cons (s_if (t_cmp (o_eq (hu64 hr)) (qv 0) d_str.q) (
    (ss_one (s_ret (d_tup (a_cons d_int (a_cons (d_ix (d_ix (qv 2) d_int.q).q d_int.q) a_nil)))))) (ss_nil))
  (ss_cons (s_if (t_cmp (o_eq (hu64 hr)) (qv 0) d_str.q) (
    (ss_one (s_ret (d_tup (a_cons (d_ix (d_ix (qv 2) d_int.q).q d_int.q) (a_cons (d_ix (d_ix (qv 2) d_int.q).q d_int.q) (a_cons (d_ix (d_ix (qv 2) d_int.q).q d_int.q) a_nil))))))) (ss_nil))
  (ss_cons (s_if (w_and (t_cmp (o_eq (hu64 hr)) (qv 0) d_str.q) (w_and1 (t_cmp (o_eq (hu64 hr)) (d_ix (qv 1) d_int.q).q (d_tup a_nil).q))).t (
    (ss_one (s_ret (d_tup (a_cons (d_callB (c_len) T.n_len (b_cons (qv 2) b_nil)) (a_cons (d_callT c_tuple T.n_tuple (b_cons (qv 2) b_nil)) a_nil)))))) (ss_nil))
  (ss_one (s_ret (d_callT c_tuple T.n_tuple (b_cons (qv 2) b_nil))))))))) (fun ds Q h => ?_)

  · obtain ⟨d, ⟨t, rfl, _⟩, _⟩ := h; rfl
  · obtain ⟨d, ⟨t, rfl, hw, rfl⟩, q⟩ := h
    cases t with
    | atom l =>
      show oEq (.str "atom") (.str "left") _
      refine oEqS (a := "atom") (b := "left") (r := false) (by decide +kernel) (by decide +kernel) (by decide +kernel) ?_
      show oEq (.str "atom") (.str "right") _
      refine oEqS (a := "atom") (b := "right") (r := false) (by decide +kernel) (by decide +kernel) (by decide +kernel) ?_
      show oEq (.str "atom") (.str "and") _
      refine oEqS (a := "atom") (b := "and") (r := false) (by decide +kernel) (by decide +kernel) (by decide +kernel) ?_
      show oEq (.str "atom") (.str "ring") _
      refine oEqS (a := "atom") (b := "ring") (r := false) (by decide +kernel) (by decide +kernel) (by decide +kernel) ?_
      exact q
    | node w ps =>
      have ha := (wf_node.mp hw).1
      rw [key_node] at q
      cases w with
      | left =>
        show oEq (.str "left") (.str "left") _
        refine oEqS (a := "left") (b := "left") (r := true) (by decide +kernel) (by decide +kernel) (by decide +kernel) ?_
        obtain ⟨p, rfl⟩ : ∃ p, ps = [p] := List.length_eq_one_iff.mp (by simpa [arity] using ha)
        exact q
      | right =>
        show oEq (.str "right") (.str "left") _
        refine oEqS (a := "right") (b := "left") (r := false) (by decide +kernel) (by decide +kernel) (by decide +kernel) ?_
        show oEq (.str "right") (.str "right") _
        refine oEqS (a := "right") (b := "right") (r := true) (by decide +kernel) (by decide +kernel) (by decide +kernel) ?_
        obtain ⟨p, rfl⟩ : ∃ p, ps = [p] := List.length_eq_one_iff.mp (by simpa [arity] using ha)
        exact q
      | and =>
        show oEq (.str "and") (.str "left") _
        refine oEqS (a := "and") (b := "left") (r := false) (by decide +kernel) (by decide +kernel) (by decide +kernel) ?_
        show oEq (.str "and") (.str "right") _
        refine oEqS (a := "and") (b := "right") (r := false) (by decide +kernel) (by decide +kernel) (by decide +kernel) ?_
        show oEq (.str "and") (.str "and") _
        refine oEqS (a := "and") (b := "and") (r := true) (by decide +kernel) (by decide +kernel) (by decide +kernel) ?_
        obtain ⟨p, p2, rfl⟩ : ∃ p p2, ps = [p, p2] := by
          match ps, ha with
          | [p, p2], _ => exact ⟨p, p2, rfl⟩
          | [], h => simp [arity] at h
          | [_], h => simp [arity] at h
          | _ :: _ :: _ :: _, h => simp [arity] at h
        exact q
      | ring =>
        show oEq (.str "ring") (.str "left") _
        refine oEqS (a := "ring") (b := "left") (r := false) (by decide +kernel) (by decide +kernel) (by decide +kernel) ?_
        show oEq (.str "ring") (.str "right") _
        refine oEqS (a := "ring") (b := "right") (r := false) (by decide +kernel) (by decide +kernel) (by decide +kernel) ?_
        show oEq (.str "ring") (.str "and") _
        refine oEqS (a := "ring") (b := "and") (r := false) (by decide +kernel) (by decide +kernel) (by decide +kernel) ?_
        show oEq (.str "ring") (.str "ring") _
        refine oEqS (a := "ring") (b := "ring") (r := true) (by decide +kernel) (by decide +kernel) (by decide +kernel) ?_
        have ok : okD (.tup (natsD (labL (.node .ring ps)))) = true := by rw [natsD_Z]; exact okD_tup _
        have ok2 : okD (.tup []) = true := okD_tup []
        show oEq (.tup (natsD (labL (.node .ring ps)))) (.tup []) _
        refine ⟨⟨ok, ok2⟩, ?_⟩
        rw [eqv_nil, labL_nil]
        cases he : (labs (.node .ring ps)).isEmpty with
        | true =>
          rw [he, key_ringT, List.length_map, pair_map] at q
          show Q (.tup [.int ((ps.map pairT).length : Nat), .tup (ps.map pairT)])
          rw [List.length_map]
          exact q
        | false =>
          rw [he, key_ringF, pair_map] at q
          exact q
      | one =>
        show oEq (.str "one") (.str "left") _
        refine oEqS (a := "one") (b := "left") (r := false) (by decide +kernel) (by decide +kernel) (by decide +kernel) ?_
        show oEq (.str "one") (.str "right") _
        refine oEqS (a := "one") (b := "right") (r := false) (by decide +kernel) (by decide +kernel) (by decide +kernel) ?_
        show oEq (.str "one") (.str "and") _
        refine oEqS (a := "one") (b := "and") (r := false) (by decide +kernel) (by decide +kernel) (by decide +kernel) ?_
        show oEq (.str "one") (.str "ring") _
        refine oEqS (a := "one") (b := "ring") (r := false) (by decide +kernel) (by decide +kernel) (by decide +kernel) ?_
        rw [key_plain (by decide), pair_map] at q
        exact q
      | row =>
        show oEq (.str "row") (.str "left") _
        refine oEqS (a := "row") (b := "left") (r := false) (by decide +kernel) (by decide +kernel) (by decide +kernel) ?_
        show oEq (.str "row") (.str "right") _
        refine oEqS (a := "row") (b := "right") (r := false) (by decide +kernel) (by decide +kernel) (by decide +kernel) ?_
        show oEq (.str "row") (.str "and") _
        refine oEqS (a := "row") (b := "and") (r := false) (by decide +kernel) (by decide +kernel) (by decide +kernel) ?_
        show oEq (.str "row") (.str "ring") _
        refine oEqS (a := "row") (b := "ring") (r := false) (by decide +kernel) (by decide +kernel) (by decide +kernel) ?_
        rw [key_plain (by decide), pair_map] at q
        exact q
      | set =>
        show oEq (.str "set") (.str "left") _
        refine oEqS (a := "set") (b := "left") (r := false) (by decide +kernel) (by decide +kernel) (by decide +kernel) ?_
        show oEq (.str "set") (.str "right") _
        refine oEqS (a := "set") (b := "right") (r := false) (by decide +kernel) (by decide +kernel) (by decide +kernel) ?_
        show oEq (.str "set") (.str "and") _
        refine oEqS (a := "set") (b := "and") (r := false) (by decide +kernel) (by decide +kernel) (by decide +kernel) ?_
        show oEq (.str "set") (.str "ring") _
        refine oEqS (a := "set") (b := "ring") (r := false) (by decide +kernel) (by decide +kernel) (by decide +kernel) ?_
        rw [key_plain (by decide), pair_map] at q
        exact q
/-! ### _pair_of -/
def r__pair_of (ds : List D) (d : D) : Prop := ∃ t' t : Tr, ds = [encT t', .lst ((partsT t).map pairT)] ∧ Hd t' t ∧ wfT t = true ∧ sizeT t ≤ 100000 ∧ d = pairT t
theorem ok__pair_of (T : Tx K mg W) (Dd : Df K mg "_pair_of" s__pair_of ["part", "pairs"]) (C__weight_of : Cal P w K mg base CX0 1 "_weight_of" ["part", "pairs"] (spW K (relR r__weight_of))) (C__key_of_part : Cal P w K mg base CX0 1 "_key_of_part" ["word", "weight", "pairs"] (spW K (relR r__key_of_part))) : Cal P w K mg base CX0 2 "_pair_of" ["part", "pairs"] (spW K (relR r__pair_of)) := by
  refine cal_ok Dd sc__pair_of (fun ds Q h => ?_) (fun f cdv A outer s H E hr => 
  (ss_cons (s_set (i := 2) sc__pair_of.nd rfl (.inl rfl) (d_call C__weight_of relR_mono (hr.mono (by decide)) (a_cons (dv 0) (a_cons (dv 1) a_nil))))
  (ss_one (s_ret (d_tup (a_cons (dv 2) (a_cons (d_call C__key_of_part relR_mono (hr.mono (by decide)) (a_cons (d_ix (qv 0) d_int.q) (a_cons (dv 2) (a_cons (dv 1) a_nil)))) a_nil))))))) (fun ds Q h => ?_)

  · obtain ⟨d, ⟨t', t, rfl, _⟩, _⟩ := h; rfl
  · obtain ⟨d, ⟨t', t, rfl, hd, hw, hn, rfl⟩, q⟩ := h
    refine ⟨_, ⟨t', t, rfl, hd, hw, hn, rfl⟩, ?_⟩
    refine ix0 t' ?_
    rw [hd_word hd]
    exact ⟨_, ⟨t, rfl, hw, rfl⟩, q⟩
/-! ### folded -/
def itD (x : Tr × Bool) : D := .tup [encT x.1, .bl x.2]
/-- what is done in the end, from what is to do (the next first) and what is done -/
def fin (t0 : Tr) : List (Tr × Bool) → List Tr → Prop
  | [], dn => dn = [t0]
  | (t, false) :: st, dn => fin t0 st (dn ++ [t])
  | (t, true) :: st, dn => ∃ d0, dn = d0 ++ partsT t ∧ fin t0 st (d0 ++ [t])
def fm (x : Tr × Bool) : Nat := if x.2 = true then 1 else 2 * nodes x.1
theorem fin_parts (t0 : Tr) (st : List (Tr × Bool)) : ∀ (ps dn : List Tr), fin t0 st (dn ++ ps) → fin t0 (ps.map (fun p => (p, false)) ++ st) dn
  | [], dn, h => by rw [List.append_nil] at h; exact h
  | p :: ps, dn, h => by
    show fin t0 (ps.map (fun p => (p, false)) ++ st) (dn ++ [p])
    exact fin_parts t0 st ps _ (by rw [List.append_assoc]; exact h)
theorem fin_open {t0 t : Tr} {st : List (Tr × Bool)} {dn : List Tr} (h : fin t0 ((t, false) :: st) dn) : fin t0 ((partsT t).map (fun p => (p, false)) ++ (t, true) :: st) dn := fin_parts t0 _ _ _ ⟨dn, rfl, h⟩
theorem fm_open (t : Tr) : (((partsT t).map fun p => (p, false)).map fm).sum + 2 = 2 * nodes t := by
  rw [← nodes_parts, List.map_map]
  have : ∀ ps : List Tr, (ps.map (fm ∘ fun p => (p, false))).sum = 2 * (ps.map nodes).sum := fun ps => by
    induction ps with
    | nil => rfl
    | cons p ps ih => rw [List.map_cons, List.sum_cons, ih, List.map_cons, List.sum_cons]; show 2 * nodes p + _ = _; omega
  rw [this]; omega
theorem fm_pos (x : Tr × Bool) : 1 ≤ fm x := by
  unfold fm
  split
  · exact Nat.le_refl _
  · have := nodes_pos x.1; omega
theorem len_fm : ∀ st : List (Tr × Bool), st.length ≤ (st.map fm).sum
  | [] => Nat.le_refl _
  | x :: st => by
    rw [List.length_cons, List.map_cons, List.sum_cons]
    have := len_fm st
    have := fm_pos x
    omega
theorem size_of_wf {t : Tr} (h : nodes t ≤ 100000) : sizeT t ≤ 100000 := Nat.le_trans (size_nodes t) h
end
end DL

namespace DL
variable [Tbs]
open PySem L2
/-! # expressions, the trees of an expression -/
inductive Ex' where
  | name (s : Str) | none | one | atom | or (a b : Ex') | and (a b : Ex') | mem (w : Wd) (e : Ex') (lo : Nat) (hi : Option Nat)
def hiD : Option Nat → D
  | none => .non
  | some h => .int (h : Nat)
def encE : Ex' → D
  | .name s => .tup [.str "name", .str s]
  | .none => .tup [.str "none"]
  | .one => .tup [.str "one"]
  | .atom => .tup [.str "atom"]
  | .or a b => .tup [.str "or", encE a, encE b]
  | .and a b => .tup [.str "and", encE a, encE b]
  | .mem w e lo hi => .tup [.str w.s, encE e, .int (lo : Nat), hiD hi]
abbrev Sp' := List (Str × Ex')
def encSp (sp : Sp') : D := .dic (sp.map fun p => (Sum.inr p.1 : L2.Key)) (sp.map fun p => encE p.2)
def eqs : Sp' → Str → Option Ex'
  | [], _ => none
  | (s, e) :: sp, x => if s = x then some e else eqs sp x
theorem eqs_mem {x : Str} {e : Ex'} : ∀ {sp : Sp'}, eqs sp x = some e → (x, e) ∈ sp
  | [], h => by cases h
  | (s, f) :: sp, h => by
    unfold eqs at h
    by_cases c : s = x
    · rw [if_pos c] at h; cases h; subst c; exact List.mem_cons_self
    · rw [if_neg c] at h; exact List.mem_cons_of_mem _ (eqs_mem h)
def lk (a : List (Str × Nat)) (x : Str) : Nat := match a.find? fun p => decide (p.1 = x) with
  | some p => p.2
  | none => 0
def lkI (a : List (Str × Int)) (x : Str) : Int := match a.find? fun p => decide (p.1 = x) with
  | some p => p.2
  | none => 0
/-- the least size -/
def ms (m : List (Str × Nat)) : Ex' → Nat
  | .name s => lk m s
  | .none => 0
  | .one => 0
  | .atom => 1
  | .or a b => min (ms m a) (ms m b)
  | .and a b => ms m a + ms m b
  | .mem _ e lo _ => lo * ms m e
/-- how deep a search goes, beyond four times the room -/
def cl (m l : List (Str × Nat)) : Ex' → Nat
  | .name s => 1 + lk l s
  | .none => 1
  | .one => 1
  | .atom => 1
  | .or a b => 1 + max (cl m l a) (cl m l b)
  | .and a b => 1 + max (cl m l a) (cl m l b - 4 * ms m a)
  | .mem _ e _ _ => 1 + cl m l e
/-- how deep a tree is, beyond four times its size -/
def cd (m l : List (Str × Nat)) : Ex' → Nat
  | .name s => lk l s
  | .none => 0
  | .one => 1
  | .atom => 0
  | .or a b => 1 + max (cd m l a) (cd m l b)
  | .and a b => 1 + max (cd m l a - 4 * ms m b) (cd m l b - 4 * ms m a)
  | .mem _ e _ _ => 1 + cd m l e
/-- how many nodes, beyond six times the size -/
def cn (l : List (Str × Int)) : Ex' → Int
  | .name s => lkI l s
  | .none => 0
  | .one => 1
  | .atom => -5
  | .or a b => 1 + max (cn l a) (cn l b)
  | .and a b => 1 + cn l a + cn l b
  | .mem _ e lo _ => 1 + max 0 ((lo + 3 : Nat) * cn l e)
def itN (f : List (Str × Nat) → Ex' → Nat) (sp : Sp') : Nat → List (Str × Nat)
  | 0 => sp.map fun p => (p.1, 0)
  | k + 1 => sp.map fun p => (p.1, f (itN f sp k) p.2)
def itI (f : List (Str × Int) → Ex' → Int) (sp : Sp') : Nat → List (Str × Int)
  | 0 => sp.map fun p => (p.1, 0)
  | k + 1 => sp.map fun p => (p.1, f (itI f sp k) p.2)
def aM (sp : Sp') : List (Str × Nat) := itN ms sp 3
def aL (sp : Sp') : List (Str × Nat) := itN (cl (aM sp)) sp 8
def aD (sp : Sp') : List (Str × Nat) := itN (cd (aM sp)) sp 8
def aN (sp : Sp') : List (Str × Int) := itI cn sp 8
/-- only trees with the key () -/
def unit : Ex' → Bool
  | .none => true
  | .one => true
  | .atom => true
  | _ => false
def okE (sp : Sp') : Ex' → Bool
  | .name s => (eqs sp s).isSome
  | .none => true
  | .one => true
  | .atom => true
  | .or a b => (unit a || unit b) && okE sp a && okE sp b
  | .and a b => okE sp a && okE sp b
  | .mem w e lo hi => w.mem && (decide (hi = some 1) || decide (1 ≤ ms (aM sp) e)) && okE sp e && decide (lo ≤ 30)
def valid (sp : Sp') : Bool := sp.all fun p => decide (lk (aM sp) p.1 ≤ ms (aM sp) p.2) && decide (cl (aM sp) (aL sp) p.2 ≤ lk (aL sp) p.1) && decide (cd (aM sp) (aD sp) p.2 ≤ lk (aD sp) p.1) && decide (cn (aN sp) p.2 ≤ lkI (aN sp) p.1) && okE sp p.2 && decide (lk (aL sp) p.1 ≤ 15) && decide (lk (aD sp) p.1 ≤ 15) && decide (lkI (aN sp) p.1 ≤ 1000) && decide (lk (aD sp) p.1 ≤ 1 + lk (aL sp) p.1)
/-! ### the eighteen -/
def two' : Ex' := .or .atom .atom
def some' : Ex' := .or .atom (.and .atom .atom)
def tree' : Ex' := .and .atom (.mem .set (.name "R") 0 none)
def menu' : List Sp' := [
  [("W", .mem .row two' 0 none)], [("T", .and .atom (.mem .row (.name "T") 0 none))], [("R", tree')],
  [("B", .or .one (.and .atom (.and (.name "B") (.name "B"))))],
  [("P", .mem .set (.name "Q") 0 none), ("Q", .mem .set .atom 1 none)],
  [("P", .mem .set (.name "Q") 0 none), ("Q", .mem .ring .atom 1 none)],
  [("N", .mem .ring two' 1 none)], [("C", .mem .row (.name "D") 0 none), ("D", .mem .row .atom 1 none)],
  [("M", .mem .set (.name "Q") 0 none), ("Q", .mem .ring (.name "R") 1 none), ("R", tree')],
  [("A", .mem .ring some' 2 (some 4))], [("A", .mem .set some' 1 (some 3))], [("A", .mem .row (.mem .set .atom 1 (some 2)) 2 (some 3))],
  [("A", .and (.mem .set two' 0 (some 2)) (.mem .ring (.name "B") 1 (some 2))), ("B", .or .atom (.and .atom (.mem .set .atom 0 (some 1))))],
  [("A", .mem .ring (.mem .ring .atom 1 (some 3)) 1 (some 3))], [("A", .or .none (.mem .ring (.or .one .atom) 1 (some 1)))],
  [("A", .mem .set (.or .one .atom) 0 (some 1))], [("A", .and (.name "B") (.name "B")), ("B", .or .one (.or .atom (.mem .ring .atom 2 (some 3))))],
  [("A", .mem .set (.mem .set (.mem .set .atom 1 (some 2)) 1 (some 2)) 1 none)]]
theorem menu_ok : menu'.all valid = true := by decide +kernel
end DL

namespace DL
variable [Tbs]
open PySem L2
inductive Form (sp : Sp') : Ex' → Tr → Prop
  | name {s : Str} {e : Ex'} {t : Tr} : eqs sp s = some e → Form sp e t → Form sp (.name s) t
  | one : Form sp .one (.node .one [])
  | atom (l : Option Nat) : Form sp .atom (.atom l)
  | left {a b : Ex'} {t : Tr} : Form sp a t → Form sp (.or a b) (.node .left [t])
  | right {a b : Ex'} {t : Tr} : Form sp b t → Form sp (.or a b) (.node .right [t])
  | and {a b : Ex'} {t u : Tr} : Form sp a t → Form sp b u → Form sp (.and a b) (.node .and [t, u])
  | mem {w : Wd} {e : Ex'} {lo : Nat} {hi : Option Nat} {ts : List Tr} : lo ≤ ts.length → ts.length ≤ lo + 3 → (∀ h, hi = some h → ts.length ≤ h) → (∀ t ∈ ts, Form sp e t) → Form sp (.mem w e lo hi) (.node w ts)
structure Val (sp : Sp') (s : Str) (e : Ex') : Prop where
  m : lk (aM sp) s ≤ ms (aM sp) e
  l : cl (aM sp) (aL sp) e ≤ lk (aL sp) s
  d : cd (aM sp) (aD sp) e ≤ lk (aD sp) s
  n : cn (aN sp) e ≤ lkI (aN sp) s
  ok : okE sp e = true
  l15 : lk (aL sp) s ≤ 15
  d15 : lk (aD sp) s ≤ 15
  n15 : lkI (aN sp) s ≤ 1000
  dl : lk (aD sp) s ≤ 1 + lk (aL sp) s
theorem val_of {sp : Sp'} (h : valid sp = true) {s : Str} {e : Ex'} (he : eqs sp s = some e) : Val sp s e := by
  unfold valid at h
  rw [List.all_eq_true] at h
  have h := h _ (eqs_mem he)
  simp only [Bool.and_eq_true, decide_eq_true_eq] at h
  obtain ⟨⟨⟨⟨⟨⟨⟨⟨h1, h2⟩, h3⟩, h4⟩, h5⟩, h6⟩, h7⟩, h8⟩, h9⟩ := h
  exact ⟨h1, h2, h3, h4, h5, h6, h7, h8, h9⟩
structure Fx (sp : Sp') (e : Ex') (t : Tr) : Prop where
  wf : wfT t = true
  m : ms (aM sp) e ≤ sizeT t
  d : dep t ≤ 4 * sizeT t + cd (aM sp) (aD sp) e
  n : (nodes t : Int) ≤ 6 * (sizeT t : Int) + cn (aN sp) e
theorem mul_len {n k : Nat} : ∀ {ts : List Tr}, (∀ t ∈ ts, k ≤ sizeT t) → n ≤ ts.length → n * k ≤ (ts.map sizeT).sum
  | [], _, h => by
    have : n = 0 := by simpa using h
    subst this; simp
  | t :: ts, h1, h2 => by
    cases n with
    | zero => simp
    | succ n =>
      rw [List.map_cons, List.sum_cons, Nat.add_mul, Nat.one_mul]
      have := mul_len (n := n) (k := k) (ts := ts) (fun u hu => h1 u (List.mem_cons_of_mem _ hu)) (by simpa using h2)
      have := h1 t List.mem_cons_self
      omega
theorem sum_nodes {c : Int} : ∀ {ts : List Tr}, (∀ t ∈ ts, (nodes t : Int) ≤ 6 * (sizeT t : Int) + c) → ((ts.map nodes).sum : Int) ≤ 6 * ((ts.map sizeT).sum : Nat) + (ts.length : Nat) * c
  | [], _ => by simp
  | t :: ts, h => by
    have := sum_nodes (c := c) (ts := ts) fun u hu => h u (List.mem_cons_of_mem _ hu)
    have h0 := h t List.mem_cons_self
    rw [List.map_cons, List.sum_cons, List.map_cons, List.sum_cons, List.length_cons]
    have e : ((ts.length + 1 : Nat) : Int) * c = (ts.length : Nat) * c + c := by
      rw [Int.natCast_add, Int.add_mul]; simp
    rw [e]
    omega
theorem size2 (w : Wd) (t u : Tr) : sizeT (.node w [t, u]) = sizeT t + sizeT u := by rw [size_node]; simp
theorem size1 (w : Wd) (t : Tr) : sizeT (.node w [t]) = sizeT t := by rw [size_node]; simp
theorem dep1 (w : Wd) (t : Tr) : dep (.node w [t]) = dep t + 1 := by rw [dep_node]; simp [deps]
theorem dep2 (w : Wd) (t u : Tr) : dep (.node w [t, u]) = max (dep t) (dep u) + 1 := by rw [dep_node]; simp [deps]
theorem form_fx {sp : Sp'} (hv : valid sp = true) {e : Ex'} {t : Tr} (h : Form sp e t) : okE sp e = true → Fx sp e t := by
  induction h with
  | @name s e t he h ih =>
    intro _
    have v := val_of hv he
    have f := ih v.ok
    refine ⟨f.wf, Nat.le_trans v.m f.m, ?_, ?_⟩
    · have := f.d; have := v.d; show dep t ≤ 4 * sizeT t + lk _ _; omega
    · have := f.n; have := v.n; show (nodes t : Int) ≤ 6 * (sizeT t : Int) + lkI _ _; omega
  | one => exact fun _ => ⟨rfl, Nat.le_refl _, by simp [dep, deps, sizeT, sizeTs, cd], by simp [nodes, nodess, sizeT, sizeTs, cn]⟩
  | atom l => exact fun _ => ⟨rfl, by simp [sizeT, ms], by simp [dep], by simp [nodes, sizeT, cn]⟩
  | @left a b t h ih =>
    intro ok
    have ok2 : (unit a || unit b) = true ∧ okE sp a = true ∧ okE sp b = true := by unfold okE at ok; simpa [and_assoc] using ok
    have f := ih ok2.2.1
    refine ⟨wf_node.mpr ⟨rfl, by simpa using f.wf⟩, ?_, ?_, ?_⟩
    · rw [size1]; have := f.m; show min _ _ ≤ _; omega
    · rw [size1, dep1]; have := f.d; show _ ≤ _ + (1 + max _ _); omega
    · rw [size1, nodes_node]; have := f.n; simp only [List.map_cons, List.map_nil, List.sum_cons, List.sum_nil]; show _ ≤ _ + (1 + max _ _); omega
  | @right a b t h ih =>
    intro ok
    have ok2 : (unit a || unit b) = true ∧ okE sp a = true ∧ okE sp b = true := by unfold okE at ok; simpa [and_assoc] using ok
    have f := ih ok2.2.2
    refine ⟨wf_node.mpr ⟨rfl, by simpa using f.wf⟩, ?_, ?_, ?_⟩
    · rw [size1]; have := f.m; show min _ _ ≤ _; omega
    · rw [size1, dep1]; have := f.d; show _ ≤ _ + (1 + max _ _); omega
    · rw [size1, nodes_node]; have := f.n; simp only [List.map_cons, List.map_nil, List.sum_cons, List.sum_nil]; show _ ≤ _ + (1 + max _ _); omega
  | @and a b t u h1 h2 ih1 ih2 =>
    intro ok
    have ok2 : okE sp a = true ∧ okE sp b = true := by unfold okE at ok; simpa using ok
    have f := ih1 ok2.1
    have g := ih2 ok2.2
    refine ⟨wf_node.mpr ⟨rfl, fun p hp => ?_⟩, ?_, ?_, ?_⟩
    · rcases List.mem_cons.mp hp with rfl | hp
      · exact f.wf
      · rw [List.mem_singleton.mp hp]; exact g.wf
    · rw [size2]; have := f.m; have := g.m; show _ + _ ≤ _; omega
    · rw [size2, dep2]
      have := f.d; have := g.d; have := f.m; have := g.m
      show _ ≤ _ + (1 + max (cd _ _ a - 4 * ms _ b) (cd _ _ b - 4 * ms _ a))
      omega
    · rw [size2, nodes_node]
      have := f.n; have := g.n
      simp only [List.map_cons, List.map_nil, List.sum_cons, List.sum_nil]
      show _ ≤ _ + (1 + _ + _)
      omega
  | @mem w e lo hi ts h1 h2 h3 h4 ih =>
    intro ok
    have ok3 : w.mem = true ∧ (hi = some 1 ∨ 1 ≤ ms (aM sp) e) ∧ okE sp e = true ∧ lo ≤ 30 := by unfold okE at ok; simpa [and_assoc] using ok
    have ok2 : w.mem = true ∧ (hi = some 1 ∨ 1 ≤ ms (aM sp) e) ∧ okE sp e = true := ⟨ok3.1, ok3.2.1, ok3.2.2.1⟩
    have f := fun t ht => ih t ht ok2.2.2
    refine ⟨wf_node.mpr ⟨?_, fun p hp => (f p hp).wf⟩, ?_, ?_, ?_⟩
    · cases w <;> first | rfl | exact absurd ok2.1 (by decide)
    · rw [size_node]
      exact mul_len (fun t ht => (f t ht).m) h1
    · rw [dep_node]
      have : deps ts ≤ 4 * (ts.map sizeT).sum + cd (aM sp) (aD sp) e := deps_le fun p hp => by
        have := (f p hp).d
        have := size_mem hp
        omega
      rw [size_node]
      show _ ≤ _ + (1 + cd _ _ e)
      omega
    · rw [nodes_node, size_node]
      have := sum_nodes (c := cn (aN sp) e) (ts := ts) fun p hp => (f p hp).n
      show _ ≤ _ + (1 + max 0 ((lo + 3 : Nat) * cn (aN sp) e))
      have hc : ((ts.length : Nat) : Int) * cn (aN sp) e ≤ max 0 ((lo + 3 : Nat) * cn (aN sp) e) := by
        by_cases c0 : cn (aN sp) e ≤ 0
        · have := Int.mul_nonpos_of_nonneg_of_nonpos (a := ((ts.length : Nat) : Int)) (by omega) c0
          omega
        · have := Int.mul_le_mul_of_nonneg_right (a := ((ts.length : Nat) : Int)) (b := ((lo + 3 : Nat) : Int)) (c := cn (aN sp) e) (by omega) (by omega)
          omega
      omega
theorem cd_cl {sp : Sp'} (hv : valid sp = true) : ∀ e : Ex', okE sp e = true → cd (aM sp) (aD sp) e ≤ cl (aM sp) (aL sp) e
  | .name s, ok => by
    unfold okE at ok
    cases he : eqs sp s with
    | none => rw [he] at ok; cases ok
    | some e => exact (val_of hv he).dl
  | .none, _ => Nat.zero_le _
  | .one, _ => Nat.le_refl _
  | .atom, _ => Nat.zero_le _
  | .or a b, ok => by
    have ok2 : (unit a || unit b) = true ∧ okE sp a = true ∧ okE sp b = true := by unfold okE at ok; simpa [and_assoc] using ok
    have := cd_cl hv a ok2.2.1
    have := cd_cl hv b ok2.2.2
    show 1 + max _ _ ≤ 1 + max _ _
    omega
  | .and a b, ok => by
    have ok2 : okE sp a = true ∧ okE sp b = true := by unfold okE at ok; simpa using ok
    have := cd_cl hv a ok2.1
    have := cd_cl hv b ok2.2
    show 1 + max (_ - _) (_ - _) ≤ 1 + max _ (_ - _)
    omega
  | .mem w e lo hi, ok => by
    have ok3 : w.mem = true ∧ (hi = some 1 ∨ 1 ≤ ms (aM sp) e) ∧ okE sp e = true ∧ lo ≤ 30 := by unfold okE at ok; simpa [and_assoc] using ok
    have ok2 : w.mem = true ∧ (hi = some 1 ∨ 1 ≤ ms (aM sp) e) ∧ okE sp e = true := ⟨ok3.1, ok3.2.1, ok3.2.2.1⟩
    have := cd_cl hv e ok2.2.2
    show 1 + _ ≤ 1 + _
    omega
/-- what stands for a name, of a size up to 60 -/
structure Nm (t : Tr) : Prop where
  wf : wfT t = true
  d : dep t < 258
  n : nodes t ≤ 100000
theorem name_nm {sp : Sp'} (hv : valid sp = true) {s : Str} {t : Tr} (h : Form sp (.name s) t) (hs : sizeT t ≤ 60) : Nm t := by
  cases h with
  | @name _ e _ he h =>
    have v := val_of hv he
    have f := form_fx hv h v.ok
    have := f.d; have := f.n; have := v.d; have := v.n; have := v.d15; have := v.n15
    exact ⟨f.wf, by omega, by omega⟩
end DL

namespace DL
variable [Tbs]
open PySem L2
open PySem.W (alike alikeAll)
/-! # keys that can be compared; other orders -/
theorem unit_key {sp : Sp'} {e : Ex'} {t : Tr} (h : Form sp e t) (u : unit e = true) : keyT t = .tup [] := by
  cases h with
  | one => rw [key_node]; rfl
  | atom l => rw [keyT]
  | name _ _ => cases u
  | left _ => cases u
  | right _ => cases u
  | and _ _ => cases u
  | mem _ _ _ _ => cases u
theorem keyOf_tup (w : Wd) (prs : List (D × D)) (b : Bool) : ∃ l, keyOf w prs b = .tup l := by
  cases w with
  | one | row | set => exact ⟨_, rfl⟩
  | left => cases prs with
    | nil => exact ⟨_, rfl⟩
    | cons p prs => exact ⟨_, rfl⟩
  | right => cases prs with
    | nil => exact ⟨_, rfl⟩
    | cons p prs => exact ⟨_, rfl⟩
  | and => cases prs with
    | nil => exact ⟨_, rfl⟩
    | cons p prs => cases prs with
      | nil => exact ⟨_, rfl⟩
      | cons q prs => exact ⟨_, rfl⟩
  | ring => cases b with
    | true => exact ⟨_, rfl⟩
    | false => exact ⟨_, rfl⟩
theorem key_tup (t : Tr) : ∃ l, keyT t = .tup l := by
  cases t with
  | atom l => exact ⟨[], by rw [keyT]⟩
  | node w ps => rw [key_node]; exact keyOf_tup _ _ _
theorem alike_tuple (xs ys : List PyData) : alike (.tuple xs) (.tuple ys) = alikeAll xs ys := by rw [alike]
theorem alike_list (xs ys : List PyData) : alike (.list xs) (.list ys) = alikeAll xs ys := by rw [alike]
theorem alike_int (i j : Int) : alike (.int i) (.int j) = true := by rw [alike]
theorem alikeAll_cons (x y : PyData) (xs ys : List PyData) : alikeAll (x :: xs) (y :: ys) = (alike x y && alikeAll xs ys) := by rw [alikeAll]
theorem alikeAll_nilL (ys : List PyData) : alikeAll [] ys = true := by cases ys <;> rw [alikeAll]
theorem alikeAll_nilR (xs : List PyData) : alikeAll xs [] = true := by cases xs <;> rw [alikeAll]
theorem alikeAll_of : ∀ {xs ys : List PyData}, (∀ x ∈ xs, ∀ y ∈ ys, alike x y = true) → alikeAll xs ys = true
  | [], ys, _ => alikeAll_nilL ys
  | x :: xs, [], _ => alikeAll_nilR _
  | x :: xs, y :: ys, h => by
    rw [alikeAll_cons, h x List.mem_cons_self y List.mem_cons_self, alikeAll_of fun a ha b hb => h a (List.mem_cons_of_mem _ ha) b (List.mem_cons_of_mem _ hb)]; rfl
theorem toPs_map : ∀ l : List D, toPs l = l.map toP
  | [] => rfl
  | d :: l => by rw [toPs, toPs_map l]; rfl
theorem toPs_nats (l : List Nat) : toPs (natsD l) = (toZ l).map PyData.int := by
  rw [toPs_map, natsD_Z, List.map_map]; rfl
theorem wD_alike (t u : Tr) : alike (toP (wD t)) (toP (wD u)) = true := by
  show alike (.tuple [.int _, .tuple (toPs (natsD (labL t)))]) (.tuple [.int _, .tuple (toPs (natsD (labL u)))]) = true
  rw [toPs_nats, toPs_nats, alike_tuple, alikeAll_cons, alikeAll_cons, alike_int, alike_tuple, PySem.W.alike_ints, alikeAll_nilL]; rfl
theorem pair_alike {t u : Tr} (h : alike (toP (keyT t)) (toP (keyT u)) = true) : alike (toP (pairT t)) (toP (pairT u)) = true := by
  show alike (.tuple [toP (wD t), toP (keyT t)]) (.tuple [toP (wD u), toP (keyT u)]) = true
  rw [alike_tuple, alikeAll_cons, alikeAll_cons, wD_alike, h, alikeAll_nilL]; rfl
theorem labs_part {w : Wd} {ps : List Tr} (h : labs (.node w ps) = []) : ∀ p ∈ ps, labs p = [] := fun p hp => by
  rw [labs_node] at h
  have := List.flatMap_eq_nil_iff.mp h
  exact this p hp
theorem key_left {w : Wd} (i : Int) (t : Tr) (h : (w = .left ∧ i = 0) ∨ (w = .right ∧ i = 1)) : toP (keyT (.node w [t])) = .tuple [.int i, toP (keyT t)] := by
  rw [key_node]
  rcases h with ⟨rfl, rfl⟩ | ⟨rfl, rfl⟩ <;> rfl
theorem key_and (t u : Tr) : toP (keyT (.node .and [t, u])) = .tuple [toP (wD t), toP (keyT t), toP (keyT u)] := by rw [key_node]; rfl
theorem alike_nil {l : List PyData} (t : Tr) : alike (.tuple []) (toP (keyT t)) = true ∧ alike (toP (keyT t)) (.tuple []) = true := by
  obtain ⟨l, h⟩ := key_tup t
  rw [h]
  show alike (.tuple []) (.tuple (toPs l)) = true ∧ alike (.tuple (toPs l)) (.tuple []) = true
  rw [alike_tuple, alike_tuple]
  exact ⟨alikeAll_nilL _, alikeAll_nilR _⟩
theorem key_mem {w : Wd} (hw : w.mem = true) (ps : List Tr) (h : labs (.node w ps) = []) : toP (keyT (.node w ps)) = if w = .ring then .tuple [.int (ps.length : Nat), .tuple (ps.map fun p => toP (pairT p))] else .tuple (ps.map fun p => toP (pairT p)) := by
  rw [key_node, h]
  have e : toPs (ps.map pairT) = ps.map fun p => toP (pairT p) := by rw [toPs_map, List.map_map]; rfl
  have e2 : (ps.map fun t => (wD t, keyT t)).map prD = ps.map pairT := by rw [List.map_map]; rfl
  cases w with
  | row => show PyData.tuple (toPs ((ps.map fun t => (wD t, keyT t)).map prD)) = _; rw [e2, e]; rfl
  | set => show PyData.tuple (toPs ((ps.map fun t => (wD t, keyT t)).map prD)) = _; rw [e2, e]; rfl
  | ring =>
    show PyData.tuple [.int ((ps.map fun t => (wD t, keyT t)).length : Nat), PyData.tuple (toPs ((ps.map fun t => (wD t, keyT t)).map prD))] = _
    rw [e2, e, List.length_map]; rfl
  | one | left | right | and => cases hw
theorem key_alike {sp : Sp'} (hv : valid sp = true) {e : Ex'} {t : Tr} (h : Form sp e t) : okE sp e = true → ∀ {u : Tr}, Form sp e u → labs t = [] → labs u = [] → alike (toP (keyT t)) (toP (keyT u)) = true := by
  induction h with
  | @name s e t he h ih =>
    intro _ u g lt lu
    cases g with
    | @name _ e2 _ he2 g =>
      rw [he] at he2
      cases he2
      exact ih (val_of hv he).ok g lt lu
  | one =>
    intro _ u g lt lu
    rw [unit_key (sp := sp) .one rfl]
    exact (alike_nil (l := []) u).1
  | atom l =>
    intro _ u g lt lu
    rw [unit_key (sp := sp) (.atom l) rfl]
    exact (alike_nil (l := []) u).1
  | @left a b t h ih =>
    intro ok u g lt lu
    have ok2 : (unit a = true ∨ unit b = true) ∧ okE sp a = true ∧ okE sp b = true := by unfold okE at ok; simpa [and_assoc] using ok
    cases g with
    | @left _ _ u g =>
      rw [key_left 0 t (.inl ⟨rfl, rfl⟩), key_left 0 u (.inl ⟨rfl, rfl⟩), alike_tuple, alikeAll_cons, alikeAll_cons, alike_int, alikeAll_nilL, ih ok2.2.1 g (labs_part lt _ List.mem_cons_self) (labs_part lu _ List.mem_cons_self)]; rfl
    | @right _ _ u g =>
      rw [key_left 0 t (.inl ⟨rfl, rfl⟩), key_left 1 u (.inr ⟨rfl, rfl⟩), alike_tuple, alikeAll_cons, alikeAll_cons, alike_int, alikeAll_nilL]
      have : alike (toP (keyT t)) (toP (keyT u)) = true := by
        rcases ok2.1 with k | k
        · rw [unit_key h k]; exact (alike_nil (l := []) u).1
        · rw [unit_key g k]; exact (alike_nil (l := []) t).2
      rw [this]; rfl
  | @right a b t h ih =>
    intro ok u g lt lu
    have ok2 : (unit a = true ∨ unit b = true) ∧ okE sp a = true ∧ okE sp b = true := by unfold okE at ok; simpa [and_assoc] using ok
    cases g with
    | @right _ _ u g =>
      rw [key_left 1 t (.inr ⟨rfl, rfl⟩), key_left 1 u (.inr ⟨rfl, rfl⟩), alike_tuple, alikeAll_cons, alikeAll_cons, alike_int, alikeAll_nilL, ih ok2.2.2 g (labs_part lt _ List.mem_cons_self) (labs_part lu _ List.mem_cons_self)]; rfl
    | @left _ _ u g =>
      rw [key_left 1 t (.inr ⟨rfl, rfl⟩), key_left 0 u (.inl ⟨rfl, rfl⟩), alike_tuple, alikeAll_cons, alikeAll_cons, alike_int, alikeAll_nilL]
      have : alike (toP (keyT t)) (toP (keyT u)) = true := by
        rcases ok2.1 with k | k
        · rw [unit_key g k]; exact (alike_nil (l := []) t).2
        · rw [unit_key h k]; exact (alike_nil (l := []) u).1
      rw [this]; rfl
  | @and a b t t2 h1 h2 ih1 ih2 =>
    intro ok u g lt lu
    have ok2 : okE sp a = true ∧ okE sp b = true := by unfold okE at ok; simpa using ok
    cases g with
    | @and _ _ u u2 g1 g2 =>
      have m2 : ∀ {x y : Tr}, y ∈ [x, y] := List.mem_cons_of_mem _ List.mem_cons_self
      rw [key_and, key_and, alike_tuple, alikeAll_cons, alikeAll_cons, alikeAll_cons, wD_alike, alikeAll_nilL, ih1 ok2.1 g1 (labs_part lt _ List.mem_cons_self) (labs_part lu _ List.mem_cons_self), ih2 ok2.2 g2 (labs_part lt _ m2) (labs_part lu _ m2)]; rfl
  | @mem w e lo hi ts h1 h2 h3 h4 ih =>
    intro ok u g lt lu
    have ok3 : w.mem = true ∧ (hi = some 1 ∨ 1 ≤ ms (aM sp) e) ∧ okE sp e = true ∧ lo ≤ 30 := by unfold okE at ok; simpa [and_assoc] using ok
    have ok2 : w.mem = true ∧ (hi = some 1 ∨ 1 ≤ ms (aM sp) e) ∧ okE sp e = true := ⟨ok3.1, ok3.2.1, ok3.2.2.1⟩
    cases g with
    | @mem _ _ _ _ us g1 g2 g3 g4 =>
      have al : alikeAll (ts.map fun p => toP (pairT p)) (us.map fun p => toP (pairT p)) = true := alikeAll_of fun x hx y hy => by
        obtain ⟨p, hp, rfl⟩ := List.mem_map.mp hx
        obtain ⟨q, hq, rfl⟩ := List.mem_map.mp hy
        exact pair_alike (ih p hp ok2.2.2 (g4 q hq) (labs_part lt p hp) (labs_part lu q hq))
      rw [key_mem ok2.1 ts lt, key_mem ok2.1 us lu]
      split
      · rw [alike_tuple, alikeAll_cons, alikeAll_cons, alike_int, alike_tuple, al, alikeAll_nilL]; rfl
      · rw [alike_tuple, al]
/-! ### the same, members of sets in another order, rings turned -/
inductive Rea : Tr → Tr → Prop
  | atom (l : Option Nat) : Rea (.atom l) (.atom l)
  | node {w : Wd} {ps qs rs : List Tr} : ps.length = rs.length → (∀ (i : Nat) (p r : Tr), ps[i]? = some p → rs[i]? = some r → Rea p r) → (qs = rs ∨ ((w = .set ∨ w = .ring) ∧ qs.Perm rs)) → Rea (.node w ps) (.node w qs)
theorem map_same {α : Type} {f : Tr → α} {ps rs : List Tr} (hl : ps.length = rs.length) (h : ∀ (i : Nat) (p r : Tr), ps[i]? = some p → rs[i]? = some r → f p = f r) : ps.map f = rs.map f := by
  apply List.ext_getElem?
  intro i
  rw [List.getElem?_map, List.getElem?_map]
  by_cases c : i < ps.length
  · have e1 := List.getElem?_eq_getElem c
    have e2 := List.getElem?_eq_getElem (hl ▸ c : i < rs.length)
    rw [e1, e2]
    show some _ = some _
    rw [h i _ _ e1 e2]
  · rw [List.getElem?_eq_none_iff.mpr (by omega), List.getElem?_eq_none_iff.mpr (by omega)]
theorem perm_of {w : Wd} {qs rs : List Tr} (h : qs = rs ∨ ((w = .set ∨ w = .ring) ∧ qs.Perm rs)) : qs.Perm rs := by
  rcases h with rfl | ⟨_, h⟩
  · exact List.Perm.refl _
  · exact h
theorem deps_map : ∀ ts : List Tr, deps ts = (ts.map dep).foldr max 0
  | [] => rfl
  | t :: ts => by rw [deps, deps_map ts]; rfl
theorem deps_perm {a b : List Tr} (h : a.Perm b) : deps a = deps b := by
  apply Nat.le_antisymm
  · exact deps_le fun p hp => dep_mem (h.mem_iff.mp hp)
  · exact deps_le fun p hp => dep_mem (h.mem_iff.mpr hp)
theorem nat_sum_perm {a b : List Nat} (h : a.Perm b) : a.sum = b.sum := by
  induction h with
  | nil => rfl
  | cons x _ ih => rw [List.sum_cons, List.sum_cons, ih]
  | swap x y l => rw [List.sum_cons, List.sum_cons, List.sum_cons, List.sum_cons]; omega
  | trans _ _ h1 h2 => exact h1.trans h2
structure Reas (t u : Tr) : Prop where
  s : sizeT u = sizeT t
  d : dep u = dep t
  n : nodes u = nodes t
  l : (labs u).Perm (labs t)
theorem flat_perm {a b : List Tr} (h : a.Perm b) : (a.flatMap labs).Perm (b.flatMap labs) := by
  induction h with
  | nil => exact List.Perm.refl _
  | cons x _ ih => rw [List.flatMap_cons, List.flatMap_cons]; exact ih.append_left _
  | swap x y l =>
    rw [List.flatMap_cons, List.flatMap_cons, List.flatMap_cons, List.flatMap_cons, ← List.append_assoc, ← List.append_assoc]
    exact List.perm_append_comm.append_right _
  | trans _ _ h1 h2 => exact h1.trans h2
theorem flat_point {ps rs : List Tr} (hl : ps.length = rs.length) (h : ∀ (i : Nat) (p r : Tr), ps[i]? = some p → rs[i]? = some r → (labs r).Perm (labs p)) : (rs.flatMap labs).Perm (ps.flatMap labs) := by
  induction ps generalizing rs with
  | nil => cases rs with
    | nil => exact List.Perm.refl _
    | cons r rs => cases hl
  | cons p ps ih => cases rs with
    | nil => cases hl
    | cons r rs =>
      rw [List.flatMap_cons, List.flatMap_cons]
      exact (h 0 p r rfl rfl).append (ih (by simpa using hl) fun i a b e f => h (i + 1) a b e f)
theorem rea_s {t u : Tr} (h : Rea t u) : Reas t u := by
  induction h with
  | atom l => exact ⟨rfl, rfl, rfl, List.Perm.refl _⟩
  | @node w ps qs rs hl _ hp ih =>
    have pm := perm_of hp
    refine ⟨?_, ?_, ?_, ?_⟩
    · rw [size_node, size_node, nat_sum_perm (pm.map sizeT), map_same hl fun i p r e f => ((ih i p r e f).s).symm]
    · rw [dep_node, dep_node, deps_perm pm, deps_map, deps_map, map_same hl fun i p r e f => ((ih i p r e f).d).symm]
    · rw [nodes_node, nodes_node, nat_sum_perm (pm.map nodes), map_same hl fun i p r e f => ((ih i p r e f).n).symm]
    · rw [labs_node, labs_node]
      exact (flat_perm pm).trans (flat_point hl fun i p r e f => (ih i p r e f).l)
theorem get_of_mem {p : Tr} : ∀ {rs : List Tr}, p ∈ rs → ∃ i : Nat, i < rs.length ∧ rs[i]? = some p := fun {rs} h => by
  obtain ⟨i, hi, e⟩ := List.getElem_of_mem h
  exact ⟨i, hi, by rw [List.getElem?_eq_getElem hi, e]⟩
theorem rea_form {sp : Sp'} {e : Ex'} {t : Tr} (h : Form sp e t) : ∀ {u : Tr}, Rea t u → Form sp e u := by
  induction h with
  | name he _ ih => exact fun g => .name he (ih g)
  | one =>
    intro u g
    cases g with
    | @node _ _ qs rs hl hi hp =>
      have : qs = [] := by
        have e1 := (perm_of hp).length_eq
        rw [← hl] at e1
        exact List.length_eq_zero_iff.mp e1
      subst this
      exact .one
  | atom l => intro u g; cases g; exact .atom l
  | @left a b t h ih =>
    intro u g
    cases g with
    | @node _ _ qs rs hl hi hp =>
      obtain rfl : qs = rs := by rcases hp with h | ⟨h | h, _⟩ <;> first | exact h | cases h
      obtain ⟨r, rfl⟩ : ∃ r, qs = [r] := List.length_eq_one_iff.mp hl.symm
      exact .left (ih (hi 0 _ _ rfl rfl))
  | @right a b t h ih =>
    intro u g
    cases g with
    | @node _ _ qs rs hl hi hp =>
      obtain rfl : qs = rs := by rcases hp with h | ⟨h | h, _⟩ <;> first | exact h | cases h
      obtain ⟨r, rfl⟩ : ∃ r, qs = [r] := List.length_eq_one_iff.mp hl.symm
      exact .right (ih (hi 0 _ _ rfl rfl))
  | @and a b t t2 h1 h2 ih1 ih2 =>
    intro u g
    cases g with
    | @node _ _ qs rs hl hi hp =>
      obtain rfl : qs = rs := by rcases hp with h | ⟨h | h, _⟩ <;> first | exact h | cases h
      match qs, hl with
      | [r, r2], _ => exact .and (ih1 (hi 0 _ _ rfl rfl)) (ih2 (hi 1 _ _ rfl rfl))
  | @mem w e lo hi ts h1 h2 h3 h4 ih =>
    intro u g
    cases g with
    | @node _ _ qs rs hl hj hp =>
      have e1 := (perm_of hp).length_eq
      refine .mem (by omega) (by omega) (fun h eh => by have := h3 h eh; omega) fun q hq => ?_
      have hq := (perm_of hp).mem_iff.mp hq
      obtain ⟨i, hi2, ei⟩ := get_of_mem hq
      have et := List.getElem?_eq_getElem (hl ▸ hi2 : i < ts.length)
      exact ih _ (List.getElem_mem _) (hj i _ _ et ei)
end DL

namespace DL
variable [Tbs]
open PySem L2
open PySem.W (alike alikeAll)
/-! # keys as data; places in order -/
theorem isDats_all : ∀ l : List D, isDats l = l.all isDat
  | [] => rfl
  | d :: l => by rw [isDats, isDats_all l]; rfl
theorem dat_tup {l : List D} (h : ∀ d ∈ l, isDat d = true) : isDat (.tup l) = true := by rw [isDat, isDats_all]; exact List.all_eq_true.mpr h
theorem dat_lst {l : List D} (h : ∀ d ∈ l, isDat d = true) : isDat (.lst l) = true := by rw [isDat, isDats_all]; exact List.all_eq_true.mpr h
theorem dat_nats (l : List Nat) : ∀ d ∈ natsD l, isDat d = true := fun d hd => by
  obtain ⟨n, _, rfl⟩ := List.mem_map.mp hd
  rfl
theorem dat_w (t : Tr) : isDat (wD t) = true := dat_tup fun d hd => by
  rcases List.mem_cons.mp hd with rfl | hd
  · rfl
  · rw [List.mem_singleton.mp hd]; exact dat_tup (dat_nats _)
theorem dat_two {a b : D} (ha : isDat a = true) (hb : isDat b = true) : isDat (.tup [a, b]) = true := dat_tup fun d hd => by
  rcases List.mem_cons.mp hd with rfl | hd
  · exact ha
  · rw [List.mem_singleton.mp hd]; exact hb
theorem dat_three {a b c : D} (ha : isDat a = true) (hb : isDat b = true) (hc : isDat c = true) : isDat (.tup [a, b, c]) = true := dat_tup fun d hd => by
  rcases List.mem_cons.mp hd with rfl | hd
  · exact ha
  · rcases List.mem_cons.mp hd with rfl | hd
    · exact hb
    · rw [List.mem_singleton.mp hd]; exact hc
theorem depthAll_le {N : Nat} : ∀ {l : List PyData}, (∀ d ∈ l, PyData.depth d ≤ N) → PyData.depthAll l ≤ N
  | [], _ => Nat.zero_le _
  | x :: l, h => by
    have := h x List.mem_cons_self
    have := depthAll_le (l := l) fun d hd => h d (List.mem_cons_of_mem _ hd)
    rw [PyData.depthAll]; omega
theorem depth_tup {N : Nat} {l : List D} (h : ∀ d ∈ l, (toP d).depth ≤ N) : (toP (.tup l)).depth ≤ N + 1 := by
  show PyData.depth (.tuple (toPs l)) ≤ _
  rw [PyData.depth]
  refine Nat.succ_le_succ (depthAll_le fun d hd => ?_)
  rw [toPs_map] at hd
  obtain ⟨x, hx, rfl⟩ := List.mem_map.mp hd
  exact h x hx
theorem depth_lst {N : Nat} {l : List D} (h : ∀ d ∈ l, (toP d).depth ≤ N) : (toP (.lst l)).depth ≤ N + 1 := by
  show PyData.depth (.list (toPs l)) ≤ _
  rw [PyData.depth]
  refine Nat.succ_le_succ (depthAll_le fun d hd => ?_)
  rw [toPs_map] at hd
  obtain ⟨x, hx, rfl⟩ := List.mem_map.mp hd
  exact h x hx
theorem depth_int (i : Int) {N : Nat} : (toP (.int i)).depth ≤ N := Nat.zero_le _
theorem depth_nats (l : List Nat) {N : Nat} : ∀ d ∈ natsD l, (toP d).depth ≤ N := fun d hd => by
  obtain ⟨n, _, rfl⟩ := List.mem_map.mp hd
  exact depth_int _
theorem depth_w (t : Tr) : (toP (wD t)).depth ≤ 2 := depth_tup fun d hd => by
  rcases List.mem_cons.mp hd with rfl | hd
  · exact depth_int _
  · rw [List.mem_singleton.mp hd]; exact depth_tup (N := 0) (depth_nats _)
theorem depth_two {N : Nat} {a b : D} (ha : (toP a).depth ≤ N) (hb : (toP b).depth ≤ N) : (toP (.tup [a, b])).depth ≤ N + 1 := depth_tup fun d hd => by
  rcases List.mem_cons.mp hd with rfl | hd
  · exact ha
  · rw [List.mem_singleton.mp hd]; exact hb
theorem depth_three {N : Nat} {a b c : D} (ha : (toP a).depth ≤ N) (hb : (toP b).depth ≤ N) (hc : (toP c).depth ≤ N) : (toP (.tup [a, b, c])).depth ≤ N + 1 := depth_tup fun d hd => by
  rcases List.mem_cons.mp hd with rfl | hd
  · exact ha
  · rcases List.mem_cons.mp hd with rfl | hd
    · exact hb
    · rw [List.mem_singleton.mp hd]; exact hc
structure KeyD (N : Nat) (d : D) : Prop where
  dat : isDat d = true
  dep : (toP d).depth ≤ N
theorem KeyD.mono {M N : Nat} {d : D} (h : KeyD M d) (l : M ≤ N) : KeyD N d := ⟨h.dat, Nat.le_trans h.dep l⟩
theorem keyD_nil {N : Nat} : KeyD (N + 1) (.tup []) := ⟨rfl, depth_tup (l := []) fun d hd => by cases hd⟩
theorem keyD_pairs {N : Nat} (ps : List Tr) (h : ∀ p ∈ ps, KeyD (3 * N + 2) (keyT p)) : KeyD (3 * N + 4) (.tup ((ps.map fun t => (wD t, keyT t)).map prD)) := by
  rw [List.map_map]
  refine ⟨dat_tup fun d hd => ?_, depth_tup fun d hd => ?_⟩
  · obtain ⟨p, hp, rfl⟩ := List.mem_map.mp hd
    exact dat_two (dat_w p) (h p hp).dat
  · obtain ⟨p, hp, rfl⟩ := List.mem_map.mp hd
    exact depth_two (Nat.le_trans (depth_w p) (by omega)) (h p hp).dep
theorem keyD_of : ∀ t : Tr, KeyD (3 * dep t + 2) (keyT t) := by
  refine Tr.ind (fun l => ?_) fun w ps ih => ?_
  · rw [keyT]; exact keyD_nil
  · rw [key_node, dep_node]
    have ih : ∀ p ∈ ps, KeyD (3 * deps ps + 2) (keyT p) := fun p hp => (ih p hp).mono (by have := dep_mem hp; omega)
    have e : 3 * (deps ps + 1) + 2 = 3 * deps ps + 5 := by omega
    rw [e]
    have kp := keyD_pairs ps ih
    cases w with
    | one | row | set => exact kp.mono (by omega)
    | left => match ps, ih, kp with
      | [], _, kp => exact kp.mono (by omega)
      | p :: ps, ih, _ => exact ⟨dat_two rfl (ih p List.mem_cons_self).dat, Nat.le_trans (depth_two (depth_int _) (ih p List.mem_cons_self).dep) (by omega)⟩
    | right => match ps, ih, kp with
      | [], _, kp => exact kp.mono (by omega)
      | p :: ps, ih, _ => exact ⟨dat_two rfl (ih p List.mem_cons_self).dat, Nat.le_trans (depth_two (depth_int _) (ih p List.mem_cons_self).dep) (by omega)⟩
    | and => match ps, ih, kp with
      | [], _, kp => exact kp.mono (by omega)
      | [p], _, kp => exact kp.mono (by omega)
      | p :: p2 :: ps, ih, _ =>
        have h1 := ih p List.mem_cons_self
        have h2 := ih p2 (List.mem_cons_of_mem _ List.mem_cons_self)
        exact ⟨dat_three (dat_w p) h1.dat h2.dat, Nat.le_trans (depth_three (Nat.le_trans (depth_w p) (by omega)) h1.dep h2.dep) (by omega)⟩
    | ring =>
      show KeyD _ (if (labs (.node .ring ps)).isEmpty = true then _ else _)
      split
      · exact ⟨dat_two rfl kp.dat, depth_two (depth_int _) kp.dep⟩
      · exact kp.mono (by omega)
/-! ### places -/
structure Pl (N : Nat) (l : List D) : Prop where
  dat : ∀ d ∈ l, isDat d = true
  dep : ∀ d ∈ l, (toP d).depth ≤ N
  al : ∀ a ∈ l, ∀ b ∈ l, alike (toP a) (toP b) = true
theorem Pl.mono {M N : Nat} {l : List D} (h : Pl M l) (k : M ≤ N) : Pl N l := ⟨h.dat, fun d hd => Nat.le_trans (h.dep d hd) k, h.al⟩
def skD (r : Tr) : D := .tup [.int (sizeT r : Nat), keyT r]
def lbD (r : Tr) : D := .lst ((natsD (labL r)).take 1)
theorem alike_two {a b c d : D} (h1 : alike (toP a) (toP c) = true) (h2 : alike (toP b) (toP d) = true) : alike (toP (.tup [a, b])) (toP (.tup [c, d])) = true := by
  show alike (.tuple [toP a, toP b]) (.tuple [toP c, toP d]) = true
  rw [alike_tuple, alikeAll_cons, alikeAll_cons, h1, h2, alikeAll_nilL]; rfl
theorem pl_sk {N : Nat} {rs : List Tr} (hd : ∀ r ∈ rs, dep r ≤ N) (ha : ∀ r ∈ rs, ∀ s ∈ rs, alike (toP (keyT r)) (toP (keyT s)) = true) : Pl (3 * N + 3) (rs.map skD) := by
  refine ⟨fun d h => ?_, fun d h => ?_, fun a h1 b h2 => ?_⟩
  · obtain ⟨r, hr, rfl⟩ := List.mem_map.mp h
    exact dat_two rfl (keyD_of r).dat
  · obtain ⟨r, hr, rfl⟩ := List.mem_map.mp h
    exact depth_two (depth_int _) ((keyD_of r).mono (by have := hd r hr; omega)).dep
  · obtain ⟨r, hr, rfl⟩ := List.mem_map.mp h1
    obtain ⟨s, hs, rfl⟩ := List.mem_map.mp h2
    exact alike_two (alike_int _ _) (ha r hr s hs)
theorem take_nats (l : List Nat) (k : Nat) : (natsD l).take k = natsD (l.take k) := by unfold natsD; rw [List.map_take]
theorem pl_lb {N : Nat} (rs : List Tr) : Pl (N + 1) (rs.map lbD) := by
  refine ⟨fun d h => ?_, fun d h => ?_, fun a h1 b h2 => ?_⟩
  · obtain ⟨r, hr, rfl⟩ := List.mem_map.mp h
    exact dat_lst (fun d hd => dat_nats _ d (List.mem_of_mem_take hd))
  · obtain ⟨r, hr, rfl⟩ := List.mem_map.mp h
    exact depth_lst (fun d hd => depth_nats _ d (List.mem_of_mem_take hd))
  · obtain ⟨r, hr, rfl⟩ := List.mem_map.mp h1
    obtain ⟨s, hs, rfl⟩ := List.mem_map.mp h2
    show alike (.list (toPs _)) (.list (toPs _)) = true
    rw [take_nats, take_nats, toPs_nats, toPs_nats, alike_list]
    refine alikeAll_of fun x hx y hy => ?_
    obtain ⟨i, _, rfl⟩ := List.mem_map.mp hx
    obtain ⟨j, _, rfl⟩ := List.mem_map.mp hy
    exact alike_int _ _
/-- places with their numbers -/
def nbD (l : List D) : List D := (List.range l.length).map fun k => .tup [l.getD k .non, .int (k : Nat)]
theorem getD_mem {l : List D} {k : Nat} (h : k < l.length) : l.getD k .non ∈ l := by
  rw [List.getD_eq_getElem?_getD, List.getElem?_eq_getElem h]; exact List.getElem_mem h
theorem nb_mem {l : List D} {d : D} (h : d ∈ nbD l) : ∃ k : Nat, k < l.length ∧ d = .tup [l.getD k .non, .int (k : Nat)] := by
  obtain ⟨k, hk, rfl⟩ := List.mem_map.mp h
  exact ⟨k, List.mem_range.mp hk, rfl⟩
theorem nb_pl {N : Nat} {l : List D} (h : Pl N l) : Pl (N + 1) (nbD l) := by
  refine ⟨fun d hd => ?_, fun d hd => ?_, fun a h1 b h2 => ?_⟩
  · obtain ⟨k, hk, rfl⟩ := nb_mem hd
    exact dat_two (h.dat _ (getD_mem hk)) rfl
  · obtain ⟨k, hk, rfl⟩ := nb_mem hd
    exact depth_two (h.dep _ (getD_mem hk)) (depth_int _)
  · obtain ⟨k, hk, rfl⟩ := nb_mem h1
    obtain ⟨j, hj, rfl⟩ := nb_mem h2
    exact alike_two (h.al _ (getD_mem hk) _ (getD_mem hj)) (alike_int _ _)
theorem nb_ord {M N : Nat} {l : List D} (h : Pl N l) (k : N + 1 ≤ M) : OrdD M (nbD l) := by
  have p := (nb_pl h).mono k
  refine ⟨p.dat, p.dep, fun a ha b hb => ?_, .inl fun d hd => ?_⟩
  · obtain ⟨x, hx, rfl⟩ := List.mem_map.mp ha
    obtain ⟨y, hy, rfl⟩ := List.mem_map.mp hb
    exact p.al x hx y hy
  · obtain ⟨x, hx, rfl⟩ := List.mem_map.mp hd
    obtain ⟨k, hk, rfl⟩ := nb_mem hx
    exact ⟨_, _, rfl⟩
/-- turned places -/
def tnD (l : List D) : List D := (List.range l.length).map fun k => .lst (l.drop k ++ l.take k)
theorem tn_len (l : List D) : (tnD l).length = l.length := by unfold tnD; rw [List.length_map, List.length_range]
theorem tn_pl {N : Nat} {l : List D} (h : Pl N l) : Pl (N + 1) (tnD l) := by
  have mem : ∀ {k : Nat} {d : D}, d ∈ l.drop k ++ l.take k → d ∈ l := fun {k d} hd => by
    rcases List.mem_append.mp hd with hd | hd
    · exact List.mem_of_mem_drop hd
    · exact List.mem_of_mem_take hd
  refine ⟨fun d hd => ?_, fun d hd => ?_, fun a h1 b h2 => ?_⟩
  · obtain ⟨k, hk, rfl⟩ := List.mem_map.mp hd
    exact dat_lst fun d hd => h.dat d (mem hd)
  · obtain ⟨k, hk, rfl⟩ := List.mem_map.mp hd
    exact depth_lst fun d hd => h.dep d (mem hd)
  · obtain ⟨k, hk, rfl⟩ := List.mem_map.mp h1
    obtain ⟨j, hj, rfl⟩ := List.mem_map.mp h2
    show alike (.list (toPs _)) (.list (toPs _)) = true
    rw [alike_list, toPs_map, toPs_map]
    refine alikeAll_of fun x hx y hy => ?_
    obtain ⟨a, ha, rfl⟩ := List.mem_map.mp hx
    obtain ⟨b, hb, rfl⟩ := List.mem_map.mp hy
    exact h.al a (mem ha) b (mem hb)
theorem tn_get {l : List D} {k : Nat} (h : k < l.length) : (tnD l).getD k .non = .lst (l.drop k ++ l.take k) := by
  unfold tnD
  rw [List.getD_eq_getElem?_getD, List.getElem?_map, List.getElem?_range h]; rfl
/-- what a numbered place picks -/
def pickT (rs : List Tr) : D → Tr
  | .tup [_, .int k] => rs.getD k.toNat (.atom none)
  | _ => .atom none
theorem pick_nb {rs : List Tr} {l : List D} (h : l.length = rs.length) : (nbD l).map (pickT rs) = rs := by
  unfold nbD
  rw [List.map_map]
  apply List.ext_getElem
  · rw [List.length_map, List.length_range, h]
  · intro i h1 h2
    rw [List.getElem_map, List.getElem_range]
    show rs.getD ((i : Nat) : Int).toNat _ = _
    rw [Int.toNat_natCast, List.getD_eq_getElem?_getD, List.getElem?_eq_getElem h2]; rfl
theorem pick_perm {rs : List Tr} {l : List D} (h : l.length = rs.length) : (((nbD l).mergeSort leD).map (pickT rs)).Perm rs := by
  have := ((List.mergeSort_perm (nbD l) leD).map (pickT rs))
  rw [pick_nb h] at this
  exact this
theorem turn_perm (rs : List Tr) (k : Nat) : (rs.drop k ++ rs.take k).Perm rs := by
  have := List.perm_append_comm (l₁ := rs.drop k) (l₂ := rs.take k)
  rwa [List.take_append_drop] at this
end DL

namespace DL
variable [Tbs]
open PySem L2
/-! # the parts of a tree of an expression -/
theorem form_part {sp : Sp'} (hv : valid sp = true) {e : Ex'} {t : Tr} (h : Form sp e t) : okE sp e = true → ∀ {w : Wd} {ps : List Tr}, t = .node w ps → ∀ p ∈ ps, ∃ e', okE sp e' = true ∧ Form sp e' p := by
  induction h with
  | name he _ ih => exact fun _ => ih (val_of hv he).ok
  | one => intro _ w ps h; cases h; exact fun p hp => by cases hp
  | atom l => intro _ w ps h; cases h
  | @left a b t h _ =>
    intro ok w ps ht
    have ok2 : (unit a || unit b) = true ∧ okE sp a = true ∧ okE sp b = true := by unfold okE at ok; simpa [and_assoc] using ok
    cases ht
    intro p hp
    rw [List.mem_singleton.mp hp]
    exact ⟨a, ok2.2.1, h⟩
  | @right a b t h _ =>
    intro ok w ps ht
    have ok2 : (unit a || unit b) = true ∧ okE sp a = true ∧ okE sp b = true := by unfold okE at ok; simpa [and_assoc] using ok
    cases ht
    intro p hp
    rw [List.mem_singleton.mp hp]
    exact ⟨b, ok2.2.2, h⟩
  | @and a b t u h1 h2 _ _ =>
    intro ok w ps ht
    have ok2 : okE sp a = true ∧ okE sp b = true := by unfold okE at ok; simpa using ok
    cases ht
    intro p hp
    rcases List.mem_cons.mp hp with rfl | hp
    · exact ⟨a, ok2.1, h1⟩
    · rw [List.mem_singleton.mp hp]; exact ⟨b, ok2.2, h2⟩
  | @mem w e lo hi ts h1 h2 h3 h4 _ =>
    intro ok w2 ps ht
    have ok3 : w.mem = true ∧ (hi = some 1 ∨ 1 ≤ ms (aM sp) e) ∧ okE sp e = true ∧ lo ≤ 30 := by unfold okE at ok; simpa [and_assoc] using ok
    cases ht
    exact fun p hp => ⟨e, ok3.2.2.1, h4 p hp⟩
/-- the members of a set or a ring: of one expression, few; more than one only if none is empty -/
structure Memb (sp : Sp') (ps : List Tr) (e : Ex') : Prop where
  ok : okE sp e = true
  f : ∀ p ∈ ps, Form sp e p
  few : ps.length ≤ 33
  big : 1 < ps.length → ∀ p ∈ ps, 1 ≤ sizeT p
theorem form_memb {sp : Sp'} (hv : valid sp = true) {e : Ex'} {t : Tr} (h : Form sp e t) : okE sp e = true → ∀ {w : Wd} {ps : List Tr}, t = .node w ps → w.mem = true → ∃ e', Memb sp ps e' := by
  induction h with
  | name he _ ih => exact fun _ => ih (val_of hv he).ok
  | one => intro _ w ps h hw; cases h; cases hw
  | atom l => intro _ w ps h; cases h
  | left _ _ => intro _ w ps h hw; cases h; cases hw
  | right _ _ => intro _ w ps h hw; cases h; cases hw
  | and _ _ _ _ => intro _ w ps h hw; cases h; cases hw
  | @mem w e lo hi ts h1 h2 h3 h4 _ =>
    intro ok w2 ps ht hw
    have ok3 : w.mem = true ∧ (hi = some 1 ∨ 1 ≤ ms (aM sp) e) ∧ okE sp e = true ∧ lo ≤ 30 := by unfold okE at ok; simpa [and_assoc] using ok
    cases ht
    refine ⟨e, ok3.2.2.1, h4, by omega, fun hl p hp => ?_⟩
    rcases ok3.2.1 with rfl | k
    · have := h3 1 rfl; omega
    · have := (form_fx hv (h4 p hp) ok3.2.2.1).m; omega
theorem labs_le (ps : List Tr) : (ps.flatMap labs).length ≤ (ps.map sizeT).sum := by
  induction ps with
  | nil => exact Nat.le_refl _
  | cons p ps ih =>
    rw [List.flatMap_cons, List.length_append, List.map_cons, List.sum_cons]
    have := labs_size p
    omega
theorem labs_full : ∀ {ps : List Tr}, (ps.flatMap labs).length = (ps.map sizeT).sum → ∀ p ∈ ps, (labs p).length = sizeT p
  | [], _, p, hp => by cases hp
  | q :: ps, h, p, hp => by
    rw [List.flatMap_cons, List.length_append, List.map_cons, List.sum_cons] at h
    have := labs_size q
    have := labs_le ps
    rcases List.mem_cons.mp hp with rfl | hp
    · omega
    · exact labs_full (by omega) p hp
theorem labs_parts {w : Wd} {ps : List Tr} (h : labs (.node w ps) = [] ∨ (labs (.node w ps)).length = sizeT (.node w ps)) : (∀ p ∈ ps, labs p = []) ∨ ∀ p ∈ ps, (labs p).length = sizeT p := by
  rcases h with h | h
  · exact .inl (labs_part h)
  · rw [labs_node, size_node] at h
    exact .inr (labs_full h)
theorem cut_take {α : Type} (l : List α) {k : Nat} (h : k ≤ l.length) : cutD l none (some (k : Nat)) = l.take k := by
  unfold cutD
  rw [HT.sIx_none, HT.sIx_nat, List.drop_zero, Nat.min_eq_left h, Nat.sub_zero]
theorem cut_drop {α : Type} (l : List α) {k : Nat} (h : k ≤ l.length) : cutD l (some (k : Nat)) none = l.drop k := by
  unfold cutD
  rw [HT.sIx_none, HT.sIx_nat, Nat.min_eq_left h, List.take_of_length_le (by rw [List.length_drop]; omega)]
theorem cut_take1 {α : Type} (l : List α) : cutD l none (some 1) = l.take 1 := by
  cases l with
  | nil => rfl
  | cons x l => exact cut_take (x :: l) (k := 1) (by rw [List.length_cons]; omega)
theorem lc_trR {t : DG} {elt : DX} {δ : List Sl} {Q : List D → Prop} (R : Tr → Tr → Prop) : ∀ {ps : List Tr} {acc : List D}, (∀ p ∈ ps, ∀ (P : D → Prop), (∀ r, R p r → P (encT r)) → t (encT p) δ fun δ' => elt δ' P) → (∀ rs : List Tr, ps.length = rs.length → (∀ (i : Nat) (p r : Tr), ps[i]? = some p → rs[i]? = some r → R p r) → Q (acc ++ rs.map encT)) → lcRun t tYesD elt δ Q (ps.map encT) acc
  | [], acc, _, q => by
    have := q [] rfl fun i p r h => by cases h
    rw [List.map_nil, List.append_nil] at this
    exact this
  | p :: ps, acc, h, q => by
    refine h p List.mem_cons_self _ fun r hr => ?_
    refine lc_trR R (fun y hy => h y (List.mem_cons_of_mem _ hy)) fun rs hl hi => ?_
    have := q (r :: rs) (by rw [List.length_cons, List.length_cons, hl]) fun i a b ea eb => by
      cases i with
      | zero => cases ea; cases eb; exact hr
      | succ i => exact hi i a b ea eb
    rw [List.append_assoc]
    exact this
/-- what is known of the parts once formed -/
structure Fmd (ps rs : List Tr) : Prop where
  len : ps.length = rs.length
  r : ∀ (i : Nat) (p r : Tr), ps[i]? = some p → rs[i]? = some r → Rea p r
theorem Fmd.of {ps rs : List Tr} (h : Fmd ps rs) {r : Tr} (hr : r ∈ rs) : ∃ p ∈ ps, Rea p r := by
  obtain ⟨i, hi, e⟩ := get_of_mem hr
  have hp := List.getElem?_eq_getElem (h.len ▸ hi : i < ps.length)
  exact ⟨_, List.getElem_mem _, h.r i _ _ hp e⟩
theorem ix_first {rs : List Tr} (h : 1 < rs.length) : ∃ r0 ∈ rs, ∀ f : Tr → D, ixD (rs.map f) 0 = some (f r0) := by
  cases rs with
  | nil => simp at h
  | cons r rs => exact ⟨r, List.mem_cons_self, fun f => rfl⟩
theorem lb_ne {r : Tr} {Q : Bool → Prop} (h1 : labL r = [] → Q true) (h2 : labL r ≠ [] → Q false) : oEqB Q (lbD r) (.lst []) := by
  have o : okD (lbD r) = true := by unfold lbD; rw [take_nats]; exact okD_nats _
  refine ⟨⟨o, by decide⟩, ?_⟩
  unfold lbD
  cases e : labL r with
  | nil => exact h1 e
  | cons x l => exact h2 (by rw [e]; exact List.cons_ne_nil _ _)
theorem ix_nat {l : List D} {k : Nat} (h : k < l.length) : ixD l (0 + (k : Nat) : Int) = some (l.getD k .non) := by
  rw [Int.zero_add, List.getD_eq_getElem?_getD, List.getElem?_eq_getElem h]
  exact List.getElem?_eq_getElem h
theorem ix_tr {rs : List Tr} {k : Nat} (h : k < rs.length) : ixD (rs.map encT) (k : Nat) = some (encT (rs.getD k (.atom none))) := by
  rw [List.getD_eq_getElem?_getD, List.getElem?_eq_getElem h]
  show (rs.map encT)[k]? = _
  rw [List.getElem?_map, List.getElem?_eq_getElem h]; rfl
theorem nb_rg {l : List D} {n : Nat} (h : l.length = n) : (List.range ((n : Int) - 0).toNat).map (fun k => D.tup [l.getD k .non, .int (0 + (k : Nat))]) = nbD l := by
  unfold nbD
  rw [h]
  have e : ((n : Int) - 0).toNat = n := by omega
  rw [e]
  exact List.map_congr_left fun k _ => by rw [Int.zero_add]
theorem min_nb {M N : Nat} {l : List D} {Q : D → Prop} (h : Pl N l) (h0 : l ≠ []) (hN : N + 2 ≤ M) (q : ∀ (k : Nat) (x : D), k < l.length → Q (.tup [x, .int (k : Nat)])) : gMinDat M (.lst (nbD (tnD l))) Q := by
  have p := nb_pl (tn_pl h)
  have mem : ∀ d ∈ nbD (tnD l), Q d := fun d hd => by
    obtain ⟨k, hk, rfl⟩ := nb_mem hd
    rw [tn_len] at hk
    exact q k _ hk
  have al : PySem.W.AlikeAll ((nbD (tnD l)).map toP) := by
    refine ⟨fun a ha b hb => ?_, fun a ha => ?_⟩
    · obtain ⟨x, hx, rfl⟩ := List.mem_map.mp ha
      obtain ⟨y, hy, rfl⟩ := List.mem_map.mp hb
      exact p.al x hx y hy
    · obtain ⟨x, hx, rfl⟩ := List.mem_map.mp ha
      obtain ⟨k, hk, rfl⟩ := nb_mem hx
      intro z; cases z
  have dp : PyData.depthAll ((nbD (tnD l)).map toP) ≤ M := depthAll_le fun a ha => by
    obtain ⟨x, hx, rfl⟩ := List.mem_map.mp ha
    exact Nat.le_trans (p.dep x hx) (by omega)
  have dt := p.dat
  have ne : nbD (tnD l) ≠ [] := fun e => by
    have := congrArg List.length e
    unfold nbD at this
    rw [List.length_map, List.length_range, tn_len] at this
    exact h0 (List.length_eq_zero_iff.mp this)
  cases e : nbD (tnD l) with
  | nil => exact absurd e ne
  | cons x l' =>
    rw [e] at mem al dp dt
    exact ⟨⟨dt, al, dp⟩, fun d hd _ => mem d hd⟩
theorem lc_trR0 {t : DG} {elt : DX} {δ : List Sl} {Q : List D → Prop} (R : Tr → Tr → Prop) {ps : List Tr} (h : ∀ p ∈ ps, ∀ (P : D → Prop), (∀ r, R p r → P (encT r)) → t (encT p) δ fun δ' => elt δ' P) (q : ∀ rs : List Tr, ps.length = rs.length → (∀ (i : Nat) (p r : Tr), ps[i]? = some p → rs[i]? = some r → R p r) → Q (rs.map encT)) : lcRun t tYesD elt δ Q (ps.map encT) [] := lc_trR R h fun rs a b => by rw [List.nil_append]; exact q rs a b
end DL

namespace DL
variable [Tbs]
open PySem L2
theorem lay0_all : ∀ l : List PyData, PyData.canLayAll0 l = l.all PyData.canLay0
  | [] => by rw [PyData.canLayAll0]; rfl
  | x :: l => by rw [PyData.canLayAll0, lay0_all l]; rfl
theorem lay_tup {l : List D} (h : ∀ d ∈ l, (toP d).canLay0 = true) : (toP (.tup l)).canLay0 = true := by
  show PyData.canLay0 (.tuple (toPs l)) = true
  rw [PyData.canLay0, lay0_all, toPs_map, List.all_map]
  exact List.all_eq_true.mpr h
theorem lay_nats (l : List Nat) : ∀ d ∈ natsD l, (toP d).canLay0 = true := fun d hd => by
  obtain ⟨n, _, rfl⟩ := List.mem_map.mp hd
  show PyData.canLay0 (.int _) = true
  rw [PyData.canLay0]
theorem lay_int (i : Int) : (toP (.int i)).canLay0 = true := by show PyData.canLay0 (.int _) = true; rw [PyData.canLay0]
theorem lay_two {a b : D} (ha : (toP a).canLay0 = true) (hb : (toP b).canLay0 = true) : (toP (.tup [a, b])).canLay0 = true := lay_tup fun d hd => by
  rcases List.mem_cons.mp hd with rfl | hd
  · exact ha
  · rw [List.mem_singleton.mp hd]; exact hb
theorem lay_three {a b c : D} (ha : (toP a).canLay0 = true) (hb : (toP b).canLay0 = true) (hc : (toP c).canLay0 = true) : (toP (.tup [a, b, c])).canLay0 = true := lay_tup fun d hd => by
  rcases List.mem_cons.mp hd with rfl | hd
  · exact ha
  · rcases List.mem_cons.mp hd with rfl | hd
    · exact hb
    · rw [List.mem_singleton.mp hd]; exact hc
theorem lay_w (t : Tr) : (toP (wD t)).canLay0 = true := lay_two (lay_int _) (lay_tup (lay_nats _))
theorem lay_pairs (ps : List Tr) (h : ∀ p ∈ ps, (toP (keyT p)).canLay0 = true) : (toP (.tup ((ps.map fun t => (wD t, keyT t)).map prD))).canLay0 = true := by
  rw [List.map_map]
  refine lay_tup fun d hd => ?_
  obtain ⟨p, hp, rfl⟩ := List.mem_map.mp hd
  exact lay_two (lay_w p) (h p hp)
theorem lay_key : ∀ t : Tr, (toP (keyT t)).canLay0 = true := by
  refine Tr.ind (fun l => ?_) fun w ps ih => ?_
  · rw [keyT]; exact lay_tup fun d hd => by cases hd
  · rw [key_node]
    have kp := lay_pairs ps ih
    cases w with
    | one | row | set => exact kp
    | left => match ps, ih, kp with
      | [], _, kp => exact kp
      | p :: ps, ih, _ => exact lay_two (lay_int _) (ih p List.mem_cons_self)
    | right => match ps, ih, kp with
      | [], _, kp => exact kp
      | p :: ps, ih, _ => exact lay_two (lay_int _) (ih p List.mem_cons_self)
    | and => match ps, ih, kp with
      | [], _, kp => exact kp
      | [p], _, kp => exact kp
      | p :: p2 :: ps, ih, _ => exact lay_three (lay_w p) (ih p List.mem_cons_self) (ih p2 (List.mem_cons_of_mem _ List.mem_cons_self))
    | ring =>
      show (toP (if (labs (.node .ring ps)).isEmpty = true then _ else _)).canLay0 = true
      split
      · exact lay_two (lay_int _) kp
      · exact kp
theorem key_ne {t : Tr} (h : dep t < 260) {Q : D → Prop} (q : Q (.bl false)) : oEqN 800 Bool.not (keyT t) (keyT t) Q := by
  have k := keyD_of t
  have o : okN 800 (keyT t) := ⟨k.dat, lay_key t, Nat.le_trans k.dep (by omega)⟩
  refine ⟨⟨o, o⟩, ?_⟩
  have e : eqD (keyT t) (keyT t) = true := eqv_refl _ (lay_key t)
  rw [e]; exact q
end DL

namespace DL
variable [Tbs]
open PySem L2
open PySem.W (alike alikeAll dataLt keyToks keyToksAll)
/-! # nested tuples of numbers as one row of numbers: the same order -/
mutual
def nest : D → Bool
  | .int i => decide (0 ≤ i)
  | .tup l => nests l
  | _ => false
def nests : List D → Bool
  | [] => true
  | d :: l => nest d && nests l
end
mutual
def rowD : D → List Int
  | .int i => [2 + i]
  | .tup l => 1 :: (rowDs l ++ [0])
  | _ => []
def rowDs : List D → List Int
  | [] => []
  | d :: l => rowD d ++ rowDs l
end
theorem flat_first {d : D} (h : nest d = true) : ∃ x r, rowD d = x :: r ∧ 0 < x := by
  cases d with
  | int i =>
    rw [nest, decide_eq_true_iff] at h
    exact ⟨2 + i, [], by rw [rowD], by omega⟩
  | tup l => exact ⟨1, _, by rw [rowD], by decide⟩
  | non | bl _ | str _ | lst _ | scr _ | dic _ _ | ref _ | ptp _ => exact absurd h (by simp [nest])
theorem lt_same (a l m : List Int) : decide (a ++ l < a ++ m) = decide (l < m) := by
  induction a with
  | nil => rfl
  | cons x a ih =>
    rw [← ih]
    apply decide_eq_decide.mpr
    rw [List.cons_append, List.cons_append, List.cons_lt_cons_iff]
    constructor
    · rintro (h | ⟨_, h⟩)
      · omega
      · exact h
    · exact fun h => .inr ⟨rfl, h⟩
theorem lt_head {x y : Int} (h : x ≠ y) (l m : List Int) : decide (x :: l < y :: m) = decide (x < y) := by
  apply decide_eq_decide.mpr
  rw [List.cons_lt_cons_iff]
  constructor
  · rintro (h2 | ⟨h2, _⟩)
    · exact h2
    · exact absurd h2 h
  · exact .inl
structure Same' (a b : D) : Prop where
  e : a = b
  v : PyData.eqv (toP a) (toP b) = true
structure Differ (a b : D) : Prop where
  v : PyData.eqv (toP a) (toP b) = false
  c : ∀ l m : List Int, decide (rowD a ++ l < rowD b ++ m) = dataLt (toP a) (toP b)
  n : ∀ l m : List Int, rowD a ++ l ≠ rowD b ++ m
structure Sames (a b : List D) : Prop where
  e : a = b
  v : PyData.eqvAll (toPs a) (toPs b) = true
structure Differs (a b : List D) : Prop where
  v : PyData.eqvAll (toPs a) (toPs b) = false
  c : ∀ l m : List Int, decide (rowDs a ++ 0 :: l < rowDs b ++ 0 :: m) = PyProof.Rows.lexLt PyProof.Rows.itemOrd (keyToksAll (toPs a)) (keyToksAll (toPs b))
  n : ∀ l m : List Int, rowDs a ++ 0 :: l ≠ rowDs b ++ 0 :: m
mutual
theorem flat_cmp : ∀ a b : D, nest a = true → nest b = true → alike (toP a) (toP b) = true → Same' a b ∨ Differ a b
  | .int i, .int j, _, _, _ => by
    by_cases h : i = j
    · subst h
      exact .inl ⟨rfl, by show PyData.eqv (.int i) (.int i) = true; unfold PyData.eqv; exact beq_self_eq_true i⟩
    · refine .inr ⟨?_, fun l m => ?_, fun l m e => ?_⟩
      · show PyData.eqv (.int i) (.int j) = false
        unfold PyData.eqv
        exact beq_false_of_ne h
      · rw [rowD, rowD]
        show decide ((2 + i) :: l < (2 + j) :: m) = dataLt (.int i) (.int j)
        rw [lt_head (by omega), PySem.W.dataLt_int]
        exact decide_eq_decide.mpr (by omega)
      · rw [rowD, rowD] at e
        have := (List.cons.inj e).1
        omega
  | .tup xs, .tup ys, ha, hb, hl => by
    rw [nest] at ha hb
    have hl : alikeAll (toPs xs) (toPs ys) = true := by
      have : alike (.tuple (toPs xs)) (.tuple (toPs ys)) = true := hl
      rw [alike_tuple] at this; exact this
    rcases flats_cmp xs ys ha hb hl with h | h
    · exact .inl ⟨by rw [h.e], by show PyData.eqv (.tuple _) (.tuple _) = true; rw [PyData.eqv]; exact h.v⟩
    · refine .inr ⟨by show PyData.eqv (.tuple _) (.tuple _) = false; rw [PyData.eqv]; exact h.v, fun l m => ?_, fun l m e => ?_⟩
      · show _ = dataLt (.tuple (toPs xs)) (.tuple (toPs ys))
        rw [PySem.W.dataLt_tuple, ← h.c l m, rowD, rowD, List.cons_append, List.cons_append, List.append_assoc, List.append_assoc]
        exact lt_same [1] _ _
      · rw [rowD, rowD, List.cons_append, List.cons_append, List.append_assoc, List.append_assoc] at e
        exact h.n l m (List.cons.inj e).2
  | .int i, .tup ys, _, _, hl => by
    have : alike (.int i) (.tuple (toPs ys)) = true := hl
    exact absurd this (by simp [alike])
  | .tup xs, .int j, _, _, hl => by
    have : alike (.tuple (toPs xs)) (.int j) = true := hl
    exact absurd this (by simp [alike])
  | .non, _, h, _, _ => absurd h (by simp [nest])
  | .bl _, _, h, _, _ => absurd h (by simp [nest])
  | .str _, _, h, _, _ => absurd h (by simp [nest])
  | .lst _, _, h, _, _ => absurd h (by simp [nest])
  | .scr _, _, h, _, _ => absurd h (by simp [nest])
  | .dic _ _, _, h, _, _ => absurd h (by simp [nest])
  | .ref _, _, h, _, _ => absurd h (by simp [nest])
  | .ptp _, _, h, _, _ => absurd h (by simp [nest])
  | .int _, .non, _, h, _ => absurd h (by simp [nest])
  | .int _, .bl _, _, h, _ => absurd h (by simp [nest])
  | .int _, .str _, _, h, _ => absurd h (by simp [nest])
  | .int _, .lst _, _, h, _ => absurd h (by simp [nest])
  | .int _, .scr _, _, h, _ => absurd h (by simp [nest])
  | .int _, .dic _ _, _, h, _ => absurd h (by simp [nest])
  | .int _, .ref _, _, h, _ => absurd h (by simp [nest])
  | .int _, .ptp _, _, h, _ => absurd h (by simp [nest])
  | .tup _, .non, _, h, _ => absurd h (by simp [nest])
  | .tup _, .bl _, _, h, _ => absurd h (by simp [nest])
  | .tup _, .str _, _, h, _ => absurd h (by simp [nest])
  | .tup _, .lst _, _, h, _ => absurd h (by simp [nest])
  | .tup _, .scr _, _, h, _ => absurd h (by simp [nest])
  | .tup _, .dic _ _, _, h, _ => absurd h (by simp [nest])
  | .tup _, .ref _, _, h, _ => absurd h (by simp [nest])
  | .tup _, .ptp _, _, h, _ => absurd h (by simp [nest])
theorem flats_cmp : ∀ a b : List D, nests a = true → nests b = true → alikeAll (toPs a) (toPs b) = true → Sames a b ∨ Differs a b
  | [], [], _, _, _ => .inl ⟨rfl, by show PyData.eqvAll [] [] = true; rw [PyData.eqvAll]⟩
  | [], y :: ys, _, hb, _ => by
    rw [nests, Bool.and_eq_true] at hb
    obtain ⟨z, r, e, hz⟩ := flat_first hb.1
    refine .inr ⟨by show PyData.eqvAll [] (toP y :: toPs ys) = false; simp [PyData.eqvAll], fun l m => ?_, fun l m e2 => ?_⟩
    · rw [rowDs, rowDs, e]
      show decide (0 :: l < z :: ((r ++ rowDs ys) ++ 0 :: m)) = PyProof.Rows.lexLt PyProof.Rows.itemOrd (keyToksAll []) (keyToksAll (toP y :: toPs ys))
      rw [lt_head (by omega), decide_eq_true hz, keyToksAll, keyToksAll]
      rfl
    · rw [rowDs, rowDs, e] at e2
      have := (List.cons.inj e2).1
      omega
  | x :: xs, [], ha, _, _ => by
    rw [nests, Bool.and_eq_true] at ha
    obtain ⟨z, r, e, hz⟩ := flat_first ha.1
    refine .inr ⟨by show PyData.eqvAll (toP x :: toPs xs) [] = false; simp [PyData.eqvAll], fun l m => ?_, fun l m e2 => ?_⟩
    · rw [rowDs, rowDs, e]
      show decide (z :: ((r ++ rowDs xs) ++ 0 :: l) < 0 :: m) = PyProof.Rows.lexLt PyProof.Rows.itemOrd (keyToksAll (toP x :: toPs xs)) (keyToksAll [])
      rw [lt_head (by omega), decide_eq_false (by omega), keyToksAll, keyToksAll]
      rfl
    · rw [rowDs, rowDs, e] at e2
      have := (List.cons.inj e2).1
      omega
  | x :: xs, y :: ys, ha, hb, hl => by
    rw [nests, Bool.and_eq_true] at ha hb
    have hl : alike (toP x) (toP y) = true ∧ alikeAll (toPs xs) (toPs ys) = true := by
      have : alikeAll (toP x :: toPs xs) (toP y :: toPs ys) = true := hl
      rw [alikeAll_cons, Bool.and_eq_true] at this; exact this
    have ev : PyData.eqvAll (toPs (x :: xs)) (toPs (y :: ys)) = (PyData.eqv (toP x) (toP y) && PyData.eqvAll (toPs xs) (toPs ys)) := PySem.W.eqv_all_cons _ _ _ _
    rcases flat_cmp x y ha.1 hb.1 hl.1 with h | h
    · rcases flats_cmp xs ys ha.2 hb.2 hl.2 with k | k
      · exact .inl ⟨by rw [h.e, k.e], by rw [ev, h.v, k.v]; rfl⟩
      · refine .inr ⟨by rw [ev, h.v, k.v]; rfl, fun l m => ?_, fun l m e2 => ?_⟩
        · show _ = PyProof.Rows.lexLt PyProof.Rows.itemOrd (keyToksAll (toP x :: toPs xs)) (keyToksAll (toP y :: toPs ys))
          rw [PySem.W.dataLt_all_yes hl.1 h.v, ← k.c l m, rowDs, rowDs, h.e, List.append_assoc, List.append_assoc]
          exact lt_same _ _ _
        · rw [rowDs, rowDs, h.e, List.append_assoc, List.append_assoc] at e2
          exact k.n l m (List.append_cancel_left e2)
    · refine .inr ⟨by rw [ev, h.v]; rfl, fun l m => ?_, fun l m e2 => ?_⟩
      · show _ = PyProof.Rows.lexLt PyProof.Rows.itemOrd (keyToksAll (toP x :: toPs xs)) (keyToksAll (toP y :: toPs ys))
        rw [PySem.W.dataLt_all_no hl.1 h.v, rowDs, rowDs, List.append_assoc, List.append_assoc]
        exact h.c _ _
      · rw [rowDs, rowDs, List.append_assoc, List.append_assoc] at e2
        exact h.n _ _ e2
end
theorem dlt_self (d : PyData) : dataLt d d = false := PyProof.Rows.lex_irrefl _
/-- the rows compare as the data do -/
theorem flat_lt {a b : D} (ha : nest a = true) (hb : nest b = true) (hl : alike (toP a) (toP b) = true) : decide (rowD a < rowD b) = dataLt (toP a) (toP b) := by
  rcases flat_cmp a b ha hb hl with h | h
  · have := lt_same (rowD b) [] []
    rw [List.append_nil] at this
    rw [h.e, this, dlt_self]
    rfl
  · have := h.c [] []
    rw [List.append_nil, List.append_nil] at this
    exact this
theorem flat_inj {a b : D} (ha : nest a = true) (hb : nest b = true) (hl : alike (toP a) (toP b) = true) (e : rowD a = rowD b) : a = b := by
  rcases flat_cmp a b ha hb hl with h | h
  · exact h.e
  · exact absurd (by rw [List.append_nil, List.append_nil]; exact e) (h.n [] [])
end DL

namespace DL
variable [Tbs]
open PySem L2
open PySem.W (alike alikeAll dataLt)
/-! # the one form, as what holds of it; there is only one -/
inductive All2 {α : Type} (R : α → α → Prop) : List α → List α → Prop
  | nil : All2 R [] []
  | cons {a b : α} {as bs : List α} : R a b → All2 R as bs → All2 R (a :: as) (b :: bs)
theorem all2_of {α : Type} {R : α → α → Prop} : ∀ {as bs : List α}, as.length = bs.length → (∀ (i : Nat) (a b : α), as[i]? = some a → bs[i]? = some b → R a b) → All2 R as bs
  | [], [], _, _ => .nil
  | a :: as, b :: bs, hl, h => .cons (h 0 a b rfl rfl) (all2_of (by simpa using hl) fun i x y ex ey => h (i + 1) x y ex ey)
  | [], _ :: _, hl, _ => by cases hl
  | _ :: _, [], hl, _ => by cases hl
theorem All2.len {α : Type} {R : α → α → Prop} {as bs : List α} (h : All2 R as bs) : as.length = bs.length := by
  induction h with
  | nil => rfl
  | cons _ _ ih => rw [List.length_cons, List.length_cons, ih]
theorem all2_perm {α : Type} {R : α → α → Prop} {as cs : List α} (p : as.Perm cs) : ∀ {bs : List α}, All2 R as bs → ∃ ds : List α, bs.Perm ds ∧ All2 R cs ds := by
  induction p with
  | nil => intro bs h; cases h; exact ⟨[], .refl _, .nil⟩
  | cons x _ ih =>
    intro bs h
    cases h with
    | cons r h =>
      obtain ⟨ds, q, k⟩ := ih h
      exact ⟨_ :: ds, q.cons _, .cons r k⟩
  | swap x y l =>
    intro bs h
    cases h with
    | cons r h => cases h with
      | cons r2 h => exact ⟨_, .swap _ _ _, .cons r2 (.cons r h)⟩
  | trans _ _ ih1 ih2 =>
    intro bs h
    obtain ⟨ds, q, k⟩ := ih1 h
    obtain ⟨es, q2, k2⟩ := ih2 k
    exact ⟨es, q.trans q2, k2⟩
theorem all2_app {α : Type} {R : α → α → Prop} {a b c d : List α} (h : All2 R a b) (k : All2 R c d) : All2 R (a ++ c) (b ++ d) := by
  induction h with
  | nil => exact k
  | cons r _ ih => exact .cons r ih
theorem all2_split {α : Type} {R : α → α → Prop} : ∀ {a c d : List α}, All2 R (a ++ c) d → ∃ x y, d = x ++ y ∧ All2 R a x ∧ All2 R c y
  | [], c, d, h => ⟨[], d, rfl, .nil, h⟩
  | p :: a, c, _, .cons r h => by
    obtain ⟨x, y, e, h1, h2⟩ := all2_split h
    exact ⟨_ :: x, y, by rw [e]; rfl, .cons r h1, h2⟩
def rot {α : Type} (k : Nat) (l : List α) : List α := l.drop k ++ l.take k
theorem all2_rot {α : Type} {R : α → α → Prop} {k : Nat} {ss vs : List α} (h : All2 R (rot k ss) vs) (hk : k ≤ ss.length) : ∃ ds, vs = rot k ds ∧ All2 R ss ds := by
  obtain ⟨x, y, e, h1, h2⟩ := all2_split h
  refine ⟨y ++ x, ?_, ?_⟩
  · have ly : y.length = k := by rw [← h2.len, List.length_take]; omega
    unfold rot
    rw [List.drop_append_of_le_length (by omega), List.take_append_of_le_length (by omega), List.drop_of_length_le (by omega), List.take_of_length_le (by omega), List.nil_append, e]
  · have := all2_app h2 h1
    rw [List.take_append_drop] at this
    exact this
theorem all2_eq {α : Type} {R : α → α → Prop} {as bs : List α} (h : All2 R as bs) (k : ∀ a ∈ as, ∀ b, R a b → a = b) : as = bs := by
  induction h with
  | nil => rfl
  | cons r _ ih => rw [k _ List.mem_cons_self _ r, ih fun a ha => k a (List.mem_cons_of_mem _ ha)]
/-- sorted lists of the same things -/
theorem sorted_same {α : Type} {R : α → α → Prop} : ∀ {a b : List α}, a.Perm b → a.Pairwise R → b.Pairwise R → (∀ x ∈ a, ∀ y ∈ a, R x y → R y x → x = y) → a = b
  | [], b, p, _, _, _ => by rw [List.nil_perm.mp p]
  | x :: a, [], p, _, _, _ => by have := p.length_eq; cases this
  | x :: a, y :: b, p, ha, hb, an => by
    have hx : x ∈ y :: b := p.mem_iff.mp List.mem_cons_self
    have hy : y ∈ x :: a := p.mem_iff.mpr List.mem_cons_self
    have e : x = y := by
      rcases List.mem_cons.mp hx with e | hx
      · exact e
      · rcases List.mem_cons.mp hy with e | hy2
        · exact e.symm
        · exact an x List.mem_cons_self y hy ((List.pairwise_cons.mp ha).1 y hy2) ((List.pairwise_cons.mp hb).1 x hx)
    subst e
    rw [sorted_same (List.Perm.cons_inv p) (List.pairwise_cons.mp ha).2 (List.pairwise_cons.mp hb).2 fun u hu v hv => an u (List.mem_cons_of_mem _ hu) v (List.mem_cons_of_mem _ hv)]
def plD (lab : Bool) (r : Tr) : D := if lab = true then lbD r else skD r
def leM (lab : Bool) (a b : Tr) : Prop := dataLt (toP (plD lab b)) (toP (plD lab a)) = false
def plsP (lab : Bool) (l : List Tr) : PyData := .list (l.map fun r => toP (plD lab r))
def Ord (lab : Bool) (w : Wd) (rs qs : List Tr) : Prop :=
  (w = .set → qs.Perm rs ∧ qs.Pairwise (leM lab)) ∧ (w = .ring → ∃ k, k ≤ rs.length ∧ qs = rot k rs ∧ ∀ j, j < rs.length → dataLt (plsP lab (rot j rs)) (plsP lab qs) = false) ∧ (w ≠ .set → w ≠ .ring → qs = rs)
inductive NF (lab : Bool) : Tr → Tr → Prop
  | atom (l : Option Nat) : NF lab (.atom l) (.atom l)
  | node {w : Wd} {ps rs qs : List Tr} : ps.length = rs.length → (∀ (i : Nat) (p r : Tr), ps[i]? = some p → rs[i]? = some r → NF lab p r) → Ord lab w rs qs → NF lab (.node w ps) (.node w qs)
/-- the same, stirred -/
inductive Sti : Tr → Tr → Prop
  | atom (l : Option Nat) : Sti (.atom l) (.atom l)
  | node {w : Wd} {ps rs qs : List Tr} : ps.length = rs.length → (∀ (i : Nat) (p r : Tr), ps[i]? = some p → rs[i]? = some r → Sti p r) → ((w = .set → qs.Perm rs) ∧ (w = .ring → ∃ k, k ≤ rs.length ∧ qs = rot k rs) ∧ (w ≠ .set → w ≠ .ring → qs = rs)) → Sti (.node w ps) (.node w qs)
theorem rot_perm {α : Type} (k : Nat) (l : List α) : (rot k l).Perm l := by
  have := List.perm_append_comm (l₁ := l.drop k) (l₂ := l.take k)
  rwa [List.take_append_drop] at this
theorem ord_rea {lab : Bool} {w : Wd} {rs qs : List Tr} (h : Ord lab w rs qs) : qs = rs ∨ ((w = .set ∨ w = .ring) ∧ qs.Perm rs) := by
  by_cases h1 : w = .set
  · exact .inr ⟨.inl h1, (h.1 h1).1⟩
  · by_cases h2 : w = .ring
    · obtain ⟨k, _, e, _⟩ := h.2.1 h2
      exact .inr ⟨.inr h2, e ▸ rot_perm k rs⟩
    · exact .inl (h.2.2 h1 h2)
theorem nf_rea {lab : Bool} {t u : Tr} (h : NF lab t u) : Rea t u := by
  induction h with
  | atom l => exact .atom l
  | node hl _ ho ih => exact .node hl ih (ord_rea ho)
theorem sti_rea {t u : Tr} (h : Sti t u) : Rea t u := by
  induction h with
  | atom l => exact .atom l
  | @node w ps rs qs hl _ ho ih =>
    refine .node hl ih ?_
    by_cases h1 : w = .set
    · exact .inr ⟨.inl h1, ho.1 h1⟩
    · by_cases h2 : w = .ring
      · obtain ⟨k, _, e⟩ := ho.2.1 h2
        exact .inr ⟨.inr h2, e ▸ rot_perm k rs⟩
      · exact .inl (ho.2.2 h1 h2)
theorem sti_self : ∀ t : Tr, Sti t t := by
  refine Tr.ind (fun l => .atom l) fun w ps ih => ?_
  refine .node (rs := ps) rfl (fun i p r e1 e2 => ?_) ⟨fun _ => .refl _, fun _ => ⟨0, Nat.zero_le _, by unfold rot; simp⟩, fun _ _ => rfl⟩
  rw [e1] at e2; cases e2
  exact ih p (List.mem_of_getElem? e1)
theorem leM_total {lab : Bool} {a b : Tr} (h1 : leM lab a b) (h2 : leM lab b a) : PySem.W.keyToks (toP (plD lab a)) = PySem.W.keyToks (toP (plD lab b)) := PyProof.Rows.lex_total (O := PyProof.Rows.itemOrd) _ _ h2 h1
end DL

namespace DL
variable [Tbs]
open PySem L2
open PySem.W (alike alikeAll dataLt keyToks keyToksAll)
/-! # there is only one form -/
theorem nests_all : ∀ l : List D, nests l = l.all nest
  | [] => by rw [nests]; rfl
  | d :: l => by rw [nests, nests_all l]; rfl
theorem nest_tup {l : List D} (h : ∀ d ∈ l, nest d = true) : nest (.tup l) = true := by rw [nest, nests_all]; exact List.all_eq_true.mpr h
theorem nest_int (n : Nat) : nest (.int (n : Nat)) = true := by rw [nest]; exact decide_eq_true (by omega)
theorem nest_nats (l : List Nat) : ∀ d ∈ natsD l, nest d = true := fun d hd => by
  obtain ⟨n, _, rfl⟩ := List.mem_map.mp hd
  exact nest_int n
theorem nest_two {a b : D} (ha : nest a = true) (hb : nest b = true) : nest (.tup [a, b]) = true := nest_tup fun d hd => by
  rcases List.mem_cons.mp hd with rfl | hd
  · exact ha
  · rw [List.mem_singleton.mp hd]; exact hb
theorem nest_three {a b c : D} (ha : nest a = true) (hb : nest b = true) (hc : nest c = true) : nest (.tup [a, b, c]) = true := nest_tup fun d hd => by
  rcases List.mem_cons.mp hd with rfl | hd
  · exact ha
  · rcases List.mem_cons.mp hd with rfl | hd
    · exact hb
    · rw [List.mem_singleton.mp hd]; exact hc
theorem nest_w (t : Tr) : nest (wD t) = true := nest_two (nest_int _) (nest_tup (nest_nats _))
theorem nest_pairs (ps : List Tr) (h : ∀ p ∈ ps, nest (keyT p) = true) : nest (.tup ((ps.map fun t => (wD t, keyT t)).map prD)) = true := by
  rw [List.map_map]
  refine nest_tup fun d hd => ?_
  obtain ⟨p, hp, rfl⟩ := List.mem_map.mp hd
  exact nest_two (nest_w p) (h p hp)
theorem nest_key : ∀ t : Tr, nest (keyT t) = true := by
  refine Tr.ind (fun l => ?_) fun w ps ih => ?_
  · rw [keyT]; exact nest_tup fun d hd => by cases hd
  · rw [key_node]
    have kp := nest_pairs ps ih
    cases w with
    | one | row | set => exact kp
    | left => match ps, ih, kp with
      | [], _, kp => exact kp
      | p :: ps, ih, _ => exact nest_two (nest_int 0) (ih p List.mem_cons_self)
    | right => match ps, ih, kp with
      | [], _, kp => exact kp
      | p :: ps, ih, _ => exact nest_two (nest_int 1) (ih p List.mem_cons_self)
    | and => match ps, ih, kp with
      | [], _, kp => exact kp
      | [p], _, kp => exact kp
      | p :: p2 :: ps, ih, _ => exact nest_three (nest_w p) (ih p List.mem_cons_self) (ih p2 (List.mem_cons_of_mem _ List.mem_cons_self))
    | ring =>
      show nest (if (labs (.node .ring ps)).isEmpty = true then _ else _) = true
      split
      · exact nest_two (nest_int _) kp
      · exact kp
theorem row_eq : ∀ {a b : List Int}, ¬ a < b → ¬ b < a → a = b
  | [], [], _, _ => rfl
  | [], y :: b, h, _ => absurd (List.nil_lt_cons y b) h
  | x :: a, [], _, h => absurd (List.nil_lt_cons x a) h
  | x :: a, y :: b, h1, h2 => by
    rw [List.cons_lt_cons_iff] at h1 h2
    have e : x = y := by
      apply Int.le_antisymm
      · exact Int.not_lt.mp fun z => h2 (.inl z)
      · exact Int.not_lt.mp fun z => h1 (.inl z)
    subst e
    rw [row_eq (fun z => h1 (.inr ⟨rfl, z⟩)) (fun z => h2 (.inr ⟨rfl, z⟩))]
theorem nest_eq {a b : D} (ha : nest a = true) (hb : nest b = true) (h1 : alike (toP a) (toP b) = true) (h2 : alike (toP b) (toP a) = true) (l1 : dataLt (toP a) (toP b) = false) (l2 : dataLt (toP b) (toP a) = false) : a = b := by
  rw [← flat_lt ha hb h1] at l1
  rw [← flat_lt hb ha h2] at l2
  exact flat_inj ha hb h1 (row_eq (of_decide_eq_false l1) (of_decide_eq_false l2))
/-- places, as tuples -/
def lbN (r : Tr) : D := .tup ((natsD (labL r)).take 1)
def plN (lab : Bool) (r : Tr) : D := if lab = true then lbN r else skD r
theorem toks_pl (lab : Bool) (r : Tr) : keyToks (toP (plD lab r)) = keyToks (toP (plN lab r)) := by
  cases lab with
  | false => rfl
  | true =>
    show keyToks (.list _) = keyToks (.tuple _)
    rw [keyToks, keyToks]
theorem toks_map (lab : Bool) (l : List Tr) : keyToksAll (l.map fun r => toP (plD lab r)) = keyToksAll (l.map fun r => toP (plN lab r)) := by
  induction l with
  | nil => rfl
  | cons r l ih => rw [List.map_cons, List.map_cons, PySem.W.toks_all_cons, PySem.W.toks_all_cons, ih, toks_pl]
theorem lt_pl (lab : Bool) (a b : Tr) : dataLt (toP (plD lab a)) (toP (plD lab b)) = dataLt (toP (plN lab a)) (toP (plN lab b)) := by
  unfold dataLt
  rw [toks_pl, toks_pl]
theorem lt_pls (lab : Bool) (a b : List Tr) : dataLt (plsP lab a) (plsP lab b) = dataLt (toP (.tup (a.map (plN lab)))) (toP (.tup (b.map (plN lab)))) := by
  have e : ∀ l : List Tr, toP (.tup (l.map (plN lab))) = .tuple (l.map fun r => toP (plN lab r)) := fun l => by
    show PyData.tuple (toPs _) = _
    rw [toPs_map, List.map_map]; rfl
  rw [e, e, PySem.W.dataLt_tuple]
  unfold plsP
  rw [PySem.W.dataLt_list, toks_map, toks_map]
structure Tell (lab : Bool) (rs : List Tr) : Prop where
  ne : ∀ r ∈ rs, nest (plN lab r) = true
  al : ∀ a ∈ rs, ∀ b ∈ rs, alike (toP (plN lab a)) (toP (plN lab b)) = true
  inj : ∀ a ∈ rs, ∀ b ∈ rs, plN lab a = plN lab b → a = b
theorem map_inj_on {α β : Type} {f : α → β} : ∀ {a b : List α}, a.map f = b.map f → (∀ x ∈ a, ∀ y ∈ b, f x = f y → x = y) → a = b
  | [], [], _, _ => rfl
  | [], _ :: _, h, _ => by cases h
  | _ :: _, [], h, _ => by cases h
  | x :: a, y :: b, h, k => by
    rw [List.map_cons, List.map_cons] at h
    obtain ⟨h1, h2⟩ := List.cons.inj h
    rw [k x List.mem_cons_self y List.mem_cons_self h1, map_inj_on h2 fun u hu v hv => k u (List.mem_cons_of_mem _ hu) v (List.mem_cons_of_mem _ hv)]
theorem rot_get {α : Type} {l : List α} {k i : Nat} (hk : k ≤ l.length) (hi : i < l.length) : (rot k l)[i]? = l[(i + k) % l.length]? := by
  unfold rot
  by_cases c : i < l.length - k
  · rw [List.getElem?_append_left (by rw [List.length_drop]; exact c), List.getElem?_drop, Nat.mod_eq_of_lt (by omega), Nat.add_comm]
  · rw [List.getElem?_append_right (by rw [List.length_drop]; omega), List.length_drop, List.getElem?_take_of_lt (by omega)]
    have : (i + k) % l.length = i + k - l.length := by rw [Nat.mod_eq_sub_mod (by omega), Nat.mod_eq_of_lt (by omega)]
    rw [this]
    congr 1
    omega
theorem rot_len {α : Type} (k : Nat) (l : List α) : (rot k l).length = l.length := (rot_perm k l).length_eq
theorem rot_rot {α : Type} {l : List α} {a b : Nat} (ha : a ≤ l.length) (hb : b ≤ l.length) (h0 : 0 < l.length) : ∃ j, j < l.length ∧ rot a (rot b l) = rot j l := by
  refine ⟨(a + b) % l.length, Nat.mod_lt _ h0, ?_⟩
  apply List.ext_getElem?
  intro i
  by_cases c : i < l.length
  · have hm := Nat.mod_lt (a + b) h0
    rw [rot_get (by rw [rot_len]; exact ha) (by rw [rot_len]; exact c), rot_len, rot_get hb (Nat.mod_lt _ h0), rot_get (by omega) c]
    congr 1
    rw [Nat.mod_add_mod, Nat.add_mod_mod, Nat.add_assoc]
  · rw [List.getElem?_eq_none_iff.mpr (by rw [rot_len, rot_len]; omega), List.getElem?_eq_none_iff.mpr (by rw [rot_len]; omega)]
theorem rot_back {α : Type} {l : List α} {b : Nat} (hb : b ≤ l.length) : rot (l.length - b) (rot b l) = l := by
  unfold rot
  rw [List.drop_left' (by rw [List.length_drop]), List.take_left' (by rw [List.length_drop]), List.take_append_drop]
theorem tell_perm {lab : Bool} {rs vs : List Tr} (p : vs.Perm rs) (T : Tell lab rs) : Tell lab vs :=
  ⟨fun r h => T.ne r (p.mem_iff.mp h), fun a ha b hb => T.al a (p.mem_iff.mp ha) b (p.mem_iff.mp hb), fun a ha b hb => T.inj a (p.mem_iff.mp ha) b (p.mem_iff.mp hb)⟩
/-- two arrangements, neither before the other -/
theorem pls_eq {lab : Bool} {rs a b : List Tr} (T : Tell lab rs) (pa : a.Perm rs) (pb : b.Perm rs) (h1 : dataLt (plsP lab a) (plsP lab b) = false) (h2 : dataLt (plsP lab b) (plsP lab a) = false) : a = b := by
  rw [lt_pls] at h1 h2
  have ne : ∀ {c : List Tr}, c.Perm rs → nest (.tup (c.map (plN lab))) = true := fun p => nest_tup fun d hd => by
    obtain ⟨r, hr, rfl⟩ := List.mem_map.mp hd
    exact T.ne r (p.mem_iff.mp hr)
  have al : ∀ {c d : List Tr}, c.Perm rs → d.Perm rs → alike (toP (.tup (c.map (plN lab)))) (toP (.tup (d.map (plN lab)))) = true := fun p q => by
    show alike (.tuple (toPs _)) (.tuple (toPs _)) = true
    rw [alike_tuple, toPs_map, toPs_map]
    refine alikeAll_of fun x hx y hy => ?_
    obtain ⟨u, hu, rfl⟩ := List.mem_map.mp hx
    obtain ⟨v, hv, rfl⟩ := List.mem_map.mp hy
    obtain ⟨u', hu', rfl⟩ := List.mem_map.mp hu
    obtain ⟨v', hv', rfl⟩ := List.mem_map.mp hv
    exact T.al u' (p.mem_iff.mp hu') v' (q.mem_iff.mp hv')
  have e := nest_eq (ne pa) (ne pb) (al pa pb) (al pb pa) h1 h2
  injection e with e
  exact map_inj_on e fun x hx y hy => T.inj x (pa.mem_iff.mp hx) y (pb.mem_iff.mp hy)
theorem ord_one {lab : Bool} {w : Wd} {rs vs qs qs' : List Tr} (T : w = .set ∨ w = .ring → Tell lab rs) (arr : (w = .set → vs.Perm rs) ∧ (w = .ring → ∃ k, k ≤ rs.length ∧ vs = rot k rs) ∧ (w ≠ .set → w ≠ .ring → vs = rs)) (h : Ord lab w rs qs) (h' : Ord lab w vs qs') : qs = qs' := by
  by_cases h1 : w = .set
  · have T := T (.inl h1)
    obtain ⟨p, s⟩ := h.1 h1
    obtain ⟨p', s'⟩ := h'.1 h1
    have pv := arr.1 h1
    refine sorted_same (p.trans (p'.trans pv).symm) s s' fun x hx y hy a b => ?_
    have hx := p.mem_iff.mp hx
    have hy := p.mem_iff.mp hy
    unfold leM at a b
    rw [lt_pl] at a b
    exact T.inj x hx y hy (nest_eq (T.ne x hx) (T.ne y hy) (T.al x hx y hy) (T.al y hy x hx) b a)
  · by_cases h2 : w = .ring
    · have T := T (.inr h2)
      obtain ⟨k, hk, rfl, m⟩ := h.2.1 h2
      obtain ⟨k', hk', rfl, m'⟩ := h'.2.1 h2
      obtain ⟨b, hb, rfl⟩ := arr.2.1 h2
      rw [rot_len] at hk' m'
      by_cases h0 : 0 < rs.length
      · have e1 : ∃ j, j < rs.length ∧ rot k' (rot b rs) = rot j rs := rot_rot hk' hb h0
        have e2 : ∃ j, j < rs.length ∧ rot k rs = rot j (rot b rs) := by
          have back := rot_back hb
          obtain ⟨j, hj, e⟩ := rot_rot (l := rot b rs) (a := k) (b := rs.length - b) (by rw [rot_len]; exact hk) (by rw [rot_len]; omega) (by rw [rot_len]; exact h0)
          rw [rot_len] at hj
          rw [back] at e
          exact ⟨j, hj, e⟩
        obtain ⟨j1, hj1, e1⟩ := e1
        obtain ⟨j2, hj2, e2⟩ := e2
        have l1 := m j1 hj1
        have l2 := m' j2 hj2
        rw [← e1] at l1
        rw [← e2] at l2
        exact pls_eq T (rot_perm k rs) ((rot_perm k' _).trans (rot_perm b rs)) l2 l1
      · have e : rs = [] := List.length_eq_zero_iff.mp (by omega)
        subst e
        simp [rot]
    · rw [h.2.2 h1 h2, h'.2.2 h1 h2, arr.2.2 h1 h2]
end DL

namespace DL
variable [Tbs]
open PySem L2
open PySem.W (alike alikeAll dataLt)
/-! # keys tell unlabelled trees of one expression apart; the one form of what was stirred -/
theorem keyD_one {w : Wd} (i : Int) (t : Tr) (h : (w = .left ∧ i = 0) ∨ (w = .right ∧ i = 1)) : keyT (.node w [t]) = .tup [.int i, keyT t] := by
  rw [key_node]
  rcases h with ⟨rfl, rfl⟩ | ⟨rfl, rfl⟩ <;> rfl
theorem keyD_and (t u : Tr) : keyT (.node .and [t, u]) = .tup [wD t, keyT t, keyT u] := by rw [key_node]; rfl
theorem keyD_mem {w : Wd} (hw : w.mem = true) (ps : List Tr) (h : labs (.node w ps) = []) : keyT (.node w ps) = if w = .ring then .tup [.int (ps.length : Nat), .tup (ps.map pairT)] else .tup (ps.map pairT) := by
  rw [key_node, h]
  have e : (ps.map fun t => (wD t, keyT t)).map prD = ps.map pairT := by rw [List.map_map]; rfl
  cases w with
  | row => show D.tup ((ps.map fun t => (wD t, keyT t)).map prD) = _; rw [e]; rfl
  | set => show D.tup ((ps.map fun t => (wD t, keyT t)).map prD) = _; rw [e]; rfl
  | ring =>
    show D.tup [.int ((ps.map fun t => (wD t, keyT t)).length : Nat), D.tup ((ps.map fun t => (wD t, keyT t)).map prD)] = _
    rw [e, List.length_map]; rfl
  | one | left | right | and => cases hw
theorem key_inj {sp : Sp'} {e : Ex'} {t : Tr} (h : Form sp e t) : ∀ {u : Tr}, okE sp e = true → valid sp = true → Form sp e u → labs t = [] → labs u = [] → keyT t = keyT u → t = u := by
  induction h with
  | @name s e t he h ih =>
    intro u _ hv g lt lu k
    cases g with
    | @name _ e2 _ he2 g =>
      rw [he] at he2
      cases he2
      exact ih (val_of hv he).ok hv g lt lu k
  | one => intro u _ _ g _ _ _; cases g; rfl
  | atom l =>
    intro u _ _ g lt lu _
    cases g with
    | atom l' =>
      cases l with
      | none => cases l' with
        | none => rfl
        | some x => cases lu
      | some x => cases lt
  | @left a b t h ih =>
    intro u ok hv g lt lu k
    have ok2 : (unit a || unit b) = true ∧ okE sp a = true ∧ okE sp b = true := by unfold okE at ok; simpa [and_assoc] using ok
    cases g with
    | @left _ _ u g =>
      rw [keyD_one 0 t (.inl ⟨rfl, rfl⟩), keyD_one 0 u (.inl ⟨rfl, rfl⟩)] at k
      injection k with k
      have k := (List.cons.inj (List.cons.inj k).2).1
      rw [ih ok2.2.1 hv g (labs_part lt _ List.mem_cons_self) (labs_part lu _ List.mem_cons_self) k]
    | @right _ _ u g =>
      rw [keyD_one 0 t (.inl ⟨rfl, rfl⟩), keyD_one 1 u (.inr ⟨rfl, rfl⟩)] at k
      injection k with k
      have k := (List.cons.inj k).1
      injection k with k
      cases k
  | @right a b t h ih =>
    intro u ok hv g lt lu k
    have ok2 : (unit a || unit b) = true ∧ okE sp a = true ∧ okE sp b = true := by unfold okE at ok; simpa [and_assoc] using ok
    cases g with
    | @right _ _ u g =>
      rw [keyD_one 1 t (.inr ⟨rfl, rfl⟩), keyD_one 1 u (.inr ⟨rfl, rfl⟩)] at k
      injection k with k
      have k := (List.cons.inj (List.cons.inj k).2).1
      rw [ih ok2.2.2 hv g (labs_part lt _ List.mem_cons_self) (labs_part lu _ List.mem_cons_self) k]
    | @left _ _ u g =>
      rw [keyD_one 1 t (.inr ⟨rfl, rfl⟩), keyD_one 0 u (.inl ⟨rfl, rfl⟩)] at k
      injection k with k
      have k := (List.cons.inj k).1
      injection k with k
      cases k
  | @and a b t t2 h1 h2 ih1 ih2 =>
    intro u ok hv g lt lu k
    have ok2 : okE sp a = true ∧ okE sp b = true := by unfold okE at ok; simpa using ok
    have m2 : ∀ {x y : Tr}, y ∈ [x, y] := List.mem_cons_of_mem _ List.mem_cons_self
    cases g with
    | @and _ _ u u2 g1 g2 =>
      rw [keyD_and, keyD_and] at k
      injection k with k
      have k1 := (List.cons.inj (List.cons.inj k).2).1
      have k2 := (List.cons.inj (List.cons.inj (List.cons.inj k).2).2).1
      rw [ih1 ok2.1 hv g1 (labs_part lt _ List.mem_cons_self) (labs_part lu _ List.mem_cons_self) k1, ih2 ok2.2 hv g2 (labs_part lt _ m2) (labs_part lu _ m2) k2]
  | @mem w e lo hi ts h1 h2 h3 h4 ih =>
    intro u ok hv g lt lu k
    have ok3 : w.mem = true ∧ (hi = some 1 ∨ 1 ≤ ms (aM sp) e) ∧ okE sp e = true ∧ lo ≤ 30 := by unfold okE at ok; simpa [and_assoc] using ok
    cases g with
    | @mem _ _ _ _ us g1 g2 g3 g4 =>
      rw [keyD_mem ok3.1 ts lt, keyD_mem ok3.1 us lu] at k
      have kk : ts.map pairT = us.map pairT := by
        split at k
        · injection k with k
          have k := (List.cons.inj (List.cons.inj k).2).1
          injection k
        · injection k
      have e : ts = us := map_inj_on kk fun x hx y hy e => by
        injection e with e
        have e := (List.cons.inj (List.cons.inj e).2).1
        exact ih x hx ok3.2.2.1 hv (g4 y hy) (labs_part lt x hx) (labs_part lu y hy) e
      rw [e]
/-- what is asked of labels: none, or each atom its own -/
def Lb (lab : Bool) (t : Tr) : Prop := if lab = true then (labs t).Nodup ∧ (labs t).length = sizeT t else labs t = []
theorem nodup_flat : ∀ {rs : List Tr}, (rs.flatMap labs).Nodup → ∀ a ∈ rs, ∀ b ∈ rs, ∀ x, x ∈ labs a → x ∈ labs b → a = b
  | [], _, a, ha, _, _, _, _, _ => by cases ha
  | r :: rs, h, a, ha, b, hb, x, xa, xb => by
    rw [List.flatMap_cons, List.nodup_append] at h
    rcases List.mem_cons.mp ha with rfl | ha
    · rcases List.mem_cons.mp hb with rfl | hb
      · rfl
      · exact absurd rfl (h.2.2 x xa x (List.mem_flatMap.mpr ⟨b, hb, xb⟩))
    · rcases List.mem_cons.mp hb with rfl | hb
      · exact absurd rfl (h.2.2 x xb x (List.mem_flatMap.mpr ⟨a, (by assumption), xa⟩))
      · exact nodup_flat h.2.1 a (by assumption) b (by assumption) x xa xb
theorem nodup_parts : ∀ {rs : List Tr}, (rs.flatMap labs).Nodup → ∀ a ∈ rs, (labs a).Nodup
  | [], _, a, ha => by cases ha
  | r :: rs, h, a, ha => by
    rw [List.flatMap_cons, List.nodup_append] at h
    rcases List.mem_cons.mp ha with rfl | ha
    · exact h.1
    · exact nodup_parts h.2.1 a ha
theorem lb_parts {lab : Bool} {w : Wd} {ps : List Tr} (h : Lb lab (.node w ps)) : ∀ p ∈ ps, Lb lab p := fun p hp => by
  unfold Lb at h ⊢
  cases lab with
  | false => exact labs_part h p hp
  | true =>
    have h : (labs (.node w ps)).Nodup ∧ (labs (.node w ps)).length = sizeT (.node w ps) := h
    rw [labs_node, size_node] at h
    exact ⟨nodup_parts h.1 p hp, labs_full h.2 p hp⟩
theorem lb_rea {lab : Bool} {t u : Tr} (h : Rea t u) (l : Lb lab t) : Lb lab u := by
  have r := rea_s h
  unfold Lb at l ⊢
  cases lab with
  | false =>
    have l : labs t = [] := l
    have := r.l.length_eq
    rw [l] at this
    exact List.length_eq_zero_iff.mp this
  | true => exact ⟨r.l.nodup_iff.mpr l.1, by rw [r.l.length_eq, r.s]; exact l.2⟩
theorem tell_of {sp : Sp'} (hv : valid sp = true) {e : Ex'} (ok : okE sp e = true) {lab : Bool} {w : Wd} {rs : List Tr} (hf : ∀ r ∈ rs, Form sp e r) (hb : 1 < rs.length → ∀ r ∈ rs, 1 ≤ sizeT r) (hl : Lb lab (.node w rs)) : Tell lab rs := by
  have hp := lb_parts hl
  cases lab with
  | false =>
    refine ⟨fun r hr => nest_two (nest_int _) (nest_key r), fun a ha b hb => alike_two (alike_int _ _) (key_alike hv (hf a ha) ok (hf b hb) (hp a ha) (hp b hb)), fun a ha b hb e => ?_⟩
    injection e with e
    exact key_inj (hf a ha) ok hv (hf b hb) (hp a ha) (hp b hb) (List.cons.inj (List.cons.inj e).2).1
  | true =>
    refine ⟨fun r hr => nest_tup fun d hd => nest_nats _ d (List.mem_of_mem_take hd), fun a ha b hb => ?_, fun a ha b hb' e => ?_⟩
    · show alike (.tuple (toPs _)) (.tuple (toPs _)) = true
      rw [alike_tuple, take_nats, take_nats, toPs_nats, toPs_nats]
      refine alikeAll_of fun x hx y hy => ?_
      obtain ⟨i, _, rfl⟩ := List.mem_map.mp hx
      obtain ⟨j, _, rfl⟩ := List.mem_map.mp hy
      exact alike_int _ _
    · by_cases c : 1 < rs.length
      · have hl : (labs (.node w rs)).Nodup ∧ (labs (.node w rs)).length = sizeT (.node w rs) := hl
        rw [labs_node] at hl
        have fst : ∀ r ∈ rs, ∃ x l, labL r = x :: l ∧ x ∈ labs r := fun r hr => by
          have h1 := hb c r hr
          have h2 : (labs r).Nodup ∧ (labs r).length = sizeT r := hp r hr
          have h3 := (isN_perm (labs r)).length_eq
          cases e : labL r with
          | nil =>
            have : isN (labs r) = [] := e
            rw [this] at h3
            have : 0 = (labs r).length := h3
            omega
          | cons x l => exact ⟨x, l, rfl, (isN_perm (labs r)).mem_iff.mp (by have : isN (labs r) = x :: l := e; rw [this]; exact List.mem_cons_self)⟩
        obtain ⟨x, l, ea, xa⟩ := fst a ha
        obtain ⟨y, l', eb, yb⟩ := fst b hb'
        have e : lbN a = lbN b := e
        unfold lbN at e
        rw [ea, eb] at e
        injection e with e
        have e := (List.cons.inj e).1
        injection e with e
        have e : x = y := by have : (x : Int) = (y : Int) := e; omega
        subst e
        exact nodup_flat hl.1 a ha b hb' x xa yb
      · match rs, ha, hb', c with
        | [r], ha, hb', _ => rw [List.mem_singleton.mp ha, List.mem_singleton.mp hb']
        | _ :: _ :: _, _, _, c => exact absurd (by simp) c
end DL

namespace DL
variable [Tbs]
open PySem L2
theorem all2_get {α : Type} {R : α → α → Prop} {as bs : List α} (h : All2 R as bs) : ∀ (i : Nat) (a b : α), as[i]? = some a → bs[i]? = some b → R a b := by
  induction h with
  | nil => intro i a b e; cases e
  | cons r _ ih =>
    intro i a b e1 e2
    cases i with
    | zero => cases e1; cases e2; exact r
    | succ i => exact ih i a b e1 e2
/-- the one form of a tree is that of the tree stirred -/
theorem nf_one {sp : Sp'} (hv : valid sp = true) {lab : Bool} : ∀ (t : Tr) (e : Ex'), Form sp e t → okE sp e = true → Lb lab t → ∀ {u a b : Tr}, Sti t u → NF lab t a → NF lab u b → a = b := by
  refine Tr.ind (fun l e _ _ _ u a b s h k => ?_) fun w ps ih e hf ok hl u a b s h k => ?_
  · cases s; cases h; cases k; rfl
  · cases s with
    | @node _ _ ss us l1 p1 arr =>
      cases h with
      | @node _ _ rs qs l2 p2 o2 =>
        cases k with
        | @node _ _ rs' qs' l3 p3 o3 =>
          have a3 : All2 (NF lab) us rs' := all2_of l3 p3
          have lp := lb_parts hl
          have same : ∀ {vs : List Tr}, All2 (NF lab) ss vs → vs = rs := fun {vs} h => by
            have lv := h.len
            apply List.ext_getElem?
            intro i
            by_cases c : i < ps.length
            · have e0 := List.getElem?_eq_getElem c
              have e1 := List.getElem?_eq_getElem (l1 ▸ c : i < ss.length)
              have e2 := List.getElem?_eq_getElem (l2 ▸ c : i < rs.length)
              have e3 := List.getElem?_eq_getElem (lv ▸ l1 ▸ c : i < vs.length)
              have hm : ps[i] ∈ ps := List.getElem_mem c
              obtain ⟨e', o', f'⟩ := form_part hv hf ok rfl _ hm
              have := ih _ hm e' f' o' (lp _ hm) (p1 i _ _ e0 e1) (p2 i _ _ e0 e2) (all2_get h i _ _ e1 e3)
              rw [e2, e3, this]
            · rw [List.getElem?_eq_none_iff.mpr (by omega), List.getElem?_eq_none_iff.mpr (by omega)]
          have arr2 : (w = .set → rs'.Perm rs) ∧ (w = .ring → ∃ k, k ≤ rs.length ∧ rs' = rot k rs) ∧ (w ≠ .set → w ≠ .ring → rs' = rs) := by
            refine ⟨fun hw => ?_, fun hw => ?_, fun h1 h2 => ?_⟩
            · obtain ⟨vs, p, q⟩ := all2_perm (arr.1 hw) a3
              rw [same q] at p; exact p
            · obtain ⟨k, hk, e⟩ := arr.2.1 hw
              rw [e] at a3
              obtain ⟨vs, p, q⟩ := all2_rot a3 hk
              rw [same q] at p
              exact ⟨k, by omega, p⟩
            · have e := arr.2.2 h1 h2
              rw [e] at a3
              exact same a3
          have tell : w = .set ∨ w = .ring → Tell lab rs := fun hw => by
            obtain ⟨e', mb⟩ := form_memb hv hf ok rfl (by rcases hw with rfl | rfl <;> rfl)
            have fd : Fmd ps rs := ⟨l2, fun i p r e1 e2 => nf_rea (p2 i p r e1 e2)⟩
            refine tell_of hv mb.ok (w := w) (fun r hr => ?_) (fun c r hr => ?_) ?_
            · obtain ⟨p, hp, h⟩ := fd.of hr
              exact rea_form (mb.f p hp) h
            · obtain ⟨p, hp, h⟩ := fd.of hr
              rw [(rea_s h).s]
              exact mb.big (by omega) p hp
            · exact lb_rea (.node l2 fd.r (.inl rfl)) hl
          rw [ord_one tell arr2 o2 o3]
end DL

namespace DL
variable [Tbs]
open PySem L2
open PySem.W (alike alikeAll dataLt keyToks)
/-! # sorted and min, as the one form wants them -/
theorem dlt_asym {a b : PyData} (h : dataLt a b = true) : dataLt b a = false := by
  cases e : dataLt b a with
  | false => rfl
  | true =>
    have := PyProof.Rows.lex_trans (O := PyProof.Rows.itemOrd) _ _ _ h e
    rw [PyProof.Rows.lex_irrefl] at this
    cases this
theorem leD_trans (a b c : D) (h1 : leD a b = true) (h2 : leD b c = true) : leD a c = true := by
  unfold leD at h1 h2 ⊢
  rw [Bool.not_eq_true'] at h1 h2 ⊢
  cases e : dataLt (toP c) (toP a) with
  | false => rfl
  | true =>
    rcases PyProof.Rows.lex_negTrans (O := PyProof.Rows.itemOrd) (keyToks (toP c)) (keyToks (toP b)) (keyToks (toP a)) e with h | h
    · have : dataLt (toP c) (toP b) = true := h
      rw [this] at h2; cases h2
    · have : dataLt (toP b) (toP a) = true := h
      rw [this] at h1; cases h1
theorem leD_total (a b : D) : (leD a b || leD b a) = true := by
  unfold leD
  cases e : dataLt (toP b) (toP a) with
  | false => rfl
  | true => rw [dlt_asym e]; rfl
theorem pair_le {x y x' y' : PyData} (h : alike x x' = true) (h' : alike y y' = true) (l : dataLt (.tuple [x, y]) (.tuple [x', y']) = false) : dataLt x x' = false := by
  rw [PySem.W.dataLt_pair h h'] at l
  by_cases c : PyData.eqv x x' = true
  · have e := (PySem.W.toks_eqv x x' h).1 c
    unfold dataLt
    rw [e]
    exact PyProof.Rows.lex_irrefl _
  · rw [if_neg c] at l; exact l
theorem nb_le {N : Nat} {l : List D} (p : Pl N l) {i j : Nat} (hi : i < l.length) (hj : j < l.length) (h : leD (.tup [l.getD i .non, .int (i : Nat)]) (.tup [l.getD j .non, .int (j : Nat)]) = true) : dataLt (toP (l.getD j .non)) (toP (l.getD i .non)) = false := by
  unfold leD at h
  rw [Bool.not_eq_true'] at h
  exact pair_le (p.al _ (getD_mem hj) _ (getD_mem hi)) (alike_int _ _) h
theorem getD_map {rs : List Tr} {f : Tr → D} {i : Nat} (h : i < rs.length) : (rs.map f).getD i .non = f (rs.getD i (.atom none)) := by
  rw [List.getD_eq_getElem?_getD, List.getElem?_map, List.getElem?_eq_getElem h, List.getD_eq_getElem?_getD, List.getElem?_eq_getElem h]; rfl
theorem sort_ord {lab : Bool} {N : Nat} {rs : List Tr} (p : Pl N (rs.map (plD lab))) : (((nbD (rs.map (plD lab))).mergeSort leD).map (pickT rs)).Pairwise (leM lab) := by
  have h := List.pairwise_mergeSort (le := leD) leD_trans leD_total (nbD (rs.map (plD lab)))
  have ln : (rs.map (plD lab)).length = rs.length := List.length_map _
  rw [List.pairwise_map]
  refine List.Pairwise.imp_of_mem (fun {a b} ha hb r => ?_) h
  obtain ⟨i, hi, rfl⟩ := nb_mem ((List.mergeSort_perm _ _).mem_iff.mp ha)
  obtain ⟨j, hj, rfl⟩ := nb_mem ((List.mergeSort_perm _ _).mem_iff.mp hb)
  have := nb_le p hi hj r
  rw [getD_map (by omega), getD_map (by omega)] at this
  exact this
theorem minD_least (x : PyData) (xs : List PyData) : ∀ y ∈ x :: xs, dataLt y (PySem.W.minD x xs) = false := by
  unfold PySem.W.minD
  induction xs generalizing x with
  | nil => intro y hy; rw [List.mem_singleton.mp hy]; exact dlt_self x
  | cons z xs ih =>
    intro y hy
    rw [List.foldl_cons]
    have least := ih (if dataLt z x = true then z else x)
    have h0 := least _ List.mem_cons_self
    have low : ∀ v, dataLt v (if dataLt z x = true then z else x) = false → dataLt v (List.foldl (fun a y => if dataLt y a = true then y else a) (if dataLt z x = true then z else x) xs) = false := fun v hv => by
      cases e : dataLt v (List.foldl (fun a y => if dataLt y a = true then y else a) (if dataLt z x = true then z else x) xs) with
      | false => rfl
      | true =>
        rcases PyProof.Rows.lex_negTrans (O := PyProof.Rows.itemOrd) _ (keyToks (if dataLt z x = true then z else x)) _ e with h | h
        · have h : dataLt v (if dataLt z x = true then z else x) = true := h
          rw [h] at hv; cases hv
        · have h : dataLt (if dataLt z x = true then z else x) (List.foldl (fun a y => if dataLt y a = true then y else a) (if dataLt z x = true then z else x) xs) = true := h
          rw [h] at h0; cases h0
    rcases List.mem_cons.mp hy with rfl | hy
    · apply low
      by_cases c : dataLt z y = true
      · rw [if_pos c]; exact dlt_asym c
      · rw [if_neg c]; exact dlt_self y
    · rcases List.mem_cons.mp hy with rfl | hy
      · apply low
        by_cases c : dataLt y x = true
        · rw [if_pos c]; exact dlt_self y
        · rw [if_neg c]; exact Bool.eq_false_iff.mpr c
      · exact least y (List.mem_cons_of_mem _ hy)
theorem tn_rot {l : List D} {k : Nat} (h : k < l.length) : (tnD l).getD k .non = .lst (rot k l) := tn_get h
theorem min_rot {M N : Nat} {l : List D} {Q : D → Prop} (h : Pl N l) (h0 : l ≠ []) (hN : N + 2 ≤ M) (q : ∀ k : Nat, k < l.length → (∀ j, j < l.length → dataLt (toP (.lst (rot j l))) (toP (.lst (rot k l))) = false) → Q (.tup [.lst (rot k l), .int (k : Nat)])) : gMinDat M (.lst (nbD (tnD l))) Q := by
  have pt := tn_pl h
  have p := nb_pl pt
  have al : PySem.W.AlikeAll ((nbD (tnD l)).map toP) := by
    refine ⟨fun a ha b hb => ?_, fun a ha => ?_⟩
    · obtain ⟨x, hx, rfl⟩ := List.mem_map.mp ha
      obtain ⟨y, hy, rfl⟩ := List.mem_map.mp hb
      exact p.al x hx y hy
    · obtain ⟨x, hx, rfl⟩ := List.mem_map.mp ha
      obtain ⟨k, hk, rfl⟩ := nb_mem hx
      intro z; cases z
  have dp : PyData.depthAll ((nbD (tnD l)).map toP) ≤ M := depthAll_le fun a ha => by
    obtain ⟨x, hx, rfl⟩ := List.mem_map.mp ha
    exact Nat.le_trans (p.dep x hx) (by omega)
  have dt := p.dat
  have ne : nbD (tnD l) ≠ [] := fun e => by
    have := congrArg List.length e
    unfold nbD at this
    rw [List.length_map, List.length_range, tn_len] at this
    exact h0 (List.length_eq_zero_iff.mp this)
  have inn : ∀ j, j < l.length → D.tup [(tnD l).getD j .non, .int (j : Nat)] ∈ nbD (tnD l) := fun j hj => List.mem_map.mpr ⟨j, List.mem_range.mpr (by rw [tn_len]; exact hj), rfl⟩
  have fin : ∀ d ∈ nbD (tnD l), (∀ d' ∈ nbD (tnD l), dataLt (toP d') (toP d) = false) → Q d := fun d hd least => by
    obtain ⟨k, hk, rfl⟩ := nb_mem hd
    rw [tn_len] at hk
    rw [tn_rot hk]
    refine q k hk fun j hj => ?_
    have := least _ (inn j hj)
    have r := pair_le (pt.al _ (getD_mem (by rw [tn_len]; exact hj)) _ (getD_mem (by rw [tn_len]; exact hk))) (alike_int _ _) this
    rw [tn_rot hj, tn_rot hk] at r
    exact r
  cases e : nbD (tnD l) with
  | nil => exact absurd e ne
  | cons x l' =>
    rw [e] at al dp dt fin
    refine ⟨⟨dt, al, dp⟩, fun d hd ed => fin d hd fun d' hd' => ?_⟩
    rw [ed]
    exact minD_least _ _ _ (by rw [← List.map_cons]; exact List.mem_map.mpr ⟨d', hd', rfl⟩)
theorem rot_map {α β : Type} (f : α → β) (k : Nat) (l : List α) : rot k (l.map f) = (rot k l).map f := by unfold rot; rw [List.map_append, List.map_drop, List.map_take]
theorem pls_lst (lab : Bool) (k : Nat) (rs : List Tr) : toP (.lst (rot k (rs.map (plD lab)))) = plsP lab (rot k rs) := by
  rw [rot_map]
  show PyData.list (toPs _) = _
  rw [toPs_map, List.map_map]; rfl
theorem ord_small {lab : Bool} {w : Wd} {rs : List Tr} (h : ¬ 1 < rs.length) : Ord lab w rs rs := by
  have r0 : rot 0 rs = rs := by unfold rot; simp
  refine ⟨fun _ => ⟨.refl _, ?_⟩, fun _ => ⟨0, Nat.zero_le _, r0.symm, fun j hj => ?_⟩, fun _ _ => rfl⟩
  · match rs, h with
    | [], _ => exact .nil
    | [r], _ => exact List.pairwise_singleton _ _
    | _ :: _ :: _, h => exact absurd (by simp) h
  · have : j = 0 := by omega
    rw [this, r0]; exact dlt_self _
theorem ord_else {lab : Bool} {w : Wd} {rs : List Tr} (h1 : w ≠ .set) (h2 : w ≠ .ring) : Ord lab w rs rs := ⟨fun h => absurd h h1, fun h => absurd h h2, fun _ _ => rfl⟩
theorem ord_set {lab : Bool} {N : Nat} {rs : List Tr} (p : Pl N (rs.map (plD lab))) : Ord lab .set rs (((nbD (rs.map (plD lab))).mergeSort leD).map (pickT rs)) :=
  ⟨fun _ => ⟨pick_perm (List.length_map _), sort_ord p⟩, (fun h => by cases h), fun h => absurd rfl h⟩
theorem ord_ring {lab : Bool} {rs : List Tr} {k : Nat} (hk : k ≤ rs.length) (h : ∀ j, j < rs.length → dataLt (plsP lab (rot j rs)) (plsP lab (rot k rs)) = false) : Ord lab .ring rs (rot k rs) :=
  ⟨fun h => (by cases h), fun _ => ⟨k, hk, rfl, h⟩, fun _ h => absurd rfl h⟩
end DL

namespace DL
variable [Tbs]
open PySem L2
section
variable {P : Program} {w : World} {K : PySem.W.Frag} {mg : Str → Option Value} {base : Heap} {W : Ad}
/-! ### folded, with _formed; one_form -/
def resD (n : Tr) : D := .tup [encT n, pairT n]
structure Asked (sp : Sp') (lab : Bool) (t : Tr) : Prop where
  f : ∃ e, okE sp e = true ∧ Form sp e t
  l : Lb lab t
  s : sizeT t ≤ 60
  n : nodes t ≤ 5000
theorem Asked.wf {sp : Sp'} {lab : Bool} {t : Tr} (hv : valid sp = true) (a : Asked sp lab t) : wfT t = true := by
  obtain ⟨e, o, f⟩ := a.f
  exact (form_fx hv f o).wf
theorem Asked.part {sp : Sp'} {lab : Bool} {t : Tr} (hv : valid sp = true) (a : Asked sp lab t) {p : Tr} (hp : p ∈ partsT t) : Asked sp lab p := by
  cases t with
  | atom l => cases hp
  | node w ps =>
    obtain ⟨e, o, f⟩ := a.f
    refine ⟨form_part hv f o rfl p hp, lb_parts a.l p hp, ?_, ?_⟩
    · have h1 := size_mem (show p ∈ ps from hp)
      have h2 := a.s
      rw [size_node] at h2
      omega
    have h1 := nodes_mem (show p ∈ ps from hp)
    have h2 := a.n
    rw [nodes_node] at h2
    omega
def r__formed : Rf := fun ds Q => ∃ (sp : Sp') (lab : Bool) (t : Tr) (rs : List Tr), ds = [encT t, .lst (rs.map resD)] ∧ valid sp = true ∧ Asked sp lab t ∧ All2 (NF lab) (partsT t) rs ∧ ∀ n, NF lab t n → Q (resD n)
theorem mono__formed : MonoR r__formed := fun ds Q Q' i ⟨sp, lab, t, rs, a, b, c, d, q⟩ => ⟨sp, lab, t, rs, a, b, c, d, fun n h => i _ (q n h)⟩
def r_folded (W : Ad) : Rf := fun ds Q => ∃ (sp : Sp') (lab : Bool) (t : Tr), ds = [encT t, .ref W.f_formed] ∧ valid sp = true ∧ Asked sp lab t ∧ ∀ n, NF lab t n → Q (resD n)
theorem mono_folded {W : Ad} : MonoR (r_folded W) := fun ds Q Q' i ⟨sp, lab, t, a, b, c, q⟩ => ⟨sp, lab, t, a, b, c, fun n h => i _ (q n h)⟩
def r_one_form : Rf := fun ds Q => ∃ (sp : Sp') (lab : Bool) (t : Tr), ds = [encT t] ∧ valid sp = true ∧ Asked sp lab t ∧ ∀ n, NF lab t n → Q (encT n)
theorem mono_one_form : MonoR r_one_form := fun ds Q Q' i ⟨sp, lab, t, a, b, c, q⟩ => ⟨sp, lab, t, a, b, c, fun n h => i _ (q n h)⟩
/-- done: trees with their forms -/
abbrev Dn := List (Tr × Tr)
def dnD (dn : Dn) : List D := dn.map fun x => resD x.2
def dnT (dn : Dn) : List Tr := dn.map (·.1)
theorem dn_split {a b : List Tr} : ∀ {dn : Dn}, dnT dn = a ++ b → ∃ d0 d1, dn = d0 ++ d1 ∧ dnT d0 = a ∧ dnT d1 = b := by
  intro dn h
  refine ⟨dn.take a.length, dn.drop a.length, (List.take_append_drop _ _).symm, ?_, ?_⟩
  · unfold dnT at h ⊢
    rw [List.map_take, h, List.take_left]
  · unfold dnT at h ⊢
    rw [List.map_drop, h, List.drop_left]
theorem dn_all2 {lab : Bool} : ∀ {d : Dn}, (∀ x ∈ d, NF lab x.1 x.2) → All2 (NF lab) (dnT d) (d.map (·.2))
  | [], _ => .nil
  | x :: d, h => .cons (h x List.mem_cons_self) (dn_all2 fun y hy => h y (List.mem_cons_of_mem _ hy))
theorem dnD_app (a b : Dn) : dnD (a ++ b) = dnD a ++ dnD b := List.map_append
theorem dnD_len (a : Dn) : (dnD a).length = a.length := List.length_map _
theorem dnT_len (a : Dn) : (dnT a).length = a.length := List.length_map _
theorem ok_folded (T : Tx K mg W) (Dd : Df K mg "folded" s_folded ["structure", "made"]) (C_inner_parts : Cal P w K mg base CX0 1 "inner_parts" ["structure"] (spW K (relR r_inner_parts))) (C__formed : Cal P w K mg base CX0 7 "_formed" ["part", "results"] (spW K r__formed)) : Cal P w K mg base CX0 8 "folded" ["structure", "made"] (spW K (r_folded W)) := by
  refine cal_ok Dd sc_folded (fun ds Q h => ?_) (fun f cdv A outer s H E hr => 
  (ss_cons (s_own (i := 2) sc_folded.nd rfl (.inl rfl) (f_lst a_nil))
  (ss_cons (s_own (i := 3) sc_folded.nd rfl (.inl rfl) (f_lst (a_cons (d_tup (a_cons (dv 0) (a_cons d_bl a_nil))) a_nil)))
  (ss_cons (s_while PassesOwn.never (t_truth (qv 3)) (
    (ss_cons (s_popSet 3 (g_tup (gs_cons (g_name (i := 4) sc_folded.nd rfl (.inl rfl)) (gs_cons (g_name (i := 5) sc_folded.nd rfl (.inl rfl)) gs_nil))))
    (ss_cons (s_set (i := 6) sc_folded.nd rfl (.inl rfl) (d_call C_inner_parts relR_mono (hr.mono (by decide)) (a_cons (dv 4) a_nil)))
    (ss_one (s_if (t_truth (qv 5)) (
      (ss_cons (s_set (i := 7) sc_folded.nd rfl (.inl rfl) (d_op o_sub (d_callB (c_len) T.n_len (b_cons (qv 2) b_nil)).q (d_callB (c_len) T.n_len (b_cons (qv 6) b_nil)).q))
      (ss_cons (s_set (i := 8) sc_folded.nd rfl (.inl rfl) (d_slice (qv 2) (o_some (qv 7)) o_none))
      (ss_cons (s_delT 2 (qv 7))
      (ss_one (s_append 2 (d_callV 1 C__formed T.f__formed mono__formed (hr.mono (by decide)) (a_cons (dv 4) (a_cons (dv 8) a_nil))))))))) (
      (ss_cons (s_append 3 (d_tup (a_cons (dv 4) (a_cons d_bl a_nil))))
      (ss_one (s_extend 3 (f_lc sc_folded.nd (i_revA T.n_reversed (dv 6)).q (blkOk_by (own := [("one", 9)]) (N := ["structure", "made", "done", "todo", "part", "ready", "inner", "first", "results", "one"]) (sc := defScope s_folded) (by decide +kernel)) (fun _ _ _ _ _ => (g_name (i := 9) sc_folded.nd rfl (.inl rfl))) (fun _ _ _ _ _ => ts_nil) (fun _ _ _ _ _ => (d_tup (a_cons (dv 9) (a_cons d_bl a_nil))))).p))))))))))
  (ss_one (s_ret (d_ix (qv 2) d_int.q))))))) (fun ds Q h => ?_)

  · obtain ⟨sp, lab, t, rfl, _⟩ := h; rfl
  · obtain ⟨sp, lab, t, rfl, hv, ask, q⟩ := h
    refine ⟨fun m δ => ∃ (st : List (Tr × Bool)) (dn : Dn) (x4 x5 x6 x7 x8 : Sl), δ = [.d (encT t), .d (.ref W.f_formed), .own (dnD dn), .own (st.reverse.map itD), x4, x5, x6, x7, x8, .no] ∧ fin t st (dnT dn) ∧ (∀ x ∈ st, Asked sp lab x.1) ∧ (∀ x ∈ dn, NF lab x.1 x.2) ∧ m = (st.map fm).sum ∧ dn.length + m ≤ 2 * nodes t, ⟨2 * nodes t, [(t, false)], [], .no, .no, .no, .no, .no, rfl, rfl, by simpa using ask, by simp, by simp [fm], by simp⟩, ?_⟩
    have hn := ask.n
    rintro m δ ⟨st, dn, x4, x5, x6, x7, x8, rfl, h1, h2, h3, rfl, h4⟩
    cases st with
    | nil =>
      have h1 : dnT dn = [t] := h1
      obtain ⟨x, rfl⟩ : ∃ x, dn = [x] := List.length_eq_one_iff.mp (by rw [← dnT_len, h1]; rfl)
      obtain ⟨a, n⟩ := x
      obtain rfl : a = t := (List.cons.inj h1).1
      exact q n (h3 _ List.mem_cons_self)
    | cons x st =>
      obtain ⟨p, b⟩ := x
      rw [List.reverse_cons, List.map_append]
      have ne : ((st.reverse.map itD) ++ [(p, b)].map itD).isEmpty = false := by
        cases h : (st.reverse.map itD) with
        | nil => rfl
        | cons a b => rfl
      refine yNB (fun _ => ?_) (fun h => absurd (ne.symm.trans h) (by decide))
      refine pop_last rfl ?_
      have ap := h2 (p, b) List.mem_cons_self
      have hp := ap.wf hv
      have hpn := ap.n
      have ls := len_fm st
      rw [List.map_cons, List.sum_cons] at h4
      refine ⟨_, ⟨p, rfl, hp, rfl⟩, ?_⟩
      cases b with
      | true =>
        obtain ⟨l0, hs, h1⟩ := h1
        obtain ⟨d0, d1, rfl, hd0, hd1⟩ := dn_split hs
        have e1 : d1.length = (partsT p).length := by rw [← hd1, dnT_len]
        have el : (((dnD (d0 ++ d1)).length : Nat) : Int) - (((partsT p).map encT).length : Nat) = (d0.length : Nat) := by
          rw [dnD_len, List.length_map, List.length_append]; omega
        have ec : cutD (dnD (d0 ++ d1)) (some ((d0.length : Nat) : Int)) none = dnD d1 := by
          rw [cut_drop _ (by rw [dnD_len, List.length_append]; omega), dnD_app, ← dnD_len d0, List.drop_left]
        have et : (dnD (d0 ++ d1)).take d0.length = dnD d0 := by
          rw [dnD_app, ← dnD_len d0, List.take_left]
        rw [List.length_append] at h4
        have fm1 : fm (p, true) = 1 := rfl
        refine ⟨⟨?_, ?_⟩, rfl, sp, lab, p, d1.map (·.2), ?_, hv, ap, ?_, fun n hn' => ⟨lt_lim ?_, ?_⟩⟩
        · show 0 ≤ (((dnD (d0 ++ d1)).length : Nat) : Int) - (((partsT p).map encT).length : Nat)
          rw [el]; omega
        · show (((dnD (d0 ++ d1)).length : Nat) : Int) - (((partsT p).map encT).length : Nat) ≤ ((dnD (d0 ++ d1)).length : Nat)
          omega
        · show [encT p, D.lst (cutD (dnD (d0 ++ d1)) (some ((((dnD (d0 ++ d1)).length : Nat) : Int) - (((partsT p).map encT).length : Nat))) none)] = _
          rw [el, ec]
          unfold dnD
          rw [List.map_map]; rfl
        · rw [← hd1]
          exact dn_all2 fun x hx => h3 x (List.mem_append_right _ hx)
        · show ((dnD (d0 ++ d1)).take ((((dnD (d0 ++ d1)).length : Nat) : Int) - (((partsT p).map encT).length : Nat)).toNat).length < _
          rw [el, Int.toNat_natCast, et, dnD_len]; omega
        · refine ⟨(st.map fm).sum, ?_, st, d0 ++ [(p, n)], .d (encT p), .d (.bl true), .d (.tup ((partsT p).map encT)), .d (.int ((((dnD (d0 ++ d1)).length : Nat) : Int) - (((partsT p).map encT).length : Nat))), .d (.lst (cutD (dnD (d0 ++ d1)) (some ((((dnD (d0 ++ d1)).length : Nat) : Int) - (((partsT p).map encT).length : Nat))) none)), ?_, ?_, fun y hy => h2 y (List.mem_cons_of_mem _ hy), ?_, rfl, ?_⟩
          · rw [List.map_cons, List.sum_cons, fm1]; omega
          · have e2 : (dnD (d0 ++ d1)).take ((((dnD (d0 ++ d1)).length : Nat) : Int) - (((partsT p).map encT).length : Nat)).toNat ++ [resD n] = dnD (d0 ++ [(p, n)]) := by
              rw [el, Int.toNat_natCast, et, dnD_app]; rfl
            rw [← e2]; rfl
          · have : dnT (d0 ++ [(p, n)]) = l0 ++ [p] := by
              rw [← hd0]
              unfold dnT
              rw [List.map_append]; rfl
            rw [this]; exact h1
          · intro y hy
            rcases List.mem_append.mp hy with hy | hy
            · exact h3 y (List.mem_append_left _ hy)
            · rw [List.mem_singleton.mp hy]; exact hn'
          · rw [List.length_append, List.length_singleton]; omega
      | false =>
        have fo := fm_open p
        have lp := len_fm ((partsT p).map fun p => (p, false))
        have f2 : fm (p, false) = 2 * nodes p := rfl
        rw [List.length_map] at lp
        refine ⟨lt_lim (by rw [List.length_map, List.length_reverse]; omega), ?_⟩
        refine lc_map (fun d => .tup [d, .bl false]) (fun x hx P p => p) ?_
        refine ⟨le_lim (by simp only [List.length_append, List.length_map, List.length_reverse, List.length_singleton]; omega), ?_⟩
        refine ⟨(((partsT p).map fun p => (p, false)).map fm).sum + (1 + (st.map fm).sum), ?_, (partsT p).map (fun p => (p, false)) ++ (p, true) :: st, dn, .d (encT p), .d (.bl false), .d (.tup ((partsT p).map encT)), x7, x8, ?_, ?_, ?_, h3, ?_, ?_⟩
        · rw [List.map_cons, List.sum_cons]; omega
        · rw [List.reverse_append, List.reverse_cons, List.map_append, List.map_append, ← List.map_reverse, List.map_map, ← List.map_reverse, List.map_map]; rfl
        · exact fin_open h1
        · intro y hy
          rcases List.mem_append.mp hy with hy | hy
          · obtain ⟨z, hz, rfl⟩ := List.mem_map.mp hy
            exact ap.part hv hz
          · rcases List.mem_cons.mp hy with rfl | hy
            · exact ap
            · exact h2 y (List.mem_cons_of_mem _ hy)
        · rw [List.map_append, sum_app, List.map_cons, List.sum_cons]; rfl
        · omega
theorem ok_one_form (T : Tx K mg W) (Dd : Df K mg "one_form" s_one_form ["structure"]) (C_folded : Cal P w K mg base CX0 8 "folded" ["structure", "made"] (spW K (r_folded W))) : Cal P w K mg base CX0 9 "one_form" ["structure"] (spW K r_one_form) := by
  refine cal_ok Dd sc_one_form (fun ds Q h => ?_) (fun f cdv A outer s H E hr => 
  (ss_cons (s_asg (d_call C_folded mono_folded (hr.mono (by decide)) (a_cons (dv 0) (a_cons (d_glob (v := .ref _) T.f__formed rfl (fun _ => .ref _)) a_nil))) (g_tup (gs_cons (g_name (i := 1) sc_one_form.nd rfl (.inl rfl)) (gs_cons (g_name (i := 2) sc_one_form.nd rfl (.inl rfl)) gs_nil))))
  (ss_one (s_ret (dv 1))))) (fun ds Q h => ?_)

  · obtain ⟨sp, lab, t, rfl, _⟩ := h; rfl
  · obtain ⟨sp, lab, t, rfl, hv, ask, q⟩ := h
    exact ⟨sp, lab, t, rfl, hv, ask, fun n hn => q n hn⟩
end
end DL

namespace DL
variable [Tbs]
open PySem L2
section
variable {P : Program} {w : World} {K : PySem.W.Frag} {mg : Str → Option Value} {base : Heap} {W : Ad}
/-! ### with_parts, _are_labelled, flat -/
def r_with_parts (ds : List D) (d : D) : Prop := (∃ (w : Wd) (ps qs : List Tr), ds = [encT (.node w ps), .lst (qs.map encT)] ∧ arity w ps.length = true ∧ arity w qs.length = true ∧ qs.length ≤ 100000 ∧ d = encT (.node w qs)) ∨ ∃ l, ds = [encT (.atom l), .lst []] ∧ d = encT (.atom l)
theorem ok_with_parts (T : Tx K mg W) (Dd : Df K mg "with_parts" s_with_parts ["structure", "parts"]) : Cal P w K mg base CX0 1 "with_parts" ["structure", "parts"] (spW K (relR r_with_parts)) := by
  refine cal_ok Dd sc_with_parts (fun ds Q h => ?_) (fun f cdv A outer s H E hr => 
  (ss_cons (s_set (i := 2) sc_with_parts.nd rfl (.inl rfl) (d_ix (qv 0) d_int.q))
  (ss_cons (s_if (t_cmp (o_in) (qv 2) (d_glob T.g_MEMBER_WORDS T.r_MEMBER_WORDS T.a_MEMBER_WORDS).q) (
    (ss_one (s_ret (d_tup (a_cons (dv 2) (a_cons (d_callT c_tuple T.n_tuple (b_cons (qv 1) b_nil)) a_nil)))))) (ss_nil))
  (ss_cons (s_if (t_cmp (o_in) (qv 2) (d_tup (a_cons d_str (a_cons d_str a_nil))).q) (
    (ss_one (s_ret (dv 0)))) (ss_nil))
  (ss_one (s_ret (d_tupS (dv 2) (qv 1)))))))) (fun ds Q h => ?_)

  · obtain ⟨d, ⟨w, ps, qs, rfl, _⟩ | ⟨l, rfl, _⟩, _⟩ := h <;> rfl
  · obtain ⟨d, ⟨w, ps, qs, rfl, hp, hq, hl, rfl⟩ | ⟨l, rfl, rfl⟩, q⟩ := h
    · have el : (qs.map encT).length = qs.length := List.length_map _
      have sh := enc_node w qs
      rw [enc_shape] at *
      cases w with
      | one =>
        obtain rfl : ps = [] := List.length_eq_zero_iff.mp (by simpa [arity] using hp)
        obtain rfl : qs = [] := List.length_eq_zero_iff.mp (by simpa [arity] using hq)
        exact ⟨⟨rfl, rfl⟩, ⟨rfl, rfl⟩, q⟩
      | row | set | ring => exact ⟨⟨rfl, rfl⟩, q⟩
      | left | right | and =>
        exact ⟨⟨rfl, rfl⟩, ⟨rfl, rfl⟩, le_lim (by show (qs.map encT).length + 1 ≤ _; omega), q⟩
    · rw [enc_shape] at *
      exact ⟨⟨rfl, rfl⟩, ⟨rfl, rfl⟩, q⟩
def r__are_labelled (ds : List D) (d : D) : Prop := ∃ (t : Tr) (ts : List Tr), ds = [.lst ((t :: ts).map pairT)] ∧ sizeT t ≤ 100000 ∧ d = .bl (decide (0 < (labL t).length))
theorem ok__are_labelled (T : Tx K mg W) (Dd : Df K mg "_are_labelled" s__are_labelled ["pairs"]) : Cal P w K mg base CX0 1 "_are_labelled" ["pairs"] (spW K (relR r__are_labelled)) := by
  refine cal_ok Dd sc__are_labelled (fun ds Q h => ?_) (fun f cdv A outer s H E hr => 
  (ss_one (s_ret (d_cmp o_gt (d_callB (c_len) T.n_len (b_cons (d_ix (d_ix (d_ix (qv 0) d_int.q).q d_int.q).q d_int.q).q b_nil)).q d_int.q)))) (fun ds Q h => ?_)

  · obtain ⟨d, ⟨t, ts, rfl, _⟩, _⟩ := h; rfl
  · obtain ⟨d, ⟨t, ts, rfl, hs, rfl⟩, q⟩ := h
    show Q (.bl (decide ((0 : Int) < ((natsD (labL t)).length : Nat))))
    rw [natsD_len]
    have : decide ((0 : Int) < ((labL t).length : Nat)) = decide (0 < (labL t).length) := decide_eq_decide.mpr (by omega)
    rw [this]
    exact q
end
end DL

namespace DL
variable [Tbs]
open PySem L2
section
variable {P : Program} {w : World} {K : PySem.W.Frag} {mg : Str → Option Value} {base : Heap} {W : Ad}
/-! ### flat -/
def rowS : D → List Int
  | .non => [0]
  | d => rowD d
theorem rowS_nest {d : D} (h : nest d = true) : rowS d = rowD d := by
  cases d with
  | non => exact absurd h (by simp [nest])
  | _ => rfl
theorem rowDs_flat : ∀ {l : List D}, nests l = true → rowDs l = l.flatMap rowS
  | [], _ => by rw [rowDs]; rfl
  | d :: l, h => by
    rw [nests, Bool.and_eq_true] at h
    rw [rowDs, List.flatMap_cons, rowDs_flat h.2, rowS_nest h.1]
theorem row_pos {d : D} (h : d = .non ∨ nest d = true) : 1 ≤ (rowS d).length := by
  rcases h with rfl | h
  · exact Nat.le_refl _
  · obtain ⟨x, r, e, _⟩ := flat_first h
    rw [rowS_nest h, e, List.length_cons]; omega
theorem rows_len : ∀ {st : List D}, (∀ y ∈ st, y = .non ∨ nest y = true) → st.length ≤ (st.flatMap rowS).length
  | [], _ => Nat.le_refl _
  | y :: st, h => by
    rw [List.length_cons, List.flatMap_cons, List.length_append]
    have := row_pos (h y List.mem_cons_self)
    have := rows_len fun z hz => h z (List.mem_cons_of_mem _ hz)
    omega
def r_flat (ds : List D) (d : D) : Prop := ∃ x : D, ds = [x] ∧ nest x = true ∧ (rowD x).length ≤ 400000 ∧ d = .lst ((rowD x).map D.int)
theorem ok_flat (T : Tx K mg W) (Dd : Df K mg "flat" s_flat ["nested"]) : Cal P w K mg base CX0 1 "flat" ["nested"] (spW K (relR r_flat)) := by
  refine cal_ok Dd sc_flat (fun ds Q h => ?_) (fun f cdv A outer s H E hr => 
  (ss_cons (s_own (i := 1) sc_flat.nd rfl (.inl rfl) (f_lst a_nil))
  (ss_cons (s_own (i := 2) sc_flat.nd rfl (.inl rfl) (f_lst (a_cons (dv 0) a_nil)))
  (ss_cons (s_while PassesOwn.never (t_truth (qv 2)) (
    (ss_cons (s_popSet 2 (g_name (i := 3) sc_flat.nd rfl (.inl rfl)))
    (ss_one (s_if (t_isN (qv 3)) (
      (ss_one (s_append 1 (d_glob T.g__END T.r__END T.a__END)))) (
      (ss_one (s_if (t_val (d_isi k_tuple T.n_isinstance T.n_tuple (qv 3)).q) (
        (ss_cons (s_append 1 (d_glob T.g__BEGIN T.r__BEGIN T.a__BEGIN))
        (ss_cons (s_append 2 d_non)
        (ss_one (s_extend 2 (f_lc sc_flat.nd (i_revA T.n_reversed (dv 3)).q (blkOk_by (own := [("one", 4)]) (N := ["nested", "row", "todo", "part", "one"]) (sc := defScope s_flat) (by decide +kernel)) (fun _ _ _ _ _ => (g_name (i := 4) sc_flat.nd rfl (.inl rfl))) (fun _ _ _ _ _ => ts_nil) (fun _ _ _ _ _ => (dv 4))).p))))) (
        (ss_one (s_append 1 (d_op (o_add) (d_glob T.g__NUMBERS T.r__NUMBERS T.a__NUMBERS).q (qv 3)))))))))))))
  (ss_one (s_frz 1 (s_ret (dv 1)))))))) (fun ds Q h => ?_)

  · obtain ⟨d, ⟨x, rfl, _⟩, _⟩ := h; rfl
  · obtain ⟨d, ⟨x, rfl, hx, hl, rfl⟩, q⟩ := h
    refine ⟨fun m δ => ∃ (dn : List Int) (st : List D) (x3 : Sl), δ = [.d x, .own (dn.map D.int), .own st.reverse, x3, .no] ∧ dn ++ st.flatMap rowS = rowD x ∧ (∀ y ∈ st, y = .non ∨ nest y = true) ∧ m = (st.flatMap rowS).length, ⟨(rowD x).length, [], [x], .no, rfl, by simp [rowS_nest hx], by simpa using .inr hx, by simp [rowS_nest hx]⟩, ?_⟩
    rintro m δ ⟨dn, st, x3, rfl, h1, h2, rfl⟩
    cases st with
    | nil =>
      have h1 : dn = rowD x := by simpa using h1
      subst h1
      exact q
    | cons y st =>
      rw [List.reverse_cons]
      have ne : (st.reverse ++ [y]).isEmpty = false := by
        cases h : st.reverse with
        | nil => rfl
        | cons a b => rfl
      refine yNB (fun _ => ?_) (fun h => absurd (ne.symm.trans h) (by decide))
      refine pop_last rfl ?_
      have hst := fun z hz => h2 z (List.mem_cons_of_mem _ hz)
      have ls := rows_len hst
      have ll := congrArg List.length h1
      rw [List.flatMap_cons, List.length_append, List.length_append] at ll
      rw [List.flatMap_cons] at h1
      have py := row_pos (h2 y List.mem_cons_self)
      rcases h2 y List.mem_cons_self with rfl | hy
      · refine ⟨lt_lim (by rw [List.length_map]; omega), ⟨(st.flatMap rowS).length, ?_, dn ++ [0], st, .d .non, ?_, ?_, hst, rfl⟩⟩
        · rw [List.flatMap_cons, List.length_append]; omega
        · rw [List.map_append]; rfl
        · rw [List.append_assoc]; exact h1
      · cases y with
        | int i =>
          refine ⟨rfl, lt_lim (by rw [List.length_map]; omega), ⟨(st.flatMap rowS).length, ?_, dn ++ [2 + i], st, .d (.int i), ?_, ?_, hst, rfl⟩⟩
          · rw [List.flatMap_cons, List.length_append]; omega
          · rw [List.map_append]; rfl
          · rw [rowS_nest hy, rowD] at h1
            rw [List.append_assoc]; exact h1
        | tup l =>
          have hl2 : nests l = true := by rw [nest] at hy; exact hy
          have hm : ∀ z ∈ l, z = .non ∨ nest z = true := fun z hz => .inr (by rw [nests_all] at hl2; exact List.all_eq_true.mp hl2 z hz)
          have ll2 := rows_len hm
          have er : rowS (.tup l) = 1 :: (l.flatMap rowS ++ [0]) := by rw [rowS_nest hy, rowD, rowDs_flat hl2]
          rw [er, List.length_cons, List.length_append, List.length_singleton] at ll
          rw [er] at h1
          refine ⟨rfl, lt_lim (by rw [List.length_map]; omega), lt_lim (by rw [List.length_reverse]; omega), ?_⟩
          refine lc_map (fun d => d) (fun x hx P p => p) ?_
          refine ⟨le_lim (by simp only [List.length_append, List.length_map, List.length_reverse, List.length_singleton]; omega), ?_⟩
          refine ⟨((l ++ .non :: st).flatMap rowS).length, ?_, dn ++ [1], l ++ .non :: st, .d (.tup l), ?_, ?_, ?_, rfl⟩
          · rw [List.flatMap_append, List.flatMap_cons, List.flatMap_cons, er]
            simp only [List.length_append, List.length_cons, List.length_nil, rowS]
            omega
          · rw [List.map_append, List.reverse_append, List.reverse_cons, List.map_id']
            rfl
          · rw [List.flatMap_append, List.flatMap_cons, ← h1]
            simp [rowS]
          · intro z hz
            rcases List.mem_append.mp hz with hz | hz
            · exact hm z hz
            · rcases List.mem_cons.mp hz with rfl | hz
              · exact .inl rfl
              · exact hst z hz
        | non | bl _ | str _ | lst _ | scr _ | dic _ _ | ref _ | ptp _ => exact absurd hy (by simp [nest])
end
end DL

namespace DL
variable [Tbs]
open PySem L2
open PySem.W (alike alikeAll dataLt keyToks keyToksAll AllAlike)
/-! # rows of numbers and ranks, as the program makes them -/
theorem row_two (a b : D) : (rowD (.tup [a, b])).length = 2 + ((rowD a).length + (rowD b).length) := by
  rw [rowD, rowDs, rowDs, rowDs, List.length_cons, List.length_append, List.length_append, List.length_append, List.length_singleton, List.length_nil]; omega
theorem row_three (a b c : D) : (rowD (.tup [a, b, c])).length = 2 + ((rowD a).length + (rowD b).length + (rowD c).length) := by
  rw [rowD, rowDs, rowDs, rowDs, rowDs, List.length_cons, List.length_append, List.length_append, List.length_append, List.length_append, List.length_singleton, List.length_nil]; omega
theorem row_tup (l : List D) : (rowD (.tup l)).length = 2 + (l.map fun d => (rowD d).length).sum := by
  have : ∀ l : List D, (rowDs l).length = (l.map fun d => (rowD d).length).sum := fun l => by
    induction l with
    | nil => rw [rowDs]; rfl
    | cons d l ih => rw [rowDs, List.length_append, ih, List.map_cons, List.sum_cons]
  rw [rowD, List.length_cons, List.length_append, this, List.length_singleton]; omega
theorem row_nats (l : List Nat) : (rowD (.tup (natsD l))).length = 2 + l.length := by
  rw [row_tup]
  have : ((natsD l).map fun d => (rowD d).length).sum = l.length := by
    unfold natsD
    rw [List.map_map]
    induction l with
    | nil => rfl
    | cons n l ih =>
      rw [List.map_cons, List.sum_cons, ih, List.length_cons]
      show (rowD (.int (n : Nat))).length + _ = _
      rw [rowD, List.length_singleton]; omega
  rw [this]
theorem row_w (t : Tr) : (rowD (wD t)).length ≤ 5 + sizeT t := by
  unfold wD
  rw [row_two, row_nats, rowD, List.length_singleton]
  have := labL_len t
  omega
theorem row_key {S : Nat} : ∀ t : Tr, sizeT t ≤ S → (rowD (keyT t)).length + 12 + S ≤ nodes t * (17 + S) ∧ (rowD (pairT t)).length ≤ nodes t * (17 + S) := by
  have fin : ∀ t : Tr, sizeT t ≤ S → (rowD (keyT t)).length + 12 + S ≤ nodes t * (17 + S) → (rowD (keyT t)).length + 12 + S ≤ nodes t * (17 + S) ∧ (rowD (pairT t)).length ≤ nodes t * (17 + S) := fun t hs h => ⟨h, by
    unfold pairT
    rw [row_two]
    have := row_w t
    omega⟩
  refine Tr.ind (fun l hs => fin _ hs ?_) fun w ps ih hs => fin _ hs ?_
  · rw [keyT, row_tup, nodes]
    show 2 + 0 + 12 + S ≤ _
    omega
  · have sub : ∀ p ∈ ps, sizeT p ≤ S := fun p hp => by
      rw [size_node] at hs
      exact Nat.le_trans (size_mem hp) hs
    have pr : ((ps.map fun t => (wD t, keyT t)).map prD) = ps.map pairT := by rw [List.map_map]; rfl
    have sums : ∀ qs : List Tr, (∀ p ∈ qs, p ∈ ps) → ((qs.map pairT).map fun d => (rowD d).length).sum ≤ (qs.map nodes).sum * (17 + S) := fun qs h => by
      induction qs with
      | nil => simp
      | cons q qs ih2 =>
        rw [List.map_cons, List.map_cons, List.map_cons, List.sum_cons, List.sum_cons, Nat.add_mul]
        have h1 := (ih q (h q List.mem_cons_self) (sub q (h q List.mem_cons_self))).2
        have h2 := ih2 fun p hp => h p (List.mem_cons_of_mem _ hp)
        omega
    have all := sums ps fun _ h => h
    have kp : (rowD (.tup ((ps.map fun t => (wD t, keyT t)).map prD))).length ≤ 2 + (ps.map nodes).sum * (17 + S) := by
      rw [pr, row_tup]; omega
    rw [key_node, nodes_node, Nat.add_mul, Nat.one_mul]
    have one : ∀ p ∈ ps, (rowD (keyT p)).length + 12 + S ≤ (ps.map nodes).sum * (17 + S) := fun p hp => by
      have h1 := (ih p hp (sub p hp)).1
      have h2 := Nat.mul_le_mul_right (17 + S) (nodes_mem hp)
      omega
    cases w with
    | one | row | set => show (rowD (.tup _)).length + 12 + S ≤ _; omega
    | left => match ps, kp, one with
      | [], kp, _ => show (rowD (.tup _)).length + 12 + S ≤ _; omega
      | p :: ps, _, one =>
        show (rowD (.tup [.int 0, keyT p])).length + 12 + S ≤ _
        have := one p List.mem_cons_self
        rw [row_two, rowD, List.length_singleton]; omega
    | right => match ps, kp, one with
      | [], kp, _ => show (rowD (.tup _)).length + 12 + S ≤ _; omega
      | p :: ps, _, one =>
        show (rowD (.tup [.int 1, keyT p])).length + 12 + S ≤ _
        have := one p List.mem_cons_self
        rw [row_two, rowD, List.length_singleton]; omega
    | and => match ps, kp, ih, sub with
      | [], kp, _, _ => show (rowD (.tup _)).length + 12 + S ≤ _; omega
      | [p], kp, _, _ => exact Nat.le_trans (Nat.add_le_add_right (Nat.add_le_add_right kp 12) S) (by omega)
      | p :: q :: ps, _, ih, sub =>
        show (rowD (.tup [wD p, keyT p, keyT q])).length + 12 + S ≤ _
        have h1 := (ih p List.mem_cons_self (sub p List.mem_cons_self)).1
        have h2 := (ih q (List.mem_cons_of_mem _ List.mem_cons_self) (sub q (List.mem_cons_of_mem _ List.mem_cons_self))).1
        have h3 := row_w p
        have h4 := sub p List.mem_cons_self
        rw [row_three, List.map_cons, List.map_cons, List.sum_cons, List.sum_cons, Nat.add_mul, Nat.add_mul]
        omega
    | ring =>
      show (rowD (if (labs (.node .ring ps)).isEmpty = true then D.tup [.int (((ps.map fun t => (wD t, keyT t)).length : Nat)), .tup ((ps.map fun t => (wD t, keyT t)).map prD)] else .tup ((ps.map fun t => (wD t, keyT t)).map prD))).length + 12 + S ≤ _
      split
      · rw [row_two, rowD, List.length_singleton]; omega
      · omega
/-! ### data in order -/
theorem eqv_int (i j : Int) : PyData.eqv (.int i) (.int j) = (i == j) := by unfold PyData.eqv; rfl
theorem nest_pair (r : Tr) : nest (pairT r) = true := nest_two (nest_w r) (nest_key r)
theorem nest_sk (r : Tr) : nest (skD r) = true := nest_two (nest_int _) (nest_key r)
theorem eqv_nest {a b : D} (ha : nest a = true) (hb : nest b = true) (hl : alike (toP a) (toP b) = true) : PyData.eqv (toP a) (toP b) = decide (rowD a = rowD b) := by
  rcases flat_cmp a b ha hb hl with h | h
  · rw [h.v, h.e]; simp
  · rw [h.v, decide_eq_false]
    have := h.n [] []
    rwa [List.append_nil, List.append_nil] at this
/-- unlabelled members: their weights and keys compare as their sizes and keys do -/
structure Un2 (r s : Tr) : Prop where
  lr : labL r = []
  ls : labL s = []
  al : alike (toP (keyT r)) (toP (keyT s)) = true
theorem Un2.sk {r s : Tr} (h : Un2 r s) : alike (toP (skD r)) (toP (skD s)) = true := alike_two (alike_int _ _) h.al
theorem w_un {r : Tr} (h : labL r = []) : wD r = .tup [.int (sizeT r : Nat), .tup []] := by unfold wD; rw [h]; rfl
theorem Un2.w {r s : Tr} (h : Un2 r s) : alike (toP (wD r)) (toP (wD s)) = true := by
  rw [w_un h.lr, w_un h.ls]
  refine alike_two (alike_int _ _) ?_
  show alike (.tuple []) (.tuple []) = true
  rw [alike_tuple, alikeAll_nilL]
theorem Un2.pair {r s : Tr} (h : Un2 r s) : alike (toP (pairT r)) (toP (pairT s)) = true := alike_two h.w h.al
theorem Un2.lt {r s : Tr} (h : Un2 r s) : dataLt (toP (pairT r)) (toP (pairT s)) = dataLt (toP (skD r)) (toP (skD s)) := by
  show dataLt (.tuple [toP (wD r), toP (keyT r)]) (.tuple [toP (wD s), toP (keyT s)]) = dataLt (.tuple [.int (sizeT r : Nat), toP (keyT r)]) (.tuple [.int (sizeT s : Nat), toP (keyT s)])
  rw [PySem.W.dataLt_pair h.w h.al, PySem.W.dataLt_pair (alike_int _ _) h.al]
  have hw : ∀ a b : Tr, labL a = [] → labL b = [] → PyData.eqv (toP (wD a)) (toP (wD b)) = PyData.eqv (.int (sizeT a : Nat)) (.int (sizeT b : Nat)) := fun a b ha hb => by
    rw [w_un ha, w_un hb]
    show PyData.eqv (.tuple [.int (sizeT a : Nat), .tuple []]) (.tuple [.int (sizeT b : Nat), .tuple []]) = _
    simp [PyData.eqv, PyData.eqvAll]
  rw [hw r s h.lr h.ls]
  by_cases c : PyData.eqv (.int (sizeT r : Nat)) (.int (sizeT s : Nat)) = true
  · rw [if_pos c, if_pos c]
  · rw [if_neg c, if_neg c, w_un h.lr, w_un h.ls]
    show dataLt (.tuple [.int (sizeT r : Nat), .tuple []]) (.tuple [.int (sizeT s : Nat), .tuple []]) = _
    rw [PySem.W.dataLt_pair (alike_int _ _) (by rw [alike_tuple, alikeAll_nilL]), if_neg c]
theorem Un2.row_lt {r s : Tr} (h : Un2 r s) : decide (rowD (pairT r) < rowD (pairT s)) = dataLt (toP (skD r)) (toP (skD s)) := by
  rw [← h.lt]; exact flat_lt (nest_pair r) (nest_pair s) h.pair
theorem Un2.row_eq {r s : Tr} (h : Un2 r s) : decide (rowD (pairT r) = rowD (pairT s)) = PyData.eqv (toP (skD r)) (toP (skD s)) := by
  rw [eqv_nest (nest_sk r) (nest_sk s) h.sk]
  apply decide_eq_decide.mpr
  constructor
  · intro e
    have := flat_inj (nest_pair r) (nest_pair s) h.pair e
    unfold pairT at this
    injection this with this
    injection this with h1 h2
    injection h2 with h2
    rw [w_un h.lr, w_un h.ls] at h1
    injection h1 with h1
    injection h1 with h1
    injection h1 with h1
    unfold skD
    rw [h1, h2]
  · intro e
    have := flat_inj (nest_sk r) (nest_sk s) h.sk e
    unfold skD at this
    injection this with this
    injection this with h1 h2
    injection h2 with h2
    injection h1 with h1
    unfold pairT
    rw [w_un h.lr, w_un h.ls, h1, h2]
/-- lists of ints -/
def LI (l : List Int) : D := .lst (l.map D.int)
theorem alike_ints : ∀ a b : List Int, alikeAll (toPs (a.map D.int)) (toPs (b.map D.int)) = true
  | [], b => alikeAll_nilL _
  | _ :: _, [] => alikeAll_nilR _
  | x :: a, y :: b => by
    show alikeAll (.int x :: toPs (a.map D.int)) (.int y :: toPs (b.map D.int)) = true
    rw [alikeAll_cons, alike_int, alike_ints a b]; rfl
theorem rowDs_ints : ∀ a : List Int, rowDs (a.map D.int) = a.map (2 + ·)
  | [] => by rw [List.map_nil, rowDs]; rfl
  | x :: a => by rw [List.map_cons, rowDs, rowDs_ints a, rowD]; rfl
theorem rows_lt : ∀ (a b : List Int), (∀ x ∈ a, 0 ≤ x) → (∀ x ∈ b, 0 ≤ x) → decide (a.map (2 + ·) ++ [0] < b.map (2 + ·) ++ [0]) = decide (a < b)
  | [], [], _, _ => by simp
  | [], y :: b, _, hb => by
    have := hb y List.mem_cons_self
    show decide ((0 : Int) :: [] < (2 + y) :: (b.map (2 + ·) ++ [0])) = _
    rw [lt_head (by omega)]
    have : (0 : Int) < 2 + y := by omega
    simp [this]
  | x :: a, [], ha, _ => by
    have := ha x List.mem_cons_self
    show decide ((2 + x) :: (a.map (2 + ·) ++ [0]) < (0 : Int) :: []) = _
    rw [lt_head (by omega)]
    have : ¬ (2 + x < (0 : Int)) := by omega
    simp [this]
  | x :: a, y :: b, ha, hb => by
    show decide ((2 + x) :: (a.map (2 + ·) ++ [0]) < (2 + y) :: (b.map (2 + ·) ++ [0])) = _
    by_cases e : x = y
    · subst e
      have h1 := lt_same [2 + x] (a.map (2 + ·) ++ [0]) (b.map (2 + ·) ++ [0])
      have h2 := lt_same [x] a b
      rw [show decide ((2 + x) :: (a.map (2 + ·) ++ [0]) < (2 + x) :: (b.map (2 + ·) ++ [0])) = _ from h1, rows_lt a b (fun z hz => ha z (List.mem_cons_of_mem _ hz)) fun z hz => hb z (List.mem_cons_of_mem _ hz)]
      exact h2.symm
    · rw [lt_head (by omega), lt_head e]
      exact decide_eq_decide.mpr (by omega)
theorem toks_ints {a b : List Int} (ha : ∀ x ∈ a, 0 ≤ x) (hb : ∀ x ∈ b, 0 ≤ x) : PyProof.Rows.lexLt PyProof.Rows.itemOrd (keyToksAll (toPs (a.map D.int))) (keyToksAll (toPs (b.map D.int))) = decide (a < b) := by
  have nest_i : ∀ {a : List Int}, (∀ x ∈ a, 0 ≤ x) → nest (.tup (a.map D.int)) = true := fun {a} h => nest_tup fun d hd => by
    obtain ⟨x, hx, rfl⟩ := List.mem_map.mp hd
    rw [nest, decide_eq_true_iff]; exact h x hx
  rw [← PySem.W.dataLt_tuple]
  show dataLt (toP (.tup (a.map D.int))) (toP (.tup (b.map D.int))) = _
  rw [← flat_lt (nest_i ha) (nest_i hb) (by show alike (.tuple _) (.tuple _) = true; rw [alike_tuple]; exact alike_ints a b), rowD, rowD, rowDs_ints, rowDs_ints, ← rows_lt a b ha hb]
  exact lt_same [1] _ _
theorem lt_LI {a b : List Int} (ha : ∀ x ∈ a, 0 ≤ x) (hb : ∀ x ∈ b, 0 ≤ x) : dataLt (toP (LI a)) (toP (LI b)) = decide (a < b) := by
  show dataLt (.list (toPs (a.map D.int))) (.list (toPs (b.map D.int))) = _
  rw [PySem.W.dataLt_list]; exact toks_ints ha hb
theorem row_nonneg : ∀ d : D, nest d = true → ∀ x ∈ rowD d, 0 ≤ x := by
  have main : ∀ n : Nat, ∀ d : D, (rowD d).length ≤ n → nest d = true → ∀ x ∈ rowD d, 0 ≤ x := by
    intro n
    induction n with
    | zero =>
      intro d h hn
      obtain ⟨x, r, e, _⟩ := flat_first hn
      rw [e, List.length_cons] at h; omega
    | succ n ih =>
      intro d h hn x hx
      cases d with
      | int i =>
        rw [nest, decide_eq_true_iff] at hn
        rw [rowD, List.mem_singleton] at hx; omega
      | tup l =>
        rw [nest] at hn
        rw [rowD] at hx h
        rcases List.mem_cons.mp hx with rfl | hx
        · decide
        · rcases List.mem_append.mp hx with hx | hx
          · rw [List.length_cons, List.length_append, List.length_singleton] at h
            have all : ∀ l : List D, nests l = true → (rowDs l).length ≤ n → ∀ x ∈ rowDs l, 0 ≤ x := fun l => by
              induction l with
              | nil => intro _ _ x hx; rw [rowDs] at hx; cases hx
              | cons d l ih2 =>
                intro h1 h2 x hx
                rw [nests, Bool.and_eq_true] at h1
                rw [rowDs, List.length_append] at h2
                rw [rowDs] at hx
                rcases List.mem_append.mp hx with hx | hx
                · exact ih d (by omega) h1.1 x hx
                · exact ih2 h1.2 (by omega) x hx
            exact all l hn (by omega) x hx
          · rw [List.mem_singleton.mp hx]; decide
      | non | bl _ | str _ | lst _ | scr _ | dic _ _ | ref _ | ptp _ => exact absurd hn (by simp [nest])
  exact fun d => main _ d (Nat.le_refl _)
theorem lt_head_one (x y : Nat) : decide ([(x : Int)] < [(y : Int)]) = decide (x < y) := by
  by_cases e : x = y
  · subst e; simp
  · rw [lt_head (by omega)]
    exact decide_eq_decide.mpr (by omega)
/-! ### labelled members: by their least labels -/
theorem lb_lt {a b : Tr} {x y : Nat} {l m : List Nat} (ha : labL a = x :: l) (hb : labL b = y :: m) : dataLt (toP (lbD a)) (toP (lbD b)) = decide (x < y) := by
  unfold lbD
  rw [ha, hb]
  have h := toks_ints (a := [(x : Int)]) (b := [(y : Int)]) (fun z hz => by rw [List.mem_singleton.mp hz]; omega) (fun z hz => by rw [List.mem_singleton.mp hz]; omega)
  show dataLt (.list (toPs ([(x : Int)].map D.int))) (.list (toPs ([(y : Int)].map D.int))) = _
  rw [PySem.W.dataLt_list, h, lt_head_one]
end DL

namespace DL
variable [Tbs]
open PySem L2
open PySem.W (alike alikeAll dataLt keyToks keyToksAll AllAlike)
/-! # ranks -/
def leR (a b : List Int) : Bool := leD (LI a) (LI b)
def srt (rows : List (List Int)) : List (List Int) := rows.mergeSort leR
def rk (rows : List (List Int)) (r : List Int) : Nat := (srt rows).idxOf r
def Nn (rows : List (List Int)) : Prop := ∀ r ∈ rows, ∀ x ∈ r, 0 ≤ x
theorem srt_LI (rows : List (List Int)) : (rows.map LI).mergeSort leD = (srt rows).map LI := (List.map_mergeSort (r := leR) (s := leD) (f := LI) fun a _ b _ => rfl).symm
theorem srt_mem {rows : List (List Int)} {r : List Int} : r ∈ srt rows ↔ r ∈ rows := (List.mergeSort_perm _ _).mem_iff
theorem srt_len (rows : List (List Int)) : (srt rows).length = rows.length := List.length_mergeSort _
theorem srt_le {rows : List (List Int)} (h : Nn rows) : (srt rows).Pairwise fun a b => ¬ b < a := by
  refine List.Pairwise.imp_of_mem (fun {a b} ha hb r => ?_) (List.pairwise_mergeSort (le := leR) (fun a b c => leD_trans _ _ _) (fun a b => leD_total _ _) rows)
  unfold leR leD at r
  rw [lt_LI (h b (srt_mem.mp hb)) (h a (srt_mem.mp ha)), Bool.not_eq_true'] at r
  exact of_decide_eq_false r
theorem rk_at {rows : List (List Int)} {r : List Int} (hr : r ∈ rows) : rk rows r < rows.length ∧ (srt rows)[rk rows r]? = some r := by
  have h1 : (srt rows).idxOf r < (srt rows).length := List.idxOf_lt_length_iff.mpr (srt_mem.mpr hr)
  refine ⟨by rw [srt_len] at h1; exact h1, ?_⟩
  unfold rk
  rw [List.getElem?_eq_getElem h1, List.getElem_idxOf]
theorem rk_eq {rows : List (List Int)} {r s : List Int} (hr : r ∈ rows) (hs : s ∈ rows) (e : rk rows r = rk rows s) : r = s := by
  have h1 := (rk_at hr).2
  have h2 := (rk_at hs).2
  rw [e, h2] at h1
  exact (Option.some.inj h1).symm
theorem rk_lt {rows : List (List Int)} (h : Nn rows) {r s : List Int} (hr : r ∈ rows) (hs : s ∈ rows) : rk rows r < rk rows s ↔ r < s := by
  have o := srt_le h
  have key : ∀ {r s : List Int}, r ∈ rows → s ∈ rows → rk rows r < rk rows s → ¬ s < r := fun {r s} hr hs l => by
    obtain ⟨a1, a2⟩ := rk_at hr
    obtain ⟨b1, b2⟩ := rk_at hs
    rw [← srt_len] at a1 b1
    have := List.pairwise_iff_getElem.mp o _ _ a1 b1 l
    rw [List.getElem?_eq_getElem a1] at a2
    rw [List.getElem?_eq_getElem b1] at b2
    rw [Option.some.inj a2, Option.some.inj b2] at this
    exact this
  constructor
  · intro l
    have h1 := key hr hs l
    have h2 : r ≠ s := fun e => by rw [e] at l; exact Nat.lt_irrefl _ l
    rcases Classical.em (r < s) with h3 | h3
    · exact h3
    · exact absurd (DL.row_eq h3 h1) h2
  · intro l
    rcases Nat.lt_trichotomy (rk rows r) (rk rows s) with h1 | h1 | h1
    · exact h1
    · have := rk_eq hr hs h1
      subst this
      exact absurd l (List.lt_irrefl _)
    · exact absurd l (key hs hr h1)
/-- `ordered.index(row)` -/
theorem ok_rows {rows : List (List Int)} : okD (.lst (rows.map LI)) = true := by
  have lay : ∀ l : List D, (∀ d ∈ l, (toP d).canLay0 = true) → (toP (.lst l)).canLay0 = true := fun l h => by
    show PyData.canLay0 (.list (toPs l)) = true
    rw [PyData.canLay0, lay0_all, toPs_map, List.all_map]
    exact List.all_eq_true.mpr h
  unfold okD SeqAt.shaped
  rw [Bool.and_eq_true, Bool.and_eq_true]
  refine ⟨dat_lst fun d hd => ?_, lay _ fun d hd => ?_, decide_eq_true (Nat.le_trans (depth_lst (N := 2) fun d hd => ?_) (by decide))⟩
  · obtain ⟨r, _, rfl⟩ := List.mem_map.mp hd
    exact dat_lst fun d hd => by obtain ⟨x, _, rfl⟩ := List.mem_map.mp hd; rfl
  · obtain ⟨r, _, rfl⟩ := List.mem_map.mp hd
    exact lay _ fun d hd => by obtain ⟨x, _, rfl⟩ := List.mem_map.mp hd; exact lay_int x
  · obtain ⟨r, _, rfl⟩ := List.mem_map.mp hd
    exact depth_lst (N := 1) fun d hd => by obtain ⟨x, _, rfl⟩ := List.mem_map.mp hd; exact depth_int _
theorem ok_LI (r : List Int) : okD (LI r) = true := okD_ints fun d hd => by obtain ⟨x, _, rfl⟩ := List.mem_map.mp hd; exact ⟨x, rfl⟩
theorem eqD_LI : ∀ a b : List Int, eqD (LI a) (LI b) = decide (a = b) := by
  have main : ∀ a b : List Int, PyData.eqvAll (toPs (a.map D.int)) (toPs (b.map D.int)) = decide (a = b) := fun a => by
    induction a with
    | nil => intro b; cases b <;> simp [toPs, PyData.eqvAll]
    | cons x a ih =>
      intro b
      cases b with
      | nil => simp [toPs, PyData.eqvAll]
      | cons y b =>
        show PyData.eqvAll (.int x :: toPs (a.map D.int)) (.int y :: toPs (b.map D.int)) = _
        rw [PyData.eqvAll, ih b, eqv_int]
        by_cases e : x = y
        · subst e; simp
        · simp [e]
  intro a b
  show PyData.eqv (.list _) (.list _) = _
  rw [PyData.eqv]; exact main a b
theorem idx_row {rows : List (List Int)} {r : List Int} (hr : r ∈ rows) {Q : D → Prop} (q : Q (.int (rk rows r : Nat))) : gIdx Q ((srt rows).map LI) (LI r) := by
  obtain ⟨a1, a2⟩ := rk_at hr
  refine ⟨⟨ok_rows, ok_LI r⟩, rk rows r, LI r, by rw [List.getElem?_map, a2]; rfl, by rw [eqD_LI]; simp, fun m z hm e => ?_, q⟩
  rw [List.getElem?_map] at e
  cases e2 : (srt rows)[m]? with
  | none => rw [e2] at e; cases e
  | some t =>
    rw [e2] at e
    obtain rfl := Option.some.inj e
    rw [eqD_LI]
    refine decide_eq_false fun et => ?_
    subst et
    have hml : m < (srt rows).length := (List.getElem?_eq_some_iff.mp e2).1
    have := List.not_of_lt_findIdx (p := fun x => x == t) (xs := srt rows) (i := m) (by exact hm)
    rw [List.getElem?_eq_getElem hml] at e2
    rw [Option.some.inj e2] at this
    simp at this
/-! ### the least of a list of keys -/
theorem best_least (kz : List PyData) : ∀ j i, i ≤ j → dataLt (kz.getD i .none) (kz.getD (bestK kz j) .none) = false := by
  intro j
  induction j with
  | zero =>
    intro i hi
    have : i = 0 := by omega
    subst this
    exact dlt_self _
  | succ j ih =>
    intro i hi
    unfold bestK
    by_cases c : dataLt (kz.getD (j + 1) .none) (kz.getD (bestK kz j) .none) = true
    · rw [if_pos c]
      by_cases e : i = j + 1
      · rw [e]; exact dlt_self _
      · cases h : dataLt (kz.getD i .none) (kz.getD (j + 1) .none) with
        | false => rfl
        | true =>
          have h1 := ih i (by omega)
          have := PyProof.Rows.lex_trans (O := PyProof.Rows.itemOrd) _ _ _ h c
          have this : dataLt (kz.getD i .none) (kz.getD (bestK kz j) .none) = true := this
          rw [this] at h1; cases h1
    · rw [if_neg c]
      by_cases e : i = j + 1
      · rw [e]; exact Bool.eq_false_iff.mpr c
      · exact ih i (by omega)
end DL

namespace DL
variable [Tbs]
open PySem L2
open PySem.W (alike alikeAll dataLt keyToks keyToksAll AllAlike)
/-! # places of members in order -/
theorem lex_maps {α : Type} (f g : α → PyData) : ∀ {xs ys : List α}, xs.length = ys.length → (∀ x ∈ xs, ∀ y ∈ ys, alike (f x) (f y) = true ∧ alike (g x) (g y) = true ∧ PyData.eqv (f x) (f y) = PyData.eqv (g x) (g y) ∧ dataLt (f x) (f y) = dataLt (g x) (g y)) →
    PyProof.Rows.lexLt PyProof.Rows.itemOrd (keyToksAll (xs.map f)) (keyToksAll (ys.map f)) = PyProof.Rows.lexLt PyProof.Rows.itemOrd (keyToksAll (xs.map g)) (keyToksAll (ys.map g))
  | [], [], _, _ => rfl
  | x :: xs, y :: ys, hl, h => by
    obtain ⟨h1, h2, h3, h4⟩ := h x List.mem_cons_self y List.mem_cons_self
    rw [List.map_cons, List.map_cons, List.map_cons, List.map_cons, PySem.W.dataLt_cons h1, PySem.W.dataLt_cons h2, h3, h4, lex_maps f g (by simpa using hl) fun a ha b hb => h a (List.mem_cons_of_mem _ ha) b (List.mem_cons_of_mem _ hb)]
  | [], _ :: _, hl, _ => by cases hl
  | _ :: _, [], hl, _ => by cases hl
structure Plc (lab : Bool) (rs : List Tr) : Prop where
  few : rs.length ≤ 1000
  row : ∀ r ∈ rs, (rowD (pairT r)).length ≤ 400000
  sz : ∀ r ∈ rs, sizeT r ≤ 100000
  un : lab = false → ∀ r ∈ rs, ∀ s ∈ rs, Un2 r s
  lb : lab = true → 1 < rs.length → ∀ r ∈ rs, labL r ≠ []
  dis : lab = true → (rs.flatMap labs).Nodup
def at_ (rs : List Tr) (p : Nat) : Tr := rs.getD p (.atom none)
def pkT (rs : List Tr) : D → Tr
  | .int i => at_ rs i.toNat
  | _ => .atom none
theorem at_get {rs : List Tr} {p : Nat} (h : p < rs.length) : rs[p]? = some (at_ rs p) := by
  unfold at_
  rw [List.getD_eq_getElem?_getD, List.getElem?_eq_getElem h]; rfl
theorem at_mem {rs : List Tr} {p : Nat} (h : p < rs.length) : at_ rs p ∈ rs := List.mem_of_getElem? (at_get h)
theorem range_at (rs : List Tr) : (List.range rs.length).map (at_ rs) = rs := by
  apply List.ext_getElem?
  intro i
  rw [List.getElem?_map]
  by_cases h : i < rs.length
  · rw [List.getElem?_range h, at_get h]; rfl
  · rw [List.getElem?_eq_none_iff.mpr (by rw [List.length_range]; omega), List.getElem?_eq_none_iff.mpr (by omega)]; rfl
theorem rg_nats (n : Nat) : rgD 0 (n : Int) = natsD (List.range n) := by
  unfold rgD natsD
  rw [show ((n : Int) - 0).toNat = n by omega]
  exact List.map_congr_left fun i _ => by rw [Int.zero_add]
def srtP (kk : Tr → D) (rs : List Tr) : List Nat := (List.range rs.length).mergeSort fun a b => leD (kk (at_ rs a)) (kk (at_ rs b))
theorem srtP_nats (kk : Tr → D) (rs : List Tr) : ((natsD (List.range rs.length)).mergeSort fun a b => leD (kk (pkT rs a)) (kk (pkT rs b))) = natsD (srtP kk rs) := by
  unfold natsD srtP
  exact (List.map_mergeSort fun a _ b _ => by simp [pkT]).symm
theorem srtP_lt {kk : Tr → D} {rs : List Tr} {p : Nat} (h : p ∈ srtP kk rs) : p < rs.length := List.mem_range.mp ((List.mergeSort_perm _ _).mem_iff.mp h)
theorem srtP_ord {lab : Bool} {kk : Tr → D} {rs : List Tr} (h : ∀ r ∈ rs, ∀ s ∈ rs, leD (kk r) (kk s) = true → leM lab r s) : Ord lab .set rs ((srtP kk rs).map (at_ rs)) := by
  refine ⟨fun _ => ⟨?_, ?_⟩, (fun h => by cases h), fun h => absurd rfl h⟩
  · have := (List.mergeSort_perm (List.range rs.length) fun a b => leD (kk (at_ rs a)) (kk (at_ rs b))).map (at_ rs)
    rw [range_at] at this
    exact this
  · rw [List.pairwise_map]
    exact List.Pairwise.imp_of_mem (fun {a b} ha hb r => h _ (at_mem (srtP_lt ha)) _ (at_mem (srtP_lt hb)) r) (List.pairwise_mergeSort (le := fun a b => leD (kk (at_ rs a)) (kk (at_ rs b))) (fun a b c => leD_trans _ _ _) (fun a b => leD_total _ _) _)
theorem small_ord {lab : Bool} {w : Wd} {rs : List Tr} (h : ¬ 1 < rs.length) : Ord lab w rs ((List.range rs.length).map (at_ rs)) := by rw [range_at]; exact ord_small h
/-! ### keys -/
def hdL (r : Tr) : Nat := (labL r).headD 0
def kkL (r : Tr) : D := .int (hdL r : Nat)
def kkU (r : Tr) : D := LI (rowD (pairT r))
theorem hd_cons {r : Tr} (h : labL r ≠ []) : ∃ l, labL r = hdL r :: l := by
  unfold hdL
  cases e : labL r with
  | nil => exact absurd e h
  | cons x l => exact ⟨l, rfl⟩
theorem leU {r s : Tr} (h : Un2 s r) (l : leD (kkU r) (kkU s) = true) : leM false r s := by
  unfold leD kkU at l
  rw [lt_LI (row_nonneg _ (nest_pair s)) (row_nonneg _ (nest_pair r)), h.row_lt, Bool.not_eq_true'] at l
  exact l
theorem leL {r s : Tr} (hr : labL r ≠ []) (hs : labL s ≠ []) (l : leD (kkL r) (kkL s) = true) : leM true r s := by
  obtain ⟨_, e1⟩ := hd_cons hr
  obtain ⟨_, e2⟩ := hd_cons hs
  unfold leD kkL at l
  rw [Bool.not_eq_true'] at l
  show dataLt (toP (lbD s)) (toP (lbD r)) = false
  rw [lb_lt e2 e1]
  have l : dataLt (.int (hdL s : Nat)) (.int (hdL r : Nat)) = false := l
  rw [PySem.W.dataLt_int] at l
  have := of_decide_eq_false l
  exact decide_eq_false (by omega)
theorem ord_LI {N : Nat} (h : 2 ≤ N) (rows : List (List Int)) : OrdD N (rows.map LI) := by
  have isl : ∀ d ∈ (rows.map LI).map toP, ∃ r : List Int, d = .list (toPs (r.map D.int)) := fun d hd => by
    obtain ⟨z, hz, rfl⟩ := List.mem_map.mp hd
    obtain ⟨r, _, rfl⟩ := List.mem_map.mp hz
    exact ⟨r, rfl⟩
  refine ⟨fun d hd => ?_, fun d hd => ?_, fun a ha b hb => ?_, .inr fun d hd => ?_⟩
  · obtain ⟨r, _, rfl⟩ := List.mem_map.mp hd
    exact dat_lst fun d hd => by obtain ⟨x, _, rfl⟩ := List.mem_map.mp hd; rfl
  · obtain ⟨r, _, rfl⟩ := List.mem_map.mp hd
    exact Nat.le_trans (depth_lst (N := 1) fun d hd => by obtain ⟨x, _, rfl⟩ := List.mem_map.mp hd; exact depth_int _) h
  · obtain ⟨r, rfl⟩ := isl a ha
    obtain ⟨s, rfl⟩ := isl b hb
    have := alike_ints r s
    rw [alike]; exact this
  · obtain ⟨r, rfl⟩ := isl d hd
    exact ⟨(fun z => by cases z), fun xs z => by cases z⟩
theorem ord_ints {N : Nat} (l : List Int) : OrdD N (l.map D.int) := by
  refine ⟨fun d hd => ?_, fun d hd => ?_, fun a ha b hb => ?_, .inr fun d hd => ?_⟩
  · obtain ⟨x, _, rfl⟩ := List.mem_map.mp hd; rfl
  · obtain ⟨x, _, rfl⟩ := List.mem_map.mp hd; exact depth_int _
  · obtain ⟨_, h1, rfl⟩ := List.mem_map.mp ha
    obtain ⟨x, _, rfl⟩ := List.mem_map.mp h1
    obtain ⟨_, h2, rfl⟩ := List.mem_map.mp hb
    obtain ⟨y, _, rfl⟩ := List.mem_map.mp h2
    exact alike_int _ _
  · obtain ⟨_, h1, rfl⟩ := List.mem_map.mp hd
    obtain ⟨x, _, rfl⟩ := List.mem_map.mp h1
    exact ⟨(fun z => by cases z), fun xs z => by cases z⟩
/-! ### rings -/
theorem rot_range (rs : List Tr) {k : Nat} : (rot k (List.range rs.length)).map (at_ rs) = rot k rs := by rw [← rot_map, range_at]
theorem best_lt {kz : List PyData} {n : Nat} (h : 0 < n) : bestK kz (n - 1) < n := by have := best_le kz (n - 1); omega
theorem nodup_apart : ∀ {rs : List Tr}, (rs.flatMap labs).Nodup → rs.Pairwise fun a b => ∀ x, x ∈ labs a → x ∈ labs b → False
  | [], _ => .nil
  | r :: rs, h => by
    rw [List.flatMap_cons] at h
    have h := List.pairwise_append.mp h
    refine List.pairwise_cons.mpr ⟨fun s hs x hx hy => h.2.2 x hx x (List.mem_flatMap.mpr ⟨s, hs, hy⟩) rfl, nodup_apart h.2.1⟩
/-- labelled: the ring begins at the least label -/
theorem ringL {rs : List Tr} (hl : ∀ r ∈ rs, labL r ≠ []) (nd : (rs.flatMap labs).Nodup) {k : Nat} (hk : k < rs.length) (least : ∀ j, j < rs.length → ¬ hdL (at_ rs j) < hdL (at_ rs k)) : Ord true .ring rs (rot k rs) := by
  refine ord_ring (Nat.le_of_lt hk) fun j hj => ?_
  by_cases e : j = k
  · rw [e]; exact dlt_self _
  · have head : ∀ {i : Nat}, i < rs.length → ∃ r, rot i rs = at_ rs i :: r := fun {i} hi => by
      unfold rot
      rw [List.drop_eq_getElem_cons hi]
      have := at_get hi
      rw [List.getElem?_eq_getElem hi] at this
      rw [Option.some.inj this]
      exact ⟨_, rfl⟩
    obtain ⟨a, ea⟩ := head hj
    obtain ⟨b, eb⟩ := head hk
    obtain ⟨_, e1⟩ := hd_cons (hl _ (at_mem hj))
    obtain ⟨_, e2⟩ := hd_cons (hl _ (at_mem hk))
    have inl : ∀ {i : Nat}, i < rs.length → hdL (at_ rs i) ∈ labs (at_ rs i) := fun {i} hi => by
      obtain ⟨_, e⟩ := hd_cons (hl _ (at_mem hi))
      refine (isN_perm _).mem_iff.mp ?_
      show _ ∈ labL (at_ rs i)
      rw [e]; exact List.mem_cons_self
    have ne : hdL (at_ rs j) ≠ hdL (at_ rs k) := fun z => by
      have pw : rs.Pairwise fun a b => ∀ x, x ∈ labs a → x ∈ labs b → False := by
        exact nodup_apart nd
      have dj : ∀ {i j : Nat}, i < j → i < rs.length → j < rs.length → hdL (at_ rs i) ≠ hdL (at_ rs j) := fun {i j} l hi hj z => by
        have p := List.pairwise_iff_getElem.mp pw i j hi hj l
        have g1 := at_get hi
        have g2 := at_get hj
        rw [List.getElem?_eq_getElem hi] at g1
        rw [List.getElem?_eq_getElem hj] at g2
        rw [Option.some.inj g1, Option.some.inj g2] at p
        exact p _ (inl hi) (by rw [z]; exact inl hj)
      rcases Nat.lt_or_gt_of_ne e with h | h
      · exact dj h hj hk z
      · exact dj h hk hj z.symm
    have lt := least j hj
    unfold plsP
    rw [ea, eb, List.map_cons, List.map_cons, PySem.W.dataLt_list]
    show PyProof.Rows.lexLt PyProof.Rows.itemOrd (keyToksAll (toP (lbD (at_ rs j)) :: _)) (keyToksAll (toP (lbD (at_ rs k)) :: _)) = false
    have al : alike (toP (lbD (at_ rs j))) (toP (lbD (at_ rs k))) = true := (pl_lb (N := 1) rs).al _ (List.mem_map.mpr ⟨_, at_mem hj, rfl⟩) _ (List.mem_map.mpr ⟨_, at_mem hk, rfl⟩)
    rw [PySem.W.dataLt_cons al]
    have ev : PyData.eqv (toP (lbD (at_ rs j))) (toP (lbD (at_ rs k))) = false := by
      cases ev : PyData.eqv (toP (lbD (at_ rs j))) (toP (lbD (at_ rs k))) with
      | false => rfl
      | true =>
        have t := (PySem.W.toks_eqv _ _ al).1 ev
        have h2 := lb_lt e2 e1
        have : dataLt (toP (lbD (at_ rs k))) (toP (lbD (at_ rs j))) = false := by
          unfold dataLt; rw [t]; exact PyProof.Rows.lex_irrefl _
        rw [this] at h2
        have := of_decide_eq_false h2.symm
        omega
    rw [ev, if_neg (by decide), lb_lt e1 e2]
    exact decide_eq_false lt
/-- unlabelled: at the least row of ranks -/
def rkT (rs : List Tr) (r : Tr) : Nat := rk (rs.map fun r => rowD (pairT r)) (rowD (pairT r))
theorem rows_nn (rs : List Tr) : Nn (rs.map fun r => rowD (pairT r)) := fun r hr => by
  obtain ⟨t, _, rfl⟩ := List.mem_map.mp hr
  exact row_nonneg _ (nest_pair t)
theorem ringU {rs : List Tr} (un : ∀ r ∈ rs, ∀ s ∈ rs, Un2 r s) {k : Nat} (hk : k < rs.length)
    (least : ∀ j, j < rs.length → dataLt (toP (.lst ((rot j rs).map fun r => D.int (rkT rs r : Nat)))) (toP (.lst ((rot k rs).map fun r => D.int (rkT rs r : Nat)))) = false) : Ord false .ring rs (rot k rs) := by
  refine ord_ring (Nat.le_of_lt hk) fun j hj => Eq.trans ?_ (least j hj)
  unfold plsP
  show dataLt (.list _) (.list _) = dataLt (.list (toPs _)) (.list (toPs _))
  rw [PySem.W.dataLt_list, PySem.W.dataLt_list, toPs_map, toPs_map, List.map_map, List.map_map]
  have mem : ∀ {i : Nat} {r : Tr}, r ∈ rot i rs → r ∈ rs := fun {i r} h => (rot_perm i rs).mem_iff.mp h
  refine lex_maps (fun r => toP (plD false r)) (toP ∘ fun r => D.int (rkT rs r : Nat)) ((rot_len j rs).trans (rot_len k rs).symm) fun x hx y hy => ?_
  have u := un x (mem hx) y (mem hy)
  have mx : rowD (pairT x) ∈ rs.map fun r => rowD (pairT r) := List.mem_map.mpr ⟨x, mem hx, rfl⟩
  have my : rowD (pairT y) ∈ rs.map fun r => rowD (pairT r) := List.mem_map.mpr ⟨y, mem hy, rfl⟩
  refine ⟨u.sk, alike_int _ _, ?_, ?_⟩
  · show PyData.eqv (toP (skD x)) (toP (skD y)) = PyData.eqv (.int (rkT rs x : Nat)) (.int (rkT rs y : Nat))
    rw [← u.row_eq, eqv_int]
    by_cases e : rowD (pairT x) = rowD (pairT y)
    · unfold rkT; rw [e]; simp
    · rw [decide_eq_false e]
      have : rkT rs x ≠ rkT rs y := fun z => e (rk_eq mx my z)
      symm
      exact beq_false_of_ne (by omega)
  · show dataLt (toP (skD x)) (toP (skD y)) = dataLt (.int (rkT rs x : Nat)) (.int (rkT rs y : Nat))
    rw [← u.row_lt, PySem.W.dataLt_int]
    apply decide_eq_decide.mpr
    have := rk_lt (rows_nn rs) mx my
    unfold rkT
    rw [← this]; omega
theorem lc_of {α : Type} {t : DG} {elt : DX} {δ : List Sl} {Q : List D → Prop} (enc g : α → D) {l : List α} (h : ∀ x ∈ l, ∀ (P : D → Prop), P (g x) → t (enc x) δ fun δ' => elt δ' P) (q : Q (l.map g)) : lcRun t tYesD elt δ Q (l.map enc) [] := by
  have go : ∀ {l : List α} {acc : List D}, (∀ x ∈ l, ∀ (P : D → Prop), P (g x) → t (enc x) δ fun δ' => elt δ' P) → Q (acc ++ l.map g) → lcRun t tYesD elt δ Q (l.map enc) acc := by
    intro l
    induction l with
    | nil => intro acc _ q; rw [List.map_nil, List.append_nil] at q; exact q
    | cons x l ih =>
      intro acc h q
      refine h x List.mem_cons_self _ ?_
      exact ih (fun y hy => h y (List.mem_cons_of_mem _ hy)) (by rw [List.append_assoc]; exact q)
  exact go h (by rw [List.nil_append]; exact q)
end DL

namespace DL
variable [Tbs]
open PySem L2
section
variable {P : Program} {w : World} {K : PySem.W.Frag} {mg : Str → Option Value} {base : Heap} {W : Ad}
/-! ### _ranks, _set_places, _ring_places -/
def r__ranks (ds : List D) (d : D) : Prop := ∃ rows : List (List Int), ds = [.lst (rows.map LI)] ∧ rows.length ≤ 100000 ∧ d = .lst (natsD (rows.map (rk rows)))
theorem ok__ranks (T : Tx K mg W) (Dd : Df K mg "_ranks" s__ranks ["rows"]) : Cal P w K mg base CX0 1 "_ranks" ["rows"] (spW K (relR r__ranks)) := by
  refine cal_ok Dd sc__ranks (fun ds Q h => ?_) (fun f cdv A outer s H E hr => 
  (ss_cons (s_set (i := 1) sc__ranks.nd rfl (.inr rfl) (f_callB (c_sortedDat (N := 64) (huS hr (by decide))) T.n_sorted (b_cons (qv 0) b_nil)).p)
  (ss_one (s_ret (f_lc sc__ranks.nd (i_listQ (qv 0)) (blkOk_by (own := [("row", 2)]) (N := ["rows", "ordered", "row"]) (sc := defScope s__ranks) (by decide +kernel)) (fun _ _ _ _ _ => (g_name (i := 2) sc__ranks.nd rfl (.inl rfl))) (fun _ _ _ _ _ => ts_nil) (fun _ _ _ _ _ => (d_lidx (qv 1) (qv 2) (hu65 hr)))).p)))) (fun ds Q h => ?_)

  · obtain ⟨d, ⟨rows, rfl, _⟩, _⟩ := h; rfl
  · obtain ⟨d, ⟨rows, rfl, hl, rfl⟩, q⟩ := h
    refine ⟨ord_LI (by decide) rows, ?_⟩
    rw [srt_LI]
    refine lc_of LI (fun r => .int (rk rows r : Nat)) (fun r hr P k => idx_row hr k) ?_
    unfold natsD at q
    rw [List.map_map] at q
    exact q
def r__set_places : Rf := fun ds Q => ∃ (lab : Bool) (rs : List Tr), ds = [.lst (rs.map pairT)] ∧ Plc lab rs ∧ ∀ ps : List Nat, (∀ p ∈ ps, p < rs.length) → Ord lab .set rs (ps.map (at_ rs)) → Q (.lst (natsD ps))
theorem mono__set_places : MonoR r__set_places := fun ds Q Q' i ⟨lab, rs, a, b, q⟩ => ⟨lab, rs, a, b, fun ps h o => i _ (q ps h o)⟩
def r__ring_places : Rf := fun ds Q => ∃ (lab : Bool) (rs : List Tr), ds = [.lst (rs.map pairT)] ∧ Plc lab rs ∧ ∀ ps : List Nat, (∀ p ∈ ps, p < rs.length) → Ord lab .ring rs (ps.map (at_ rs)) → Q (.lst (natsD ps))
theorem mono__ring_places : MonoR r__ring_places := fun ds Q Q' i ⟨lab, rs, a, b, q⟩ => ⟨lab, rs, a, b, fun ps h o => i _ (q ps h o)⟩
theorem ix_pair {rs : List Tr} {p : Nat} (h : p < rs.length) (f : Tr → D) : ixD (rs.map f) (p : Nat) = some (f (at_ rs p)) := by
  have := ix_nat (l := rs.map f) (k := p) (by rw [List.length_map]; exact h)
  rw [Int.zero_add, getD_map h] at this
  exact this
theorem ok__set_places (T : Tx K mg W) (Dd : DfC K mg "_set_places" s__set_places ["pairs"] W.k_set_places) (LM : LamD mg base W.k_set_places W.t_set_places "_set_places.<locals>.<lambda>") (C__are_labelled : Cal P w K mg base CX0 1 "_are_labelled" ["pairs"] (spW K (relR r__are_labelled))) (C_flat : Cal P w K mg base CX0 1 "flat" ["nested"] (spW K (relR r_flat))) : Cal P w K mg base CX0 6 "_set_places" ["pairs"] (spW K r__set_places) := by
  refine cal_okC Dd sc__set_places (fun ds Q h => ?_) (fun f A outer s H E hr => 
  (ss_cons (s_set (i := 1) sc__set_places.nd rfl (.inl rfl) (f_listRg T.n_list (r_1 T.n_range (d_callB (c_len) T.n_len (b_cons (qv 0) b_nil)).q)).p)
  (ss_cons (s_if (t_cmp o_lt (d_callB (c_len) T.n_len (b_cons (qv 0) b_nil)).q d_int.q) (
    (ss_one (s_ret (dv 1)))) (ss_nil))
  (ss_cons (s_if (t_val (d_call C__are_labelled relR_mono (hr.mono (by decide)) (a_cons (dv 0) a_nil)).q) (
    (ss_one (s_ret (f_sortedKey (N := 64) (k := 1) (Nl := ["place", "pairs"]) (fr := ["pairs"]) (px := "place") (js := [0]) (huS hr (by decide)) T.n_sorted (qv 1) LM.TB LM.hm LM.hu (hr.mono (by decide)) (fun _ _ _ _ _ _ _ hr2 => (d_ix (d_ix (d_ix (d_ix (qv 1) (qv 0)).q d_int.q).q d_int.q).q d_int.q)) (NdefX.nscope_by (by decide +kernel)) (show ∀ y : Str × NameKind, y ∈ _ → y.2 = NameKind.free → (defScope s__set_places).names.lookup y.1 = some .cell ∨ (defScope s__set_places).names.lookup y.1 = some .free by decide +kernel) (by decide +kernel) rfl (fun _ _ _ _ _ _ => rfl)).p))) (ss_nil))
  (ss_cons (s_set (i := 2) sc__set_places.nd rfl (.inr rfl) (f_lc sc__set_places.nd (i_listQ (qv 0)) (blkOk_by (own := [("pair", 3)]) (N := ["pairs", "places", "rows", "pair"]) (sc := defScope s__set_places) (by decide +kernel)) (fun _ _ _ _ _ => (g_name (i := 3) sc__set_places.nd rfl (.inl rfl))) (fun _ _ _ _ _ => ts_nil) (fun _ _ _ _ _ => (d_call C_flat relR_mono (hr.mono (by decide)) (a_cons (dv 3) a_nil)))).p)
  (ss_one (s_ret (f_sortedKey (N := 64) (k := 1) (Nl := ["place", "rows"]) (fr := ["rows"]) (px := "place") (js := [2]) (huS hr (by decide)) T.n_sorted (qv 1) LM.TB LM.hm LM.hu (hr.mono (by decide)) (fun _ _ _ _ _ _ _ hr2 => (d_ix (qv 1) (qv 0))) (NdefX.nscope_by (by decide +kernel)) (show ∀ y : Str × NameKind, y ∈ _ → y.2 = NameKind.free → (defScope s__set_places).names.lookup y.1 = some .cell ∨ (defScope s__set_places).names.lookup y.1 = some .free by decide +kernel) (by decide +kernel) rfl (fun _ _ _ _ _ _ => rfl)).p))))))) (fun ds Q h => ?_)

  · obtain ⟨lab, rs, rfl, _⟩ := h; rfl
  · obtain ⟨lab, rs, rfl, pc, q⟩ := h
    have few := pc.few
    have ln : (rs.map pairT).length = rs.length := List.length_map _
    refine ⟨rgb (by decide) (by decide) (by rw [ln]; omega) (by rw [ln]; omega) (by rw [ln]; omega), ?_⟩
    rw [ln, rg_nats]
    show ite (decide ((((rs.map pairT).length : Nat) : Int) < 2) = true) _ _
    rw [ln]
    refine yD (fun c => ?_) (fun c => ?_)
    · exact q _ (fun p hp => List.mem_range.mp hp) (small_ord (by omega))
    · have h1 : 1 < rs.length := by omega
      obtain ⟨r0, rest, er⟩ : ∃ r0 rest, rs = r0 :: rest := by
        cases rs with
        | nil => simp at h1
        | cons a b => exact ⟨a, b, rfl⟩
      refine ⟨_, ⟨r0, rest, by rw [er], pc.sz r0 (by rw [er]; exact List.mem_cons_self), rfl⟩, ?_⟩
      cases lab with
      | true =>
        have hl := pc.lb rfl h1
        have h0 : decide (0 < (labL r0).length) = true := decide_eq_true (List.length_pos_iff.mpr (hl r0 (by rw [er]; exact List.mem_cons_self)))
        refine yT h0 ?_
        refine ⟨fun d => kkL (pkT rs d), fun y hy Q' k => ?_, ?_, ?_⟩
        · obtain ⟨p, hp, rfl⟩ := List.mem_map.mp hy
          have hp := List.mem_range.mp hp
          obtain ⟨l, el⟩ := hd_cons (hl _ (at_mem hp))
          refine onSome_of (ix_pair hp pairT) ?_
          refine onSome_of (x := .int (hdL (at_ rs p) : Nat)) ?_ k
          rw [el]; rfl
        · have : (natsD (List.range rs.length)).map (fun d => kkL (pkT rs d)) = ((natsD (List.range rs.length)).map fun d => ((hdL (pkT rs d) : Nat) : Int)).map D.int := by rw [List.map_map]; rfl
          rw [this]; exact ord_ints _
        · rw [srtP_nats kkL rs]
          exact q _ (fun p hp => srtP_lt hp) (srtP_ord fun r hr s hs l => leL (hl r hr) (hl s hs) l)
      | false =>
        have un := pc.un rfl
        have h0 : decide (0 < (labL r0).length) = false := decide_eq_false (by rw [(un r0 (by rw [er]; exact List.mem_cons_self) r0 (by rw [er]; exact List.mem_cons_self)).lr]; simp)
        refine yF h0 ?_
        refine lc_of pairT kkU (fun r hr P k => ⟨_, ⟨pairT r, rfl, nest_pair r, pc.row r hr, rfl⟩, k⟩) ?_
        refine ⟨fun d => kkU (pkT rs d), fun y hy Q' k => ?_, ?_, ?_⟩
        · obtain ⟨p, hp, rfl⟩ := List.mem_map.mp hy
          have hp := List.mem_range.mp hp
          exact onSome_of (ix_pair hp kkU) k
        · have : (natsD (List.range rs.length)).map (fun d => kkU (pkT rs d)) = ((natsD (List.range rs.length)).map fun d => rowD (pairT (pkT rs d))).map LI := by rw [List.map_map]; rfl
          rw [this]; exact ord_LI (by decide) _
        · rw [srtP_nats kkU rs]
          exact q _ (fun p hp => srtP_lt hp) (srtP_ord fun r hr s hs l => leU (un s hs r hr) l)
theorem ok__ring_places (T : Tx K mg W) (Dd : DfC K mg "_ring_places" s__ring_places ["pairs"] W.k_ring_places) (LM : LamD mg base W.k_ring_places W.t_ring_places "_ring_places.<locals>.<lambda>") (C__are_labelled : Cal P w K mg base CX0 1 "_are_labelled" ["pairs"] (spW K (relR r__are_labelled))) (C__ranks : Cal P w K mg base CX0 1 "_ranks" ["rows"] (spW K (relR r__ranks))) (C_flat : Cal P w K mg base CX0 1 "flat" ["nested"] (spW K (relR r_flat))) : Cal P w K mg base CX0 6 "_ring_places" ["pairs"] (spW K r__ring_places) := by
  refine cal_okC Dd sc__ring_places (fun ds Q h => ?_) (fun f A outer s H E hr => 
  (ss_cons (s_set (i := 1) sc__ring_places.nd rfl (.inl rfl) (f_listRg T.n_list (r_1 T.n_range (d_callB (c_len) T.n_len (b_cons (qv 0) b_nil)).q)).p)
  (ss_cons (s_if (t_cmp o_lt (d_callB (c_len) T.n_len (b_cons (qv 0) b_nil)).q d_int.q) (
    (ss_one (s_ret (dv 1)))) (ss_nil))
  (ss_cons (s_if (t_val (d_call C__are_labelled relR_mono (hr.mono (by decide)) (a_cons (dv 0) a_nil)).q) (
    (ss_one (s_set (i := 2) sc__ring_places.nd rfl (.inl rfl) (d_minKey (N := 64) (k := 1) (Nl := ["place", "pairs"]) (fr := ["pairs"]) (px := "place") (js := [0]) (huS hr (by decide)) T.n_min (qv 1) LM.TB LM.hm LM.hu (hr.mono (by decide)) (fun _ _ _ _ _ _ _ hr2 => (d_ix (d_ix (d_ix (d_ix (qv 1) (qv 0)).q d_int.q).q d_int.q).q d_int.q)) (NdefX.nscope_by (by decide +kernel)) (show ∀ y : Str × NameKind, y ∈ _ → y.2 = NameKind.free → (defScope s__ring_places).names.lookup y.1 = some .cell ∨ (defScope s__ring_places).names.lookup y.1 = some .free by decide +kernel) (by decide +kernel) rfl (fun _ _ _ _ _ _ => rfl))))) (
    (ss_cons (s_set (i := 3) sc__ring_places.nd rfl (.inr rfl) (d_call C__ranks relR_mono (hr.mono (by decide)) (a_cons (f_lc sc__ring_places.nd (i_listQ (qv 0)) (blkOk_by (own := [("pair", 4)]) (N := ["pairs", "places", "first", "ranks", "pair"]) (sc := defScope s__ring_places) (by decide +kernel)) (fun _ _ _ _ _ => (g_name (i := 4) sc__ring_places.nd rfl (.inl rfl))) (fun _ _ _ _ _ => ts_nil) (fun _ _ _ _ _ => (d_call C_flat relR_mono (hr.mono (by decide)) (a_cons (dv 4) a_nil)))).p a_nil)))
    (ss_one (s_set (i := 2) sc__ring_places.nd rfl (.inl rfl) (d_minKey (N := 64) (k := 1) (Nl := ["place", "ranks"]) (fr := ["ranks"]) (px := "place") (js := [3]) (huS hr (by decide)) T.n_min (qv 1) LM.TB LM.hm LM.hu (hr.mono (by decide)) (fun _ _ _ _ _ _ _ hr2 => (d_op (o_add) (d_slice (qv 1) (o_some (qv 0)) o_none).q (d_slice (qv 1) o_none (o_some (qv 0))).q)) (NdefX.nscope_by (by decide +kernel)) (show ∀ y : Str × NameKind, y ∈ _ → y.2 = NameKind.free → (defScope s__ring_places).names.lookup y.1 = some .cell ∨ (defScope s__ring_places).names.lookup y.1 = some .free by decide +kernel) (by decide +kernel) rfl (fun _ _ _ _ _ _ => rfl)))))))
  (ss_one (s_ret (d_op (o_add) (d_slice (qv 1) (o_some (qv 2)) o_none).q (d_slice (qv 1) o_none (o_some (qv 2))).q))))))) (fun ds Q h => ?_)

  · obtain ⟨lab, rs, rfl, _⟩ := h; rfl
  · obtain ⟨lab, rs, rfl, pc, q⟩ := h
    have few := pc.few
    have ln : (rs.map pairT).length = rs.length := List.length_map _
    refine ⟨rgb (by decide) (by decide) (by rw [ln]; omega) (by rw [ln]; omega) (by rw [ln]; omega), ?_⟩
    rw [ln, rg_nats]
    show ite (decide ((((rs.map pairT).length : Nat) : Int) < 2) = true) _ _
    rw [ln]
    refine yD (fun c => ?_) (fun c => ?_)
    · exact q _ (fun p hp => List.mem_range.mp hp) (small_ord (by omega))
    · have h1 : 1 < rs.length := by omega
      obtain ⟨r0, rest, er⟩ : ∃ r0 rest, rs = r0 :: rest := by
        cases rs with
        | nil => simp at h1
        | cons a b => exact ⟨a, b, rfl⟩
      have rne : natsD (List.range rs.length) ≠ [] := fun z => by
        have := congrArg List.length z
        rw [natsD_len, List.length_range] at this
        have : rs.length = 0 := this
        omega
      have best : ∀ kz : List PyData, (natsD (List.range rs.length)).getD (bestK kz ((natsD (List.range rs.length)).length - 1)) .non = .int (bestK kz (rs.length - 1) : Nat) := fun kz => by
        have lt := best_lt (kz := kz) (n := rs.length) (by omega)
        rw [natsD_len, List.length_range, List.getD_eq_getElem?_getD, natsD_get (List.getElem?_range lt)]; rfl
      have fin : ∀ k, k < rs.length → Ord lab .ring rs (rot k rs) → Q (.lst (natsD (rot k (List.range rs.length)))) := fun k hk o => q _ (fun p hp => List.mem_range.mp ((rot_perm k _).mem_iff.mp hp)) (by rw [rot_range]; exact o)
      have cut : ∀ k, k < rs.length → Q (.lst (cutD (natsD (List.range rs.length)) (some (k : Nat)) none ++ cutD (natsD (List.range rs.length)) none (some (k : Nat)))) = Q (.lst (natsD (rot k (List.range rs.length)))) := fun k hk => by
        have hk : k ≤ (natsD (List.range rs.length)).length := by rw [natsD_len, List.length_range]; omega
        rw [cut_drop _ hk, cut_take _ hk]
        show Q (.lst (rot k ((List.range rs.length).map fun (n : Nat) => D.int (n : Int)))) = _
        rw [rot_map]; rfl
      have cutL : ∀ k : Nat, (cutD (natsD (List.range rs.length)) (some (k : Int)) none).length + (cutD (natsD (List.range rs.length)) none (some (k : Int))).length ≤ 1000000 := fun k => by
        have a1 := cutD_len (natsD (List.range rs.length)) (some (k : Int)) none
        have a2 := cutD_len (natsD (List.range rs.length)) none (some (k : Int))
        rw [natsD_len, List.length_range] at a1 a2
        omega
      refine ⟨_, ⟨r0, rest, by rw [er], pc.sz r0 (by rw [er]; exact List.mem_cons_self), rfl⟩, ?_⟩
      cases lab with
      | true =>
        have hl := pc.lb rfl h1
        have h0 : decide (0 < (labL r0).length) = true := decide_eq_true (List.length_pos_iff.mpr (hl r0 (by rw [er]; exact List.mem_cons_self)))
        refine yT h0 ?_
        refine ⟨fun d => kkL (pkT rs d), fun y hy Q' k => ?_, ?_, rne, ?_⟩
        · obtain ⟨p, hp, rfl⟩ := List.mem_map.mp hy
          have hp := List.mem_range.mp hp
          obtain ⟨l, el⟩ := hd_cons (hl _ (at_mem hp))
          refine onSome_of (ix_pair hp pairT) ?_
          refine onSome_of (x := .int (hdL (at_ rs p) : Nat)) ?_ k
          rw [el]; rfl
        · have : (natsD (List.range rs.length)).map (fun d => kkL (pkT rs d)) = ((natsD (List.range rs.length)).map fun d => ((hdL (pkT rs d) : Nat) : Int)).map D.int := by rw [List.map_map]; rfl
          rw [this]; exact ord_ints _
        · rw [best]
          have hk := best_lt (kz := ((natsD (List.range rs.length)).map fun d => kkL (pkT rs d)).map toP) (n := rs.length) (by omega)
          have bl := best_least (((natsD (List.range rs.length)).map fun d => kkL (pkT rs d)).map toP) (rs.length - 1)
          generalize bestK (((natsD (List.range rs.length)).map fun d => kkL (pkT rs d)).map toP) (rs.length - 1) = k at hk bl ⊢
          have kz : ∀ i, i < rs.length → (((natsD (List.range rs.length)).map fun d => kkL (pkT rs d)).map toP).getD i .none = .int (hdL (at_ rs i) : Nat) := fun i hi => by
            rw [List.getD_eq_getElem?_getD, List.getElem?_map, List.getElem?_map, natsD_get (List.getElem?_range hi)]; rfl
          refine ⟨le_lim (cutL k), ?_⟩
          refine (cut k hk).mpr (fin k hk (ringL hl (pc.dis rfl) hk fun j hj => ?_))
          have := bl j (by omega)
          rw [kz j hj, kz k hk, PySem.W.dataLt_int] at this
          have := of_decide_eq_false this
          omega
      | false =>
        have un := pc.un rfl
        have h0 : decide (0 < (labL r0).length) = false := decide_eq_false (by rw [(un r0 (by rw [er]; exact List.mem_cons_self) r0 (by rw [er]; exact List.mem_cons_self)).lr]; simp)
        refine yF h0 ?_
        refine lc_of pairT kkU (fun r hr P k => ⟨_, ⟨pairT r, rfl, nest_pair r, pc.row r hr, rfl⟩, k⟩) ?_
        have erk : natsD ((rs.map fun r => rowD (pairT r)).map (rk (rs.map fun r => rowD (pairT r)))) = rs.map fun r => D.int (rkT rs r : Nat) := by
          unfold natsD
          rw [List.map_map, List.map_map]; rfl
        refine ⟨_, ⟨rs.map fun r => rowD (pairT r), by rw [List.map_map]; rfl, by rw [List.length_map]; omega, rfl⟩, ?_⟩
        rw [erk]
        have lrk : (rs.map fun r => D.int (rkT rs r : Nat)).length = rs.length := List.length_map _
        refine ⟨fun d => .lst ((rot (match d with | .int i => i.toNat | _ => 0) rs).map fun r => D.int (rkT rs r : Nat)), fun y hy Q' k => ?_, ?_, rne, ?_⟩
        · obtain ⟨p, hp, rfl⟩ := List.mem_map.mp hy
          have hp := List.mem_range.mp hp
          have e : (cutD (rs.map fun r => D.int (rkT rs r : Nat)) (some (p : Int)) none ++ cutD (rs.map fun r => D.int (rkT rs r : Nat)) none (some (p : Int))) = (rot p rs).map fun r => D.int (rkT rs r : Nat) := by
            rw [cut_drop _ (by rw [lrk]; omega), cut_take _ (by rw [lrk]; omega), ← rot_map]; rfl
          refine ⟨le_lim ?_, ?_⟩
          · have a1 := cutD_len (rs.map fun r => D.int (rkT rs r : Nat)) (some (p : Int)) none
            have a2 := cutD_len (rs.map fun r => D.int (rkT rs r : Nat)) none (some (p : Int))
            rw [lrk] at a1 a2
            omega
          · show Q' (.lst (cutD (rs.map fun r => D.int (rkT rs r : Nat)) (some (p : Int)) none ++ cutD (rs.map fun r => D.int (rkT rs r : Nat)) none (some (p : Int))))
            rw [e]
            exact k
        · have : (natsD (List.range rs.length)).map (fun d => D.lst ((rot (match d with | .int i => i.toNat | _ => 0) rs).map fun r => D.int (rkT rs r : Nat))) = ((natsD (List.range rs.length)).map fun d => (rot (match d with | .int i => i.toNat | _ => 0) rs).map fun r => ((rkT rs r : Nat) : Int)).map LI := by
            rw [List.map_map]
            refine List.map_congr_left fun d _ => ?_
            show D.lst _ = D.lst (List.map D.int (List.map _ _))
            rw [List.map_map]; rfl
          rw [this]; exact ord_LI (by decide) _
        · rw [best]
          have bl := best_least (((natsD (List.range rs.length)).map fun d => D.lst ((rot (match d with | .int i => i.toNat | _ => 0) rs).map fun r => D.int (rkT rs r : Nat))).map toP) (rs.length - 1)
          have hk := best_lt (kz := ((natsD (List.range rs.length)).map fun d => D.lst ((rot (match d with | .int i => i.toNat | _ => 0) rs).map fun r => D.int (rkT rs r : Nat))).map toP) (n := rs.length) (by omega)
          have kz : ∀ i, i < rs.length → (((natsD (List.range rs.length)).map fun d => D.lst ((rot (match d with | .int i => i.toNat | _ => 0) rs).map fun r => D.int (rkT rs r : Nat))).map toP).getD i .none = toP (.lst ((rot i rs).map fun r => D.int (rkT rs r : Nat))) := fun i hi => by
            rw [List.getD_eq_getElem?_getD, List.getElem?_map, List.getElem?_map, natsD_get (List.getElem?_range hi)]; rfl
          generalize bestK (((natsD (List.range rs.length)).map fun d => D.lst ((rot (match d with | .int i => i.toNat | _ => 0) rs).map fun r => D.int (rkT rs r : Nat))).map toP) (rs.length - 1) = k at hk bl ⊢
          refine ⟨le_lim (cutL k), ?_⟩
          refine (cut k hk).mpr (fin k hk (ringU un hk fun j hj => ?_))
          have := bl j (by omega)
          rw [kz j hj, kz k hk] at this
          exact this
end
end DL

namespace DL
variable [Tbs]
open PySem L2
section
variable {P : Program} {w : World} {K : PySem.W.Frag} {mg : Str → Option Value} {base : Heap} {W : Ad}
/-! ### _formed -/
theorem nf_parts {lab : Bool} {w : Wd} {ps rs qs : List Tr} (h : All2 (NF lab) ps rs) (o : Ord lab w rs qs) : NF lab (.node w ps) (.node w qs) := .node h.len (all2_get h) o
def tailF : DS := gSeq (gSet 3 (ofF (fLc (sL (qV 2)) (gN 4) tYesD (dOp oIx (dOp oIx (qV 1) (qV 4)) (dC (.int 0))) [4]))) (gRet (dTup (dArgs [dCall (relR r_with_parts) [dV 0, dV 3], dCall (relR r__pair_of) [dV 0, ofF (fLc (sL (qV 2)) (gN 4) tYesD (dOp oIx (dOp oIx (qV 1) (qV 4)) (dC (.int 1))) [4])]])))
theorem tail_ok {Q : D → Prop} {t n : Tr} {rs : List Tr} {pl : List Nat} {x3 x4 x5 x6 : Sl} (hp : ∀ p ∈ pl, p < rs.length) (hl : pl.length ≤ 5000) (en : (∃ w ps, t = .node w ps ∧ n = .node w (pl.map (at_ rs)) ∧ arity w ps.length = true ∧ arity w pl.length = true) ∨ ∃ l, t = .atom l ∧ n = .atom l ∧ pl = [])
    (wf : wfT n = true) (sz : sizeT n ≤ 100000) (q : Q (resD n)) : tailF (endR Q) [.d (encT t), .d (.lst (rs.map resD)), .d (.lst (natsD pl)), x3, x4, x5, x6] := by
  refine lc_of (fun n : Nat => D.int (n : Int)) (fun n => encT (at_ rs n)) (fun p h P k => onSome_of (ix_pair (hp p h) resD) k) ?_
  have e1 : (pl.map fun n => encT (at_ rs n)) = (pl.map (at_ rs)).map encT := by rw [List.map_map]; rfl
  have e2 : (pl.map fun n => pairT (at_ rs n)) = (pl.map (at_ rs)).map pairT := by rw [List.map_map]; rfl
  rcases en with ⟨w, ps, rfl, rfl, h1, h2⟩ | ⟨l, rfl, rfl, rfl⟩
  · refine ⟨encT (.node w (pl.map (at_ rs))), .inl ⟨w, ps, pl.map (at_ rs), by rw [e1], h1, by rw [List.length_map]; exact h2, by rw [List.length_map]; omega, rfl⟩, ?_⟩
    refine lc_of (fun n : Nat => D.int (n : Int)) (fun n => pairT (at_ rs n)) (fun p h P k => onSome_of (ix_pair (hp p h) resD) k) ?_
    exact ⟨_, ⟨.node w ps, .node w (pl.map (at_ rs)), by rw [e2]; rfl, rfl, wf, sz, rfl⟩, q⟩
  · exact ⟨_, .inr ⟨l, rfl, rfl⟩, _, ⟨.atom l, .atom l, rfl, rfl, wf, sz, rfl⟩, q⟩
theorem plc_of {sp : Sp'} (hv : valid sp = true) {lab : Bool} {w : Wd} {ps rs : List Tr} (ask : Asked sp lab (.node w ps)) (hw : w.mem = true) (a2 : All2 (NF lab) ps rs) : Plc lab rs := by
  obtain ⟨e, ok, hf⟩ := ask.f
  obtain ⟨e', mb⟩ := form_memb hv hf ok rfl hw
  have ln := a2.len
  have fd : Fmd ps rs := ⟨ln, fun i p r e1 e2 => nf_rea (all2_get a2 i p r e1 e2)⟩
  have lrs : ∀ r ∈ rs, Lb lab r := fun r hr => by
    obtain ⟨p, hp, h⟩ := fd.of hr
    exact lb_rea h (lb_parts ask.l p hp)
  have sub : ∀ r ∈ rs, sizeT r ≤ 60 ∧ nodes r ≤ 5000 := fun r hr => by
    obtain ⟨p, hp, h⟩ := fd.of hr
    have a := ask.part hv hp
    have rr := rea_s h
    exact ⟨by rw [rr.s]; exact a.s, by rw [rr.n]; exact a.n⟩
  have big : 1 < rs.length → ∀ r ∈ rs, 1 ≤ sizeT r := fun h1 r hr => by
    obtain ⟨p, hp, h⟩ := fd.of hr
    rw [(rea_s h).s]
    exact mb.big (by omega) p hp
  refine ⟨by have := mb.few; omega, fun r hr => ?_, fun r hr => Nat.le_trans (sub r hr).1 (by decide), fun hl r hr s hs => ?_, fun hl h1 r hr e => ?_, fun hl => ?_⟩
  · have h1 := (row_key (S := 60) r (sub r hr).1).2
    have h2 := (sub r hr).2
    omega
  · subst hl
    have nil : ∀ r ∈ rs, labs r = [] := fun r hr => lrs r hr
    obtain ⟨p, hp, h⟩ := fd.of hr
    obtain ⟨p2, hp2, h2⟩ := fd.of hs
    exact ⟨by unfold labL; rw [nil r hr]; rfl, by unfold labL; rw [nil s hs]; rfl, key_alike hv (rea_form (mb.f p hp) h) mb.ok (rea_form (mb.f p2 hp2) h2) (nil r hr) (nil s hs)⟩
  · subst hl
    have a1 := (isN_perm (labs r)).length_eq
    have a2 : (labs r).Nodup ∧ (labs r).length = sizeT r := lrs r hr
    have a4 := big h1 r hr
    have a5 : (isN (labs r)).length = 0 := by show (labL r).length = 0; rw [e]; rfl
    omega
  · subst hl
    have r1 : Rea (.node w ps) (.node w rs) := .node ln fd.r (.inl rfl)
    have := (lb_rea r1 ask.l)
    have : (labs (.node w rs)).Nodup ∧ _ := this
    rw [labs_node] at this
    exact this.1
theorem ok__formed (T : Tx K mg W) (Dd : Df K mg "_formed" s__formed ["part", "results"]) (C__set_places : Cal P w K mg base CX0 6 "_set_places" ["pairs"] (spW K r__set_places)) (C_with_parts : Cal P w K mg base CX0 1 "with_parts" ["structure", "parts"] (spW K (relR r_with_parts))) (C__pair_of : Cal P w K mg base CX0 2 "_pair_of" ["part", "pairs"] (spW K (relR r__pair_of))) (C__ring_places : Cal P w K mg base CX0 6 "_ring_places" ["pairs"] (spW K r__ring_places)) : Cal P w K mg base CX0 7 "_formed" ["part", "results"] (spW K r__formed) := by
  refine cal_ok Dd sc__formed (fun ds Q h => ?_) (fun f cdv A outer s H E hr => 
  (ss_cons (s_set (i := 2) sc__formed.nd rfl (.inl rfl) (f_listRg T.n_list (r_1 T.n_range (d_callB (c_len) T.n_len (b_cons (qv 1) b_nil)).q)).p)
  (ss_cons (s_if (t_cmp (o_eq (hu64 hr)) (d_ix (qv 0) d_int.q).q d_str.q) (
    (ss_one (s_set (i := 2) sc__formed.nd rfl (.inl rfl) (d_call C__set_places mono__set_places (hr.mono (by decide)) (a_cons (f_lc sc__formed.nd (i_listQ (qv 1)) (blkOk_by (own := [("_", 5), ("pair", 6)]) (N := ["part", "results", "places", "parts", "place", "_", "pair"]) (sc := defScope s__formed) (by decide +kernel)) (fun _ _ _ _ _ => (g_tup (gs_cons (g_name (i := 5) sc__formed.nd rfl (.inl rfl)) (gs_cons (g_name (i := 6) sc__formed.nd rfl (.inl rfl)) gs_nil)))) (fun _ _ _ _ _ => ts_nil) (fun _ _ _ _ _ => (dv 6))).p a_nil))))) (
    (ss_one (s_if (t_cmp (o_eq (hu64 hr)) (d_ix (qv 0) d_int.q).q d_str.q) (
      (ss_one (s_set (i := 2) sc__formed.nd rfl (.inl rfl) (d_call C__ring_places mono__ring_places (hr.mono (by decide)) (a_cons (f_lc sc__formed.nd (i_listQ (qv 1)) (blkOk_by (own := [("_", 5), ("pair", 6)]) (N := ["part", "results", "places", "parts", "place", "_", "pair"]) (sc := defScope s__formed) (by decide +kernel)) (fun _ _ _ _ _ => (g_tup (gs_cons (g_name (i := 5) sc__formed.nd rfl (.inl rfl)) (gs_cons (g_name (i := 6) sc__formed.nd rfl (.inl rfl)) gs_nil)))) (fun _ _ _ _ _ => ts_nil) (fun _ _ _ _ _ => (dv 6))).p a_nil))))) (ss_nil)))))
  (ss_cons (s_setLc (i := 3) sc__formed.nd rfl (i_listQ (qv 2)) (blkOk_by (own := [("place", 4)]) (N := ["part", "results", "places", "parts", "place", "_", "pair"]) (sc := defScope s__formed) (by decide +kernel)) (fun _ _ _ _ _ => (g_name (i := 4) sc__formed.nd rfl (.inl rfl))) (fun _ _ _ _ _ => ts_nil) (fun _ _ _ _ _ => (d_ix (d_ix (qv 1) (qv 4)).q d_int.q)))
  (ss_one (s_ret (d_tup (a_cons (d_call C_with_parts relR_mono (hr.mono (by decide)) (a_cons (dv 0) (a_cons (dv 3) a_nil))) (a_cons (d_call C__pair_of relR_mono (hr.mono (by decide)) (a_cons (dv 0) (a_cons (f_lc sc__formed.nd (i_listQ (qv 2)) (blkOk_by (own := [("place", 4)]) (N := ["part", "results", "places", "parts", "place", "_", "pair"]) (sc := defScope s__formed) (by decide +kernel)) (fun _ _ _ _ _ => (g_name (i := 4) sc__formed.nd rfl (.inl rfl))) (fun _ _ _ _ _ => ts_nil) (fun _ _ _ _ _ => (d_ix (d_ix (qv 1) (qv 4)).q d_int.q))).p a_nil))) a_nil))))))))) (fun ds Q h => ?_)

  · obtain ⟨sp, lab, t, rs, rfl, _⟩ := h; rfl
  · obtain ⟨sp, lab, t, rs, rfl, hv, ask, a2, q⟩ := h
    have ln : (rs.map resD).length = rs.length := List.length_map _
    have lp := a2.len
    have lk : rs.length ≤ 5000 := by
      rw [← lp]
      cases t with
      | atom l => exact Nat.zero_le _
      | node w ps => have := len_nodes ps; have := ask.n; rw [nodes_node] at this; show ps.length ≤ _; omega
    refine ⟨rgb (by decide) (by decide) (by rw [ln]; omega) (by rw [ln]; omega) (by rw [ln]; omega), ?_⟩
    rw [ln, rg_nats]
    refine ix0 t ?_
    cases t with
    | atom l =>
      cases a2
      show oEq (.str "atom") (.str "set") _
      refine oEqS (a := "atom") (b := "set") (r := false) (by decide +kernel) (by decide +kernel) (by decide +kernel) ?_
      refine ix0 (.atom l) ?_
      show oEq (.str "atom") (.str "ring") _
      refine oEqS (a := "atom") (b := "ring") (r := false) (by decide +kernel) (by decide +kernel) (by decide +kernel) ?_
      exact tail_ok (t := .atom l) (n := .atom l) (rs := []) (pl := []) (fun p h => by cases h) (by decide) (.inr ⟨l, rfl, rfl, rfl⟩) rfl (by rw [sizeT]; decide) (q _ (.atom l))
    | node w ps =>
      have wf := ask.wf hv
      have ar := (wf_node.mp wf).1
      have fd : Fmd ps rs := ⟨lp, fun i p r e1 e2 => nf_rea (all2_get a2 i p r e1 e2)⟩
      have fin : ∀ pl : List Nat, (∀ p ∈ pl, p < rs.length) → Ord lab w rs (pl.map (at_ rs)) → pl.length = rs.length ∧ wfT (.node w (pl.map (at_ rs))) = true ∧ sizeT (.node w (pl.map (at_ rs))) ≤ 100000 ∧ Q (resD (.node w (pl.map (at_ rs)))) := fun pl hp o => by
        have nf := nf_parts a2 o
        have rr := rea_s (nf_rea nf)
        have lq := (perm_of (ord_rea o)).length_eq
        rw [List.length_map] at lq
        obtain ⟨e, ok, f⟩ := ask.f
        exact ⟨lq, (form_fx hv (rea_form f (nf_rea nf)) ok).wf, by rw [rr.s]; exact Nat.le_trans ask.s (by decide), q _ nf⟩
      cases w with
      | set =>
        show oEq (.str "set") (.str "set") _
        refine oEqS (a := "set") (b := "set") (r := true) (by decide +kernel) (by decide +kernel) (by decide +kernel) ?_
        refine lc_of resD pairT (fun r hr P k => k) ?_
        refine ⟨lab, rs, rfl, plc_of hv ask rfl a2, fun pl hp o => ?_⟩
        obtain ⟨lq, wf', sz, k⟩ := fin pl hp o
        exact tail_ok hp (by omega) (.inl ⟨_, ps, rfl, rfl, ar, by rw [lq, ← lp]; exact ar⟩) wf' sz k
      | ring =>
        show oEq (.str "ring") (.str "set") _
        refine oEqS (a := "ring") (b := "set") (r := false) (by decide +kernel) (by decide +kernel) (by decide +kernel) ?_
        show oEq (.str "ring") (.str "ring") _
        refine oEqS (a := "ring") (b := "ring") (r := true) (by decide +kernel) (by decide +kernel) (by decide +kernel) ?_
        refine lc_of resD pairT (fun r hr P k => k) ?_
        refine ⟨lab, rs, rfl, plc_of hv ask rfl a2, fun pl hp o => ?_⟩
        obtain ⟨lq, wf', sz, k⟩ := fin pl hp o
        exact tail_ok hp (by omega) (.inl ⟨_, ps, rfl, rfl, ar, by rw [lq, ← lp]; exact ar⟩) wf' sz k
      | one =>
        show oEq (.str "one") (.str "set") _
        refine oEqS (a := "one") (b := "set") (r := false) (by decide +kernel) (by decide +kernel) (by decide +kernel) ?_
        show oEq (.str "one") (.str "ring") _
        refine oEqS (a := "one") (b := "ring") (r := false) (by decide +kernel) (by decide +kernel) (by decide +kernel) ?_
        have hp : ∀ p ∈ List.range rs.length, p < rs.length := fun p h => List.mem_range.mp h
        obtain ⟨lq, wf', sz, k⟩ := fin (List.range rs.length) hp (by rw [range_at]; exact ord_else (by decide) (by decide))
        exact tail_ok hp (by omega) (.inl ⟨_, ps, rfl, rfl, ar, by rw [lq, ← lp]; exact ar⟩) wf' sz k
      | row =>
        show oEq (.str "row") (.str "set") _
        refine oEqS (a := "row") (b := "set") (r := false) (by decide +kernel) (by decide +kernel) (by decide +kernel) ?_
        show oEq (.str "row") (.str "ring") _
        refine oEqS (a := "row") (b := "ring") (r := false) (by decide +kernel) (by decide +kernel) (by decide +kernel) ?_
        have hp : ∀ p ∈ List.range rs.length, p < rs.length := fun p h => List.mem_range.mp h
        obtain ⟨lq, wf', sz, k⟩ := fin (List.range rs.length) hp (by rw [range_at]; exact ord_else (by decide) (by decide))
        exact tail_ok hp (by omega) (.inl ⟨_, ps, rfl, rfl, ar, by rw [lq, ← lp]; exact ar⟩) wf' sz k
      | left =>
        show oEq (.str "left") (.str "set") _
        refine oEqS (a := "left") (b := "set") (r := false) (by decide +kernel) (by decide +kernel) (by decide +kernel) ?_
        show oEq (.str "left") (.str "ring") _
        refine oEqS (a := "left") (b := "ring") (r := false) (by decide +kernel) (by decide +kernel) (by decide +kernel) ?_
        have hp : ∀ p ∈ List.range rs.length, p < rs.length := fun p h => List.mem_range.mp h
        obtain ⟨lq, wf', sz, k⟩ := fin (List.range rs.length) hp (by rw [range_at]; exact ord_else (by decide) (by decide))
        exact tail_ok hp (by omega) (.inl ⟨_, ps, rfl, rfl, ar, by rw [lq, ← lp]; exact ar⟩) wf' sz k
      | right =>
        show oEq (.str "right") (.str "set") _
        refine oEqS (a := "right") (b := "set") (r := false) (by decide +kernel) (by decide +kernel) (by decide +kernel) ?_
        show oEq (.str "right") (.str "ring") _
        refine oEqS (a := "right") (b := "ring") (r := false) (by decide +kernel) (by decide +kernel) (by decide +kernel) ?_
        have hp : ∀ p ∈ List.range rs.length, p < rs.length := fun p h => List.mem_range.mp h
        obtain ⟨lq, wf', sz, k⟩ := fin (List.range rs.length) hp (by rw [range_at]; exact ord_else (by decide) (by decide))
        exact tail_ok hp (by omega) (.inl ⟨_, ps, rfl, rfl, ar, by rw [lq, ← lp]; exact ar⟩) wf' sz k
      | and =>
        show oEq (.str "and") (.str "set") _
        refine oEqS (a := "and") (b := "set") (r := false) (by decide +kernel) (by decide +kernel) (by decide +kernel) ?_
        show oEq (.str "and") (.str "ring") _
        refine oEqS (a := "and") (b := "ring") (r := false) (by decide +kernel) (by decide +kernel) (by decide +kernel) ?_
        have hp : ∀ p ∈ List.range rs.length, p < rs.length := fun p h => List.mem_range.mp h
        obtain ⟨lq, wf', sz, k⟩ := fin (List.range rs.length) hp (by rw [range_at]; exact ord_else (by decide) (by decide))
        exact tail_ok hp (by omega) (.inl ⟨_, ps, rfl, rfl, ar, by rw [lq, ← lp]; exact ar⟩) wf' sz k
end
end DL

namespace DL
variable [Tbs]
open PySem L2
section
variable {P : Program} {w : World} {K : PySem.W.Frag} {mg : Str → Option Value} {base : Heap} {W : Ad}
/-! ### _law_parts, _law_with -/
def r__law_parts (ds : List D) (d : D) : Prop := ∃ t : Tr, ds = [encT t] ∧ wfT t = true ∧ d = .lst ((partsT t).map encT)
theorem ok__law_parts (T : Tx K mg W) (Dd : Df K mg "_law_parts" s__law_parts ["structure"]) : Cal P w K mg base CX0 1 "_law_parts" ["structure"] (spW K (relR r__law_parts)) := by
  refine cal_ok Dd sc__law_parts (fun ds Q h => ?_) (fun f cdv A outer s H E hr => 
  (ss_cons (s_if (t_cmp (o_in) (d_ix (qv 0) d_int.q).q (d_tup (a_cons d_str (a_cons d_str (a_cons d_str a_nil)))).q) (
    (ss_one (s_ret (f_callT c_list T.n_list (b_cons (d_ix (qv 0) d_int.q).q b_nil)).p))) (ss_nil))
  (ss_one (s_ret (d_if (t_cmp (o_in) (d_ix (qv 0) d_int.q).q (d_tup (a_cons d_str (a_cons d_str (a_cons d_str a_nil)))).q) (f_callT c_list T.n_list (b_cons (d_slice (qv 0) (o_some d_int.q) o_none).q b_nil)).p (f_lst a_nil).p))))) (fun ds Q h => ?_)

  · obtain ⟨d, ⟨t, rfl, _⟩, _⟩ := h; rfl
  · obtain ⟨d, ⟨t, rfl, hw, rfl⟩, q⟩ := h
    rw [enc_shape]
    cases t with
    | atom l => exact ⟨⟨rfl, rfl⟩, ⟨rfl, rfl⟩, q⟩
    | node w ps =>
      have ha := (wf_node.mp hw).1
      cases w with
      | one =>
        obtain rfl : ps = [] := List.length_eq_zero_iff.mp (by simpa [arity] using ha)
        exact ⟨⟨rfl, rfl⟩, ⟨rfl, rfl⟩, q⟩
      | row | set | ring => exact ⟨⟨rfl, rfl⟩, q⟩
      | left | right | and =>
        refine ⟨⟨rfl, rfl⟩, ⟨rfl, rfl⟩, ?_⟩
        show Q (.lst (cutD (_ :: ps.map encT) (some 1) none))
        rw [cut_one]; exact q
def r__law_with (ds : List D) (d : D) : Prop := (∃ (w : Wd) (ps qs : List Tr), ds = [encT (.node w ps), .lst (qs.map encT)] ∧ arity w ps.length = true ∧ arity w qs.length = true ∧ qs.length ≤ 100000 ∧ d = encT (.node w qs)) ∨ ∃ l, ds = [encT (.atom l), .lst []] ∧ d = encT (.atom l)
theorem ok__law_with (T : Tx K mg W) (Dd : Df K mg "_law_with" s__law_with ["structure", "parts"]) : Cal P w K mg base CX0 1 "_law_with" ["structure", "parts"] (spW K (relR r__law_with)) := by
  refine cal_ok Dd sc__law_with (fun ds Q h => ?_) (fun f cdv A outer s H E hr => 
  (ss_cons (s_if (t_cmp (o_in) (d_ix (qv 0) d_int.q).q (d_tup (a_cons d_str (a_cons d_str (a_cons d_str a_nil)))).q) (
    (ss_one (s_ret (d_tup (a_cons (d_ix (qv 0) d_int.q) (a_cons (d_callT c_tuple T.n_tuple (b_cons (qv 1) b_nil)) a_nil)))))) (ss_nil))
  (ss_one (s_ret (d_if (t_cmp (o_in) (d_ix (qv 0) d_int.q).q (d_tup (a_cons d_str (a_cons d_str (a_cons d_str a_nil)))).q) (d_op (o_add) (d_tup (a_cons (d_ix (qv 0) d_int.q) a_nil)).q (d_callT c_tuple T.n_tuple (b_cons (qv 1) b_nil)).q) (dv 0)))))) (fun ds Q h => ?_)

  · obtain ⟨d, ⟨w, ps, qs, rfl, _⟩ | ⟨l, rfl, _⟩, _⟩ := h <;> rfl
  · obtain ⟨d, ⟨w, ps, qs, rfl, hp, hq, hl, rfl⟩ | ⟨l, rfl, rfl⟩, q⟩ := h
    · have el : (qs.map encT).length = qs.length := List.length_map _
      have sh := enc_node w qs
      rw [enc_shape] at *
      cases w with
      | one =>
        obtain rfl : ps = [] := List.length_eq_zero_iff.mp (by simpa [arity] using hp)
        obtain rfl : qs = [] := List.length_eq_zero_iff.mp (by simpa [arity] using hq)
        exact ⟨⟨rfl, rfl⟩, ⟨rfl, rfl⟩, q⟩
      | row | set | ring => exact ⟨⟨rfl, rfl⟩, q⟩
      | left | right | and =>
        refine ⟨⟨rfl, rfl⟩, ⟨rfl, rfl⟩, le_lim ?_, q⟩
        show 1 + (qs.map encT).length ≤ _
        omega
    · rw [enc_shape] at *
      exact ⟨⟨rfl, rfl⟩, ⟨rfl, rfl⟩, q⟩
/-! ### _law_size, _law_labels -/
def r__law_size (m : Nat) (ds : List D) (d : D) : Prop := ∃ t : Tr, ds = [encT t] ∧ wfT t = true ∧ dep t < m ∧ d = .int (sizeT t : Nat)
/-- the tree of a datum is not asked: what a function makes of the trees of a list -/
theorem lc_tr {t : DG} {elt : DX} {δ : List Sl} {Q : List D → Prop} (g : Tr → D) : ∀ {ps : List Tr} {acc : List D}, (∀ p ∈ ps, ∀ (P : D → Prop), P (g p) → t (encT p) δ fun δ' => elt δ' P) → Q (acc ++ ps.map g) → lcRun t tYesD elt δ Q (ps.map encT) acc
  | [], acc, _, q => by rw [List.map_nil, List.append_nil] at q; exact q
  | p :: ps, acc, h, q => by
    refine h p List.mem_cons_self _ ?_
    refine lc_tr g (fun y hy => h y (List.mem_cons_of_mem _ hy)) ?_
    rw [List.append_assoc]
    exact q
theorem dep_parts {t p : Tr} {m : Nat} (h : dep t < m + 1) (hp : p ∈ partsT t) : dep p < m := by
  cases t with
  | atom l => cases hp
  | node w ps =>
    have := dep_mem (p := p) (ts := ps) hp
    rw [dep_node] at h
    omega
theorem ok__law_size_s (m : Nat) (T : Tx K mg W) (Dd : Df K mg "_law_size" s__law_size ["structure"]) (C__law_size : Cal P w K mg base CX0 (2 + m) "_law_size" ["structure"] (spW K (relR (r__law_size m)))) (C__law_parts : Cal P w K mg base CX0 1 "_law_parts" ["structure"] (spW K (relR r__law_parts))) : Cal P w K mg base CX0 (2 + m + 1) "_law_size" ["structure"] (spW K (relR (r__law_size (m + 1)))) := by
  refine cal_ok Dd sc__law_size (fun ds Q h => ?_) (fun f cdv A outer s H E hr => 
  (ss_cons (s_if (t_cmp (o_eq (hu64 hr)) (d_ix (qv 0) d_int.q).q d_str.q) (
    (ss_one (s_ret d_int))) (ss_nil))
  (ss_one (s_ret (d_callB (c_sumA) T.n_sum (b_cons (f_lc sc__law_size.nd (i_listQ (d_call C__law_parts relR_mono (hr.mono (by omega)) (a_cons (dv 0) a_nil)).q) (blkOk_by (own := [("part", 1)]) (N := ["structure", "part"]) (sc := defScope s__law_size) (by decide +kernel)) (fun _ _ _ _ _ => (g_name (i := 1) sc__law_size.nd rfl (.inl rfl))) (fun _ _ _ _ _ => ts_nil) (fun _ _ _ _ _ => (d_call C__law_size relR_mono (hr.mono (by omega)) (a_cons (dv 1) a_nil)))).p.q b_nil)))))) (fun ds Q h => ?_)

  · obtain ⟨d, ⟨t, rfl, _⟩, _⟩ := h; rfl
  · obtain ⟨d, ⟨t, rfl, hw, hd, rfl⟩, q⟩ := h
    refine ix0 t ?_
    cases t with
    | atom l =>
      show oEq (.str "atom") (.str "atom") _
      exact oEqS (by decide +kernel) (by decide +kernel) rfl q
    | node w ps =>
      show oEq (.str w.s) (.str "atom") _
      refine oEqS (okW w) (by decide +kernel) (w_atom w) ?_
      refine ⟨_, ⟨.node w ps, rfl, hw, rfl⟩, ?_⟩
      refine lc_tr (fun p => .int (sizeT p : Nat)) (fun p hp P k => ⟨_, ⟨p, rfl, parts_wf hw p hp, dep_parts hd hp, rfl⟩, k⟩) ?_
      refine ⟨(ps.map sizeT).map fun (n : Nat) => (n : Int), ?_, ?_⟩
      · rw [List.map_map, List.map_map]; rfl
      · rw [sum_nat, ← size_node w]; exact q
def r__law_labels (m : Nat) (ds : List D) (d : D) : Prop := ∃ t : Tr, ds = [encT t] ∧ wfT t = true ∧ dep t < m ∧ sizeT t ≤ 100000 ∧ d = .lst (natsD (labL t))
theorem size_parts {t p : Tr} (hp : p ∈ partsT t) : sizeT p ≤ sizeT t := by
  cases t with
  | atom l => cases hp
  | node w ps => rw [size_node]; exact size_mem hp
theorem ok__law_labels_s (m : Nat) (T : Tx K mg W) (Dd : Df K mg "_law_labels" s__law_labels ["structure"]) (C__law_labels : Cal P w K mg base CX0 (2 + m) "_law_labels" ["structure"] (spW K (relR (r__law_labels m)))) (C__law_parts : Cal P w K mg base CX0 1 "_law_parts" ["structure"] (spW K (relR r__law_parts))) : Cal P w K mg base CX0 (2 + m + 1) "_law_labels" ["structure"] (spW K (relR (r__law_labels (m + 1)))) := by
  refine cal_ok Dd sc__law_labels (fun ds Q h => ?_) (fun f cdv A outer s H E hr => 
  (ss_cons (s_if (t_cmp (o_eq (hu64 hr)) (d_ix (qv 0) d_int.q).q d_str.q) (
    (ss_one (s_ret (f_callT c_list T.n_list (b_cons (d_slice (qv 0) (o_some d_int.q) o_none).q b_nil)).p))) (ss_nil))
  (ss_cons (s_set (i := 1) sc__law_labels.nd rfl (.inl rfl) (f_lst a_nil).p)
  (ss_cons (s_for PassesOwn.never (i_list (d_call C__law_parts relR_mono (hr.mono (by omega)) (a_cons (dv 0) a_nil))) (g_name (i := 2) sc__law_labels.nd rfl (.inl rfl)) (
    (ss_one (s_set (i := 1) sc__law_labels.nd rfl (.inl rfl) (d_op (o_add) (qv 1) (d_call C__law_labels relR_mono (hr.mono (by omega)) (a_cons (dv 2) a_nil)).q)))))
  (ss_one (s_ret (f_callB c_sortedA T.n_sorted (b_cons (qv 1) b_nil)).p)))))) (fun ds Q h => ?_)

  · obtain ⟨d, ⟨t, rfl, _⟩, _⟩ := h; rfl
  · obtain ⟨d, ⟨t, rfl, hw, hd, hs, rfl⟩, q⟩ := h
    refine ix0 t ?_
    cases t with
    | atom l =>
      show oEq (.str "atom") (.str "atom") _
      refine oEqS (by decide +kernel) (by decide +kernel) rfl ?_
      rw [enc_shape]
      show Q (.lst (cutD (_ :: tailT (.atom l)) (some 1) none))
      rw [cut_one]
      cases l with
      | none => exact q
      | some n => exact q
    | node w ps =>
      show oEq (.str w.s) (.str "atom") _
      refine oEqS (okW w) (by decide +kernel) (w_atom w) ?_
      refine ⟨_, ⟨.node w ps, rfl, hw, rfl⟩, ?_⟩
      have hs2 := hs
      rw [size_node] at hs2
      refine loop_inv (fun i δ => ∃ x2 : Sl, δ = [.d (encT (.node w ps)), .d (.lst (natsD ((ps.take i).flatMap labL))), x2]) ⟨.no, rfl⟩ ?_ ?_
      · rintro i x δ ex ⟨x2, rfl⟩ N hN
        rw [List.getElem?_map] at ex
        cases ep : (partsT (Tr.node w ps))[i]? with
        | none => rw [ep] at ex; cases ex
        | some p =>
          rw [ep] at ex
          obtain rfl := Option.some.inj ex
          have ep : ps[i]? = some p := ep
          have hp : p ∈ ps := List.mem_of_getElem? ep
          have tk : ps.take (i + 1) = ps.take i ++ [p] := by rw [List.take_add_one, ep]; rfl
          refine ⟨_, ⟨p, rfl, parts_wf hw p hp, dep_parts hd hp, Nat.le_trans (size_parts (t := .node w ps) hp) hs, rfl⟩, le_lim ?_, hN _ ⟨.d (encT p), ?_⟩⟩
          · rw [natsD_len, natsD_len]
            have h1 := flat_len (ps.take i)
            have h2 := labL_len p
            have h3 : ((ps.take i).map sizeT).sum + sizeT p ≤ (ps.map sizeT).sum := by
              have e : ps = ps.take i ++ p :: ps.drop (i + 1) := by
                have hi := (List.getElem?_eq_some_iff.mp ep).1
                have := List.drop_eq_getElem_cons hi
                rw [(List.getElem?_eq_some_iff.mp ep).2] at this
                rw [← this, List.take_append_drop]
              conv => rhs; rw [e]
              rw [List.map_append, sum_app, List.map_cons, List.sum_cons]; omega
            omega
          · rw [tk, List.flatMap_append]
            unfold natsD
            rw [List.map_append, List.flatMap_cons, List.flatMap_nil, List.append_nil]; rfl
      · rintro δ ⟨x2, rfl⟩
        rw [List.length_map, show partsT (Tr.node w ps) = ps from rfl, List.take_length]
        refine ⟨toZ (ps.flatMap labL), natsD_Z _, fun ns' w1 w2 => ?_⟩
        rw [sorted_is w1 w2, labL_node w, ← natsD_Z]
        exact q
/-! ### _law_weight, _law_key -/
def r__law_weight (m : Nat) (ds : List D) (d : D) : Prop := ∃ t : Tr, ds = [encT t] ∧ wfT t = true ∧ dep t < m ∧ sizeT t ≤ 100000 ∧ d = wD t
theorem ok__law_weight_s (m : Nat) (T : Tx K mg W) (Dd : Df K mg "_law_weight" s__law_weight ["structure"]) (C__law_size : Cal P w K mg base CX0 (2 + (m)) "_law_size" ["structure"] (spW K (relR (r__law_size (m))))) (C__law_labels : Cal P w K mg base CX0 (2 + (m)) "_law_labels" ["structure"] (spW K (relR (r__law_labels (m))))) : Cal P w K mg base CX0 (2 + m + 1) "_law_weight" ["structure"] (spW K (relR (r__law_weight m))) := by
  refine cal_ok Dd sc__law_weight (fun ds Q h => ?_) (fun f cdv A outer s H E hr => 
  (ss_one (s_ret (d_tup (a_cons (d_call C__law_size relR_mono (hr.mono (by omega)) (a_cons (dv 0) a_nil)) (a_cons (d_callT c_tuple T.n_tuple (b_cons (d_call C__law_labels relR_mono (hr.mono (by omega)) (a_cons (dv 0) a_nil)).q b_nil)) a_nil)))))) (fun ds Q h => ?_)

  · obtain ⟨d, ⟨t, rfl, _⟩, _⟩ := h; rfl
  · obtain ⟨d, ⟨t, rfl, hw, hd, hs, rfl⟩, q⟩ := h
    exact ⟨_, ⟨t, rfl, hw, hd, rfl⟩, _, ⟨t, rfl, hw, hd, hs, rfl⟩, q⟩
end
end DL

namespace DL
variable [Tbs]
open PySem L2
section
variable {P : Program} {w : World} {K : PySem.W.Frag} {mg : Str → Option Value} {base : Heap} {W : Ad}
def r__law_key (m : Nat) (ds : List D) (d : D) : Prop := ∃ t : Tr, ds = [encT t] ∧ wfT t = true ∧ dep t < m ∧ sizeT t ≤ 100000 ∧ d = keyT t
theorem ok__law_key_s (m : Nat) (T : Tx K mg W) (Dd : Df K mg "_law_key" s__law_key ["structure"]) (C__law_key : Cal P w K mg base CX0 (4 + m) "_law_key" ["structure"] (spW K (relR (r__law_key m)))) (C__law_weight : Cal P w K mg base CX0 (3 + (m)) "_law_weight" ["structure"] (spW K (relR (r__law_weight (m))))) (C__law_labels : Cal P w K mg base CX0 (2 + (m + 1)) "_law_labels" ["structure"] (spW K (relR (r__law_labels (m + 1))))) : Cal P w K mg base CX0 (4 + m + 1) "_law_key" ["structure"] (spW K (relR (r__law_key (m + 1)))) := by
  refine cal_ok Dd sc__law_key (fun ds Q h => ?_) (fun f cdv A outer s H E hr => 
  (ss_cons (s_set (i := 1) sc__law_key.nd rfl (.inl rfl) (d_ix (qv 0) d_int.q))
  (ss_cons (s_if (t_cmp (o_in) (qv 1) (d_tup (a_cons d_str (a_cons d_str a_nil))).q) (
    (ss_one (s_ret (d_tup (a_cons (d_callT c_int T.n_int (b_cons (d_cmp (o_eq (hu64 hr)) (qv 1) d_str.q).q b_nil)) (a_cons (d_call C__law_key relR_mono (hr.mono (by omega)) (a_cons (d_ix (qv 0) d_int.q) a_nil)) a_nil)))))) (ss_nil))
  (ss_cons (s_if (t_cmp (o_eq (hu64 hr)) (qv 1) d_str.q) (
    (ss_one (s_ret (d_tup (a_cons (d_call C__law_weight relR_mono (hr.mono (by omega)) (a_cons (d_ix (qv 0) d_int.q) a_nil)) (a_cons (d_call C__law_key relR_mono (hr.mono (by omega)) (a_cons (d_ix (qv 0) d_int.q) a_nil)) (a_cons (d_call C__law_key relR_mono (hr.mono (by omega)) (a_cons (d_ix (qv 0) d_int.q) a_nil)) a_nil))))))) (ss_nil))
  (ss_cons (s_if (t_cmp (o_in) (qv 1) (d_tup (a_cons d_str (a_cons d_str (a_cons d_str a_nil)))).q) (
    (ss_cons (s_set (i := 2) sc__law_key.nd rfl (.inl rfl) (d_callT c_tuple T.n_tuple (b_cons (f_lc sc__law_key.nd (i_tup (d_ix (qv 0) d_int.q)).q (blkOk_by (own := [("member", 3)]) (N := ["structure", "word", "pairs", "member"]) (sc := defScope s__law_key) (by decide +kernel)) (fun _ _ _ _ _ => (g_name (i := 3) sc__law_key.nd rfl (.inl rfl))) (fun _ _ _ _ _ => ts_nil) (fun _ _ _ _ _ => (d_tup (a_cons (d_call C__law_weight relR_mono (hr.mono (by omega)) (a_cons (dv 3) a_nil)) (a_cons (d_call C__law_key relR_mono (hr.mono (by omega)) (a_cons (dv 3) a_nil)) a_nil))))).p.q b_nil)))
    (ss_one (s_ret (d_if (w_and (t_cmp (o_eq (hu64 hr)) (qv 1) d_str.q) (w_and1 (t_cmp (o_eq (hu64 hr)) (d_callB (c_len) T.n_len (b_cons (d_call C__law_labels relR_mono (hr.mono (by omega)) (a_cons (dv 0) a_nil)).q b_nil)).q d_int.q))).t (d_tup (a_cons (d_callB (c_len) T.n_len (b_cons (qv 2) b_nil)) (a_cons (dv 2) a_nil))) (dv 2)))))) (ss_nil))
  (ss_one (s_ret (d_tup a_nil)))))))) (fun ds Q h => ?_)

  · obtain ⟨d, ⟨t, rfl, _⟩, _⟩ := h; rfl
  · obtain ⟨d, ⟨t, rfl, hw, hd, hs, rfl⟩, q⟩ := h
    refine ix0 t ?_
    cases t with
    | atom l =>
      refine ⟨⟨rfl, rfl⟩, ?_⟩
      show oEq (.str "atom") (.str "and") _
      refine oEqS (a := "atom") (b := "and") (r := false) (by decide +kernel) (by decide +kernel) (by decide +kernel) ?_
      exact ⟨⟨rfl, rfl⟩, q⟩
    | node w ps =>
      have ha := (wf_node.mp hw).1
      have sub : ∀ p ∈ ps, wfT p = true ∧ dep p < m ∧ sizeT p ≤ 100000 := fun p hp => ⟨parts_wf hw p hp, dep_parts hd hp, Nat.le_trans (size_parts (t := .node w ps) hp) hs⟩
      rw [key_node] at q
      cases w with
      | left =>
        obtain ⟨p, rfl⟩ : ∃ p, ps = [p] := List.length_eq_one_iff.mp (by simpa [arity] using ha)
        obtain ⟨s1, s2, s3⟩ := sub p List.mem_cons_self
        rw [enc_shape (Tr.node _ _)]
        refine ⟨⟨rfl, rfl⟩, ?_⟩
        refine ⟨⟨(by decide +kernel : okD (.str "left") = true), (by decide +kernel : okD (.str "right") = true)⟩, ?_⟩
        refine ⟨_, ⟨p, rfl, s1, s2, s3, rfl⟩, ?_⟩
        have e : eqD (.str "left") (.str "right") = false := by rw [eqD_str]; decide +kernel
        show Q (.tup [.int (if eqD (.str "left") (.str "right") = true then 1 else 0), keyT p])
        rw [e]; exact q
      | right =>
        obtain ⟨p, rfl⟩ : ∃ p, ps = [p] := List.length_eq_one_iff.mp (by simpa [arity] using ha)
        obtain ⟨s1, s2, s3⟩ := sub p List.mem_cons_self
        rw [enc_shape (Tr.node _ _)]
        refine ⟨⟨rfl, rfl⟩, ?_⟩
        refine ⟨⟨(by decide +kernel : okD (.str "right") = true), (by decide +kernel : okD (.str "right") = true)⟩, ?_⟩
        refine ⟨_, ⟨p, rfl, s1, s2, s3, rfl⟩, ?_⟩
        have e : eqD (.str "right") (.str "right") = true := by rw [eqD_str]; decide +kernel
        show Q (.tup [.int (if eqD (.str "right") (.str "right") = true then 1 else 0), keyT p])
        rw [e]; exact q
      | and =>
        obtain ⟨p, p2, rfl⟩ : ∃ p p2, ps = [p, p2] := by
          match ps, ha with
          | [p, p2], _ => exact ⟨p, p2, rfl⟩
          | [], h => simp [arity] at h
          | [_], h => simp [arity] at h
          | _ :: _ :: _ :: _, h => simp [arity] at h
        obtain ⟨s1, s2, s3⟩ := sub p List.mem_cons_self
        obtain ⟨t1, t2, t3⟩ := sub p2 (List.mem_cons_of_mem _ List.mem_cons_self)
        refine ⟨⟨rfl, rfl⟩, ?_⟩
        show oEq (.str "and") (.str "and") _
        refine oEqS (a := "and") (b := "and") (r := true) (by decide +kernel) (by decide +kernel) (by decide +kernel) ?_
        rw [enc_shape (Tr.node _ _)]
        exact ⟨_, ⟨p, rfl, s1, s2, s3, rfl⟩, _, ⟨p, rfl, s1, s2, s3, rfl⟩, _, ⟨p2, rfl, t1, t2, t3, rfl⟩, q⟩
      | one =>
        obtain rfl : ps = [] := List.length_eq_zero_iff.mp (by simpa [arity] using ha)
        refine ⟨⟨rfl, rfl⟩, ?_⟩
        show oEq (.str "one") (.str "and") _
        refine oEqS (a := "one") (b := "and") (r := false) (by decide +kernel) (by decide +kernel) (by decide +kernel) ?_
        exact ⟨⟨rfl, rfl⟩, q⟩
      | row =>
        refine ⟨⟨rfl, rfl⟩, ?_⟩
        show oEq (.str "row") (.str "and") _
        refine oEqS (a := "row") (b := "and") (r := false) (by decide +kernel) (by decide +kernel) (by decide +kernel) ?_
        refine ⟨⟨rfl, rfl⟩, ?_⟩
        rw [enc_shape (Tr.node _ _)]
        refine lc_tr pairT (fun p hp P k => ⟨_, ⟨p, rfl, (sub p hp).1, (sub p hp).2.1, (sub p hp).2.2, rfl⟩, _, ⟨p, rfl, (sub p hp).1, (sub p hp).2.1, (sub p hp).2.2, rfl⟩, k⟩) ?_
        show oEq (.str "row") (.str "ring") _
        refine oEqS (a := "row") (b := "ring") (r := false) (by decide +kernel) (by decide +kernel) (by decide +kernel) ?_
        rw [key_plain (by decide), pair_map] at q
        exact q
      | set =>
        refine ⟨⟨rfl, rfl⟩, ?_⟩
        show oEq (.str "set") (.str "and") _
        refine oEqS (a := "set") (b := "and") (r := false) (by decide +kernel) (by decide +kernel) (by decide +kernel) ?_
        refine ⟨⟨rfl, rfl⟩, ?_⟩
        rw [enc_shape (Tr.node _ _)]
        refine lc_tr pairT (fun p hp P k => ⟨_, ⟨p, rfl, (sub p hp).1, (sub p hp).2.1, (sub p hp).2.2, rfl⟩, _, ⟨p, rfl, (sub p hp).1, (sub p hp).2.1, (sub p hp).2.2, rfl⟩, k⟩) ?_
        show oEq (.str "set") (.str "ring") _
        refine oEqS (a := "set") (b := "ring") (r := false) (by decide +kernel) (by decide +kernel) (by decide +kernel) ?_
        rw [key_plain (by decide), pair_map] at q
        exact q
      | ring =>
        refine ⟨⟨rfl, rfl⟩, ?_⟩
        show oEq (.str "ring") (.str "and") _
        refine oEqS (a := "ring") (b := "and") (r := false) (by decide +kernel) (by decide +kernel) (by decide +kernel) ?_
        refine ⟨⟨rfl, rfl⟩, ?_⟩
        rw [enc_shape (Tr.node _ _)]
        refine lc_tr pairT (fun p hp P k => ⟨_, ⟨p, rfl, (sub p hp).1, (sub p hp).2.1, (sub p hp).2.2, rfl⟩, _, ⟨p, rfl, (sub p hp).1, (sub p hp).2.1, (sub p hp).2.2, rfl⟩, k⟩) ?_
        show oEq (.str "ring") (.str "ring") _
        refine oEqS (a := "ring") (b := "ring") (r := true) (by decide +kernel) (by decide +kernel) (by decide +kernel) ?_
        refine ⟨_, ⟨.node .ring ps, by rw [enc_shape (Tr.node _ _)], hw, hd, hs, rfl⟩, ?_⟩
        show ite (decide (((natsD (labL (.node .ring ps))).length : Int) = 0) = true) _ _
        cases he : (labs (.node .ring ps)).isEmpty with
        | true =>
          have hl : (natsD (labL (.node .ring ps))).length = 0 := by
            rw [natsD_len]; rw [← labL_nil] at he; exact List.length_eq_zero_iff.mpr (List.isEmpty_iff.mp he)
          refine yD (fun _ => ?_) (fun h => absurd (by omega) h)
          rw [he, key_ringT, List.length_map, pair_map] at q
          show Q (.tup [.int ((ps.map pairT).length : Nat), .tup (ps.map pairT)])
          rw [List.length_map]
          exact q
        | false =>
          have hl : (natsD (labL (.node .ring ps))).length ≠ 0 := by
            rw [natsD_len]; rw [← labL_nil] at he; intro z; rw [List.length_eq_zero_iff.mp z] at he; cases he
          refine yD (fun h => absurd h (by omega)) (fun _ => ?_)
          rw [he, key_ringF, pair_map] at q
          exact q
end
end DL

namespace DL
variable [Tbs]
open PySem L2
section
variable {P : Program} {w : World} {K : PySem.W.Frag} {mg : Str → Option Value} {base : Heap} {W : Ad}
def r__law_is_integer (ds : List D) (d : D) : Prop := ∃ i : Int, ds = [.int i] ∧ d = .bl true
theorem ok__law_is_integer (T : Tx K mg W) (Dd : Df K mg "_law_is_integer" s__law_is_integer ["actual"]) : Cal P w K mg base CX0 1 "_law_is_integer" ["actual"] (spW K (relR r__law_is_integer)) := by
  refine cal_ok Dd sc__law_is_integer (fun ds Q h => ?_) (fun f cdv A outer s H E hr => 
  (ss_one (s_ret (d_and (d_isi k_int T.n_isinstance T.n_int (qv 0)) (d_one (d_not (d_isi k_bool T.n_isinstance T.n_bool (qv 0)))))))) (fun ds Q h => ?_)

  · obtain ⟨d, ⟨i, rfl, _⟩, _⟩ := h; rfl
  · obtain ⟨d, ⟨i, rfl, rfl⟩, q⟩ := h
    exact ⟨rfl, rfl, q⟩
def r__law_cell (ds : List D) (d : D) : Prop := ∃ (ns : List Int) (k : Nat), ds = [.scr (ns.map D.int), .int (k : Nat)] ∧ ns.length ≤ 63 ∧ d = .int (ns.getD k 0)
theorem ok__law_cell (T : Tx K mg W) (Dd : Df K mg "_law_cell" s__law_cell ["script", "k"]) : Cal P w K mg base CX0 1 "_law_cell" ["script", "k"] (spW K (relR r__law_cell)) := by
  refine cal_ok Dd sc__law_cell (fun ds Q h => ?_) (fun f cdv A outer s H E hr => 
  (ss_cons (s_if (t_cmp o_lt (qv 1) (d_callB (c_len) T.n_len (b_cons (qv 0) b_nil)).q) (
    (ss_one (s_ret (d_ix (qv 0) (qv 1))))) (ss_nil))
  (ss_one (s_ret d_int)))) (fun ds Q h => ?_)

  · obtain ⟨d, ⟨ns, k, rfl, _⟩, _⟩ := h; rfl
  · obtain ⟨d, ⟨ns, k, rfl, hn, rfl⟩, q⟩ := h
    show ite (decide ((k : Int) < ((ns.map D.int).length : Nat)) = true) _ _
    rw [List.length_map]
    refine yD (fun h => ?_) (fun h => ?_)
    · have hk : k < ns.length := by omega
      have e : (ns.map D.int)[k]? = some (.int (ns.getD k 0)) := by
        rw [List.getElem?_map, List.getElem?_eq_getElem hk, List.getD_eq_getElem?_getD, List.getElem?_eq_getElem hk]; rfl
      refine onSome_of e ?_
      exact q
    · have : ns.getD k 0 = 0 := by rw [List.getD_eq_getElem?_getD, List.getElem?_eq_none_iff.mpr (by omega)]; rfl
      rw [this] at q
      exact q
def r__law_mixed : Rf := fun ds Q => ∃ (c : Int) (k : Nat), ds = [.int c, .int (k : Nat)] ∧ ∀ j : Nat, Q (.int (j : Nat))
theorem mono__law_mixed : MonoR r__law_mixed := fun ds Q Q' i ⟨c, k, e, q⟩ => ⟨c, k, e, fun j => i _ (q j)⟩
theorem ok__law_mixed (T : Tx K mg W) (Dd : Df K mg "_law_mixed" s__law_mixed ["cell", "k"]) : Cal P w K mg base CX0 1 "_law_mixed" ["cell", "k"] (spW K r__law_mixed) := by
  refine cal_ok Dd sc__law_mixed (fun ds Q h => ?_) (fun f cdv A outer s H E hr => 
  (ss_cons (s_set (i := 2) sc__law_mixed.nd rfl (.inl rfl) (d_op o_mod (d_callT c_int T.n_int (b_cons (d_op (o_add) (d_op (o_add) (d_op (o_mul) (d_callT c_int T.n_int (b_cons (qv 0) b_nil)).q d_int.q).q (d_op (o_mul) (qv 1) d_int.q).q).q d_int.q).q b_nil)).q d_int.q))
  (ss_cons (s_set (i := 3) sc__law_mixed.nd rfl (.inl rfl) (d_op o_mod (d_callT c_int T.n_int (b_cons (d_op (o_add) (d_op (o_add) (d_op (o_mul) (qv 2) d_int.q).q (d_op (o_mul) (d_op (o_add) (qv 1) d_int.q).q d_int.q).q).q d_int.q).q b_nil)).q d_int.q))
  (ss_one (s_ret (d_op o_div (qv 3) d_int.q)))))) (fun ds Q h => ?_)

  · obtain ⟨c, k, rfl, _⟩ := h; rfl
  · obtain ⟨c, k, rfl, q⟩ := h
    obtain ⟨a, ea, ha⟩ := mod_nat (c * 48271 + (k : Int) * 69621 + 11) (m := 2147483647) (by decide)
    obtain ⟨b, eb, hb⟩ := mod_nat ((a : Int) * 16807 + ((k : Int) + 3) * 40692 + 5) (m := 2147483563) (by decide)
    refine ⟨mulR ⟨by decide, by decide⟩, mulR ⟨by decide, by decide⟩, md (by decide), mulR ⟨by decide, by decide⟩, mulR ⟨by decide, by decide⟩, md (by decide), divS (by decide) (by decide), ?_⟩
    have : (((c * 48271 + (k : Int) * 69621 + 11) % 2147483647) * 16807 + ((k : Int) + 3) * 40692 + 5) % 2147483563 / 5 = ((b / 5 : Nat) : Int) := by
      rw [ea, eb]; omega
    show Q (.int ((((c * 48271 + (k : Int) * 69621 + 11) % 2147483647) * 16807 + ((k : Int) + 3) * 40692 + 5) % 2147483563 / 5))
    rw [this]
    exact q _
def r__law_digits : Rf := fun ds Q => ∃ (c : Int) (n m : Nat), ds = [.int c, .int (n : Nat), .int (m : Nat)] ∧ n ≤ 1000 ∧ 0 < m ∧ m ≤ 1000 ∧ ∀ l : List Nat, l.length = n → (∀ x ∈ l, x < m) → Q (.lst (natsD l))
theorem mono__law_digits : MonoR r__law_digits := fun ds Q Q' i ⟨c, n, m, e, h1, h2, h3, q⟩ => ⟨c, n, m, e, h1, h2, h3, fun l a b => i _ (q l a b)⟩
theorem bd_app {l : List Nat} {B n : Nat} (h : ∀ x ∈ l, x < B) (hn : n < B) : ∀ x ∈ l ++ [n], x < B := fun x hx => by
  rcases List.mem_append.mp hx with hx | hx
  · exact h x hx
  · rw [List.mem_singleton.mp hx]; exact hn
theorem ok__law_digits (T : Tx K mg W) (Dd : Df K mg "_law_digits" s__law_digits ["cell", "count", "many"]) (C__law_mixed : Cal P w K mg base CX0 1 "_law_mixed" ["cell", "k"] (spW K r__law_mixed)) : Cal P w K mg base CX0 2 "_law_digits" ["cell", "count", "many"] (spW K r__law_digits) := by
  refine cal_ok Dd sc__law_digits (fun ds Q h => ?_) (fun f cdv A outer s H E hr => 
  (ss_cons (s_own (i := 3) sc__law_digits.nd rfl (.inl rfl) (f_lst a_nil))
  (ss_cons (s_if (t_cmp o_lt (qv 0) (d_op o_pow d_int.q d_int.q).q) (
    (ss_cons (s_for PassesOwn.never (i_range1 T.n_range (qv 1)) (g_name (i := 4) sc__law_digits.nd rfl (.inl rfl)) (
      (ss_one (s_append 3 (d_op o_mod (d_callT c_int T.n_int (b_cons (d_call C__law_mixed mono__law_mixed (hr.mono (by decide)) (a_cons (dv 0) (a_cons (dv 4) a_nil))).q b_nil)).q (qv 2))))))
    (ss_one (s_frz 3 (s_ret (dv 3)))))) (ss_nil))
  (ss_cons (s_for PassesOwn.never (i_range1 T.n_range (qv 1)) (g_name (i := 4) sc__law_digits.nd rfl (.inl rfl)) (
    (ss_cons (s_append 3 (d_op o_mod (d_callT c_int T.n_int (b_cons (qv 0) b_nil)).q (qv 2)))
    (ss_one (s_set (i := 0) sc__law_digits.nd rfl (.inl rfl) (d_op o_div (qv 0) (qv 2)))))))
  (ss_one (s_frz 3 (s_ret (dv 3)))))))) (fun ds Q h => ?_)

  · obtain ⟨c, n, m, rfl, _⟩ := h; rfl
  · obtain ⟨c, n, m, rfl, h1, h2, h3, q⟩ := h
    refine ⟨⟨by decide, by decide, by decide⟩, ?_⟩
    refine yD (fun _ => ?_) (fun _ => ?_)
    · refine ⟨rgb (by decide) (by decide) (by omega) (by omega) (by omega), loop_rg (n := n) (fun i δ => ∃ (l : List Nat) (x4 : Sl), δ = [.d (.int c), .d (.int n), .d (.int m), .own (natsD l), x4] ∧ l.length = i ∧ ∀ x ∈ l, x < m) (by omega) ⟨[], .no, rfl, rfl, by simp⟩ ?_ ?_⟩
      · rintro i δ hi ⟨l, x4, rfl, hl, hb⟩ N hN
        have e : (0 : Int) + (i : Nat) = ((i : Nat) : Int) := by omega
        refine ⟨c, i, by rw [e], fun j => ?_⟩
        obtain ⟨b, eb, hb2⟩ := mod_nat (j : Int) (m := (m : Int)) (by omega)
        refine ⟨md (by omega), lt_lim (by rw [natsD_len]; omega), hN _ ⟨l ++ [b], .d (.int (0 + (i : Nat))), ?_, by rw [List.length_append, List.length_singleton, hl], bd_app hb (by omega)⟩⟩
        rw [natsD_app, ← eb]; rfl
      · rintro δ ⟨l, x4, rfl, hl, hb⟩
        exact q l hl hb
    · refine ⟨rgb (by decide) (by decide) (by omega) (by omega) (by omega), loop_rg (n := n) (fun i δ => ∃ (l : List Nat) (c : Int) (x4 : Sl), δ = [.d (.int c), .d (.int n), .d (.int m), .own (natsD l), x4] ∧ l.length = i ∧ ∀ x ∈ l, x < m) (by omega) ⟨[], c, .no, rfl, rfl, by simp⟩ ?_ ?_⟩
      · rintro i δ hi ⟨l, c, x4, rfl, hl, hb⟩ N hN
        obtain ⟨b, eb, hb2⟩ := mod_nat c (m := (m : Int)) (by omega)
        refine ⟨md (by omega), lt_lim (by rw [natsD_len]; omega), divS (by omega) (by omega), hN _ ⟨l ++ [b], c / (m : Int), .d (.int (0 + (i : Nat))), ?_, by rw [List.length_append, List.length_singleton, hl], bd_app hb (by omega)⟩⟩
        rw [natsD_app, ← eb]; rfl
      · rintro δ ⟨l, c, x4, rfl, hl, hb⟩
        exact q l hl hb
/-! ### _law_menu, _law_spec -/
def r__law_menu (ds : List D) (d : D) : Prop := ds = [] ∧ d = .lst (menu'.map encSp)
theorem ok__law_menu (T : Tx K mg W) (Dd : Df K mg "_law_menu" s__law_menu []) : Cal P w K mg base CX0 1 "_law_menu" [] (spW K (relR r__law_menu)) := by
  refine cal_ok Dd sc__law_menu (fun ds Q h => ?_) (fun f cdv A outer s H E hr => 
  (ss_cons (s_asg (d_tup (a_cons (d_tup (a_cons d_str a_nil)) (a_cons (d_tup (a_cons d_str a_nil)) a_nil))) (g_tup (gs_cons (g_name (i := 0) sc__law_menu.nd rfl (.inl rfl)) (gs_cons (g_name (i := 1) sc__law_menu.nd rfl (.inl rfl)) gs_nil))))
  (ss_cons (s_par (i := 2) (j := 3) sc__law_menu.nd rfl rfl (d_tup (a_cons d_str (a_cons (dv 0) (a_cons (dv 0) a_nil)))) (d_tup (a_cons d_str (a_cons (dv 0) (a_cons (dv 0) a_nil)))))
  (ss_cons (s_set (i := 4) sc__law_menu.nd rfl (.inl rfl) (d_tup (a_cons d_str (a_cons (dv 0) (a_cons (d_tup (a_cons d_str (a_cons (d_tup (a_cons d_str (a_cons d_str a_nil))) (a_cons d_int (a_cons d_non a_nil))))) a_nil)))))
  (ss_cons (s_set (i := 5) sc__law_menu.nd rfl (.inl rfl) (d_tup (a_cons d_str (a_cons (dv 0) (a_cons (dv 3) a_nil)))))
  (ss_cons (s_own (i := 6) sc__law_menu.nd rfl (.inl rfl) (f_lst (a_cons (d_disp (dd_cons (d_tup (a_cons d_str (a_cons (dv 2) (a_cons d_int (a_cons d_non a_nil))))) dd_nil)) (a_cons (d_disp (dd_cons (d_tup (a_cons d_str (a_cons (dv 0) (a_cons (d_tup (a_cons d_str (a_cons (d_tup (a_cons d_str (a_cons d_str a_nil))) (a_cons d_int (a_cons d_non a_nil))))) a_nil)))) dd_nil)) (a_cons (d_disp (dd_cons (dv 4) dd_nil)) a_nil)))))
  (ss_cons (s_append 6 (d_disp (dd_cons (d_tup (a_cons d_str (a_cons (dv 1) (a_cons (d_tup (a_cons d_str (a_cons (dv 0) (a_cons (d_tup (a_cons d_str (a_cons (d_tup (a_cons d_str (a_cons d_str a_nil))) (a_cons (d_tup (a_cons d_str (a_cons d_str a_nil))) a_nil)))) a_nil)))) a_nil)))) dd_nil)))
  (ss_cons (s_append 6 (d_disp (dd_cons (d_tup (a_cons d_str (a_cons (d_tup (a_cons d_str (a_cons d_str a_nil))) (a_cons d_int (a_cons d_non a_nil))))) (dd_cons (d_tup (a_cons d_str (a_cons (dv 0) (a_cons d_int (a_cons d_non a_nil))))) dd_nil))))
  (ss_cons (s_append 6 (d_disp (dd_cons (d_tup (a_cons d_str (a_cons (d_tup (a_cons d_str (a_cons d_str a_nil))) (a_cons d_int (a_cons d_non a_nil))))) (dd_cons (d_tup (a_cons d_str (a_cons (dv 0) (a_cons d_int (a_cons d_non a_nil))))) dd_nil))))
  (ss_cons (s_own (i := 6) sc__law_menu.nd rfl (.inl rfl) (f_op (o_cat) (qv 6) (f_lst (a_cons (d_disp (dd_cons (d_tup (a_cons d_str (a_cons (dv 2) (a_cons d_int (a_cons d_non a_nil))))) dd_nil)) (a_cons (d_disp (dd_cons (d_tup (a_cons d_str (a_cons (d_tup (a_cons d_str (a_cons d_str a_nil))) (a_cons d_int (a_cons d_non a_nil))))) (dd_cons (d_tup (a_cons d_str (a_cons (dv 0) (a_cons d_int (a_cons d_non a_nil))))) dd_nil))) a_nil))).p.q))
  (ss_cons (s_append 6 (d_disp (dd_cons (d_tup (a_cons d_str (a_cons (d_tup (a_cons d_str (a_cons d_str a_nil))) (a_cons d_int (a_cons d_non a_nil))))) (dd_cons (d_tup (a_cons d_str (a_cons (d_tup (a_cons d_str (a_cons d_str a_nil))) (a_cons d_int (a_cons d_non a_nil))))) (dd_cons (dv 4) dd_nil)))))
  (ss_cons (s_own (i := 6) sc__law_menu.nd rfl (.inl rfl) (f_op (o_cat) (qv 6) (f_lst (a_cons (d_disp (dd_cons (d_tup (a_cons d_str (a_cons (dv 5) (a_cons d_int (a_cons d_int a_nil))))) dd_nil)) (a_cons (d_disp (dd_cons (d_tup (a_cons d_str (a_cons (dv 5) (a_cons d_int (a_cons d_int a_nil))))) dd_nil)) (a_cons (d_disp (dd_cons (d_tup (a_cons d_str (a_cons (d_tup (a_cons d_str (a_cons (dv 0) (a_cons d_int (a_cons d_int a_nil))))) (a_cons d_int (a_cons d_int a_nil))))) dd_nil)) a_nil)))).p.q))
  (ss_cons (s_append 6 (d_disp (dd_cons (d_tup (a_cons d_str (a_cons (d_tup (a_cons d_str (a_cons (dv 2) (a_cons d_int (a_cons d_int a_nil))))) (a_cons (d_tup (a_cons d_str (a_cons (d_tup (a_cons d_str (a_cons d_str a_nil))) (a_cons d_int (a_cons d_int a_nil))))) a_nil)))) (dd_cons (d_tup (a_cons d_str (a_cons (dv 0) (a_cons (d_tup (a_cons d_str (a_cons (dv 0) (a_cons (d_tup (a_cons d_str (a_cons (dv 0) (a_cons d_int (a_cons d_int a_nil))))) a_nil)))) a_nil)))) dd_nil))))
  (ss_cons (s_own (i := 6) sc__law_menu.nd rfl (.inl rfl) (f_op (o_cat) (qv 6) (f_lst (a_cons (d_disp (dd_cons (d_tup (a_cons d_str (a_cons (d_tup (a_cons d_str (a_cons (dv 0) (a_cons d_int (a_cons d_int a_nil))))) (a_cons d_int (a_cons d_int a_nil))))) dd_nil)) (a_cons (d_disp (dd_cons (d_tup (a_cons d_str (a_cons (d_tup (a_cons d_str a_nil)) (a_cons (d_tup (a_cons d_str (a_cons (d_tup (a_cons d_str (a_cons (dv 1) (a_cons (dv 0) a_nil)))) (a_cons d_int (a_cons d_int a_nil))))) a_nil)))) dd_nil)) a_nil))).p.q))
  (ss_cons (s_own (i := 6) sc__law_menu.nd rfl (.inl rfl) (f_op (o_cat) (qv 6) (f_lst (a_cons (d_disp (dd_cons (d_tup (a_cons d_str (a_cons (d_tup (a_cons d_str (a_cons (dv 1) (a_cons (dv 0) a_nil)))) (a_cons d_int (a_cons d_int a_nil))))) dd_nil)) (a_cons (d_disp (dd_cons (d_tup (a_cons d_str (a_cons (d_tup (a_cons d_str (a_cons d_str a_nil))) (a_cons (d_tup (a_cons d_str (a_cons d_str a_nil))) a_nil)))) (dd_cons (d_tup (a_cons d_str (a_cons (dv 1) (a_cons (d_tup (a_cons d_str (a_cons (dv 0) (a_cons (d_tup (a_cons d_str (a_cons (dv 0) (a_cons d_int (a_cons d_int a_nil))))) a_nil)))) a_nil)))) dd_nil))) a_nil))).p.q))
  (ss_cons (s_append 6 (d_disp (dd_cons (d_tup (a_cons d_str (a_cons (d_tup (a_cons d_str (a_cons (d_tup (a_cons d_str (a_cons (dv 0) (a_cons d_int (a_cons d_int a_nil))))) (a_cons d_int (a_cons d_int a_nil))))) (a_cons d_int (a_cons d_non a_nil))))) dd_nil)))
  (ss_one (s_frz 6 (s_ret (dv 6)))))))))))))))))))) (fun ds Q h => ?_)

  · obtain ⟨d, ⟨rfl, _⟩, _⟩ := h; rfl
  · obtain ⟨d, ⟨rfl, rfl⟩, q⟩ := h
    refine ⟨Nat.le_of_ble_eq_true rfl, ?_⟩
    refine ⟨Nat.le_of_ble_eq_true rfl, ?_⟩
    refine ⟨Nat.le_of_ble_eq_true rfl, ?_⟩
    refine ⟨Nat.le_of_ble_eq_true rfl, ?_⟩
    refine ⟨Nat.le_of_ble_eq_true rfl, ?_⟩
    refine ⟨Nat.le_of_ble_eq_true rfl, ?_⟩
    refine ⟨Nat.le_of_ble_eq_true rfl, ?_⟩
    refine ⟨Nat.le_of_ble_eq_true rfl, ?_⟩
    refine ⟨Nat.le_of_ble_eq_true rfl, ?_⟩
    refine ⟨Nat.le_of_ble_eq_true rfl, ?_⟩
    exact q
end
end DL

namespace DL
variable [Tbs]
open PySem L2
section
variable {P : Program} {w : World} {K : PySem.W.Frag} {mg : Str → Option Value} {base : Heap} {W : Ad}
/-! ### _law_spec -/
def r__law_spec : Rf := fun ds Q => ∃ n : Nat, ds = [.int (n : Nat)] ∧ ∀ sp ∈ menu', ∀ s, (eqs sp s).isSome = true → Q (.tup [encSp sp, .str s])
theorem mono__law_spec : MonoR r__law_spec := fun ds Q Q' i ⟨n, e, q⟩ => ⟨n, e, fun sp h s k => i _ (q sp h s k)⟩
theorem menu_small : (menu'.all fun sp => decide (sp.length < 64) && decide (0 < sp.length)) = true := by decide +kernel
theorem eqs_some {x : Str} : ∀ {sp : Sp'}, x ∈ sp.map (·.1) → (eqs sp x).isSome = true
  | [], h => by cases h
  | (s, e) :: sp, h => by
    unfold eqs
    by_cases c : s = x
    · rw [if_pos c]; rfl
    · rw [if_neg c]
      rcases List.mem_cons.mp h with h | h
      · exact absurd h.symm c
      · exact eqs_some h
theorem ok__law_spec (T : Tx K mg W) (Dd : Df K mg "_law_spec" s__law_spec ["number"]) (C__law_menu : Cal P w K mg base CX0 1 "_law_menu" [] (spW K (relR r__law_menu))) : Cal P w K mg base CX0 2 "_law_spec" ["number"] (spW K r__law_spec) := by
  refine cal_ok Dd sc__law_spec (fun ds Q h => ?_) (fun f cdv A outer s H E hr => 
  (ss_cons (s_set (i := 1) sc__law_spec.nd rfl (.inl rfl) (d_call0 C__law_menu relR_mono (hr.mono (by decide))))
  (ss_cons (s_set (i := 2) sc__law_spec.nd rfl (.inl rfl) (d_ix (qv 1) (d_op o_mod (d_callT c_int T.n_int (b_cons (qv 0) b_nil)).q (d_callB (c_len) T.n_len (b_cons (qv 1) b_nil)).q).q))
  (ss_cons (s_set (i := 3) sc__law_spec.nd rfl (.inl rfl) (f_callB (c_sortedDic) T.n_sorted (b_cons (qv 2) b_nil)).p)
  (ss_one (s_ret (d_tup (a_cons (dv 2) (a_cons (d_ix (qv 3) (d_op o_mod (d_op o_div (d_callT c_int T.n_int (b_cons (qv 0) b_nil)).q (d_callB (c_len) T.n_len (b_cons (qv 1) b_nil)).q).q (d_callB (c_len) T.n_len (b_cons (qv 3) b_nil)).q).q) a_nil))))))))) (fun ds Q h => ?_)

  · obtain ⟨n, rfl, _⟩ := h; rfl
  · obtain ⟨n, rfl, q⟩ := h
    refine ⟨_, ⟨rfl, rfl⟩, ?_⟩
    have ln : (menu'.map encSp).length = 18 := rfl
    refine ⟨md (by rw [ln]; decide), ?_⟩
    obtain ⟨a, ea, ha⟩ := mod_nat (n : Int) (m := ((menu'.map encSp).length : Nat)) (by rw [ln]; decide)
    show onSome (ixD (menu'.map encSp) ((n : Int) % ((menu'.map encSp).length : Nat))) _
    rw [ea]
    rw [ln] at ha
    have ha2 : a < menu'.length := by show a < 18; omega
    have eg : ixD (menu'.map encSp) (a : Int) = some (encSp menu'[a]) := by
      show (menu'.map encSp)[a]? = _
      rw [List.getElem?_map, List.getElem?_eq_getElem ha2]; rfl
    refine onSome_of eg ?_
    have hm : menu'[a] ∈ menu' := List.getElem_mem _
    generalize menu'[a] = sp at hm
    have sm := menu_small
    rw [List.all_eq_true] at sm
    have sm := sm sp hm
    rw [Bool.and_eq_true, decide_eq_true_iff, decide_eq_true_iff] at sm
    refine ⟨sp.map (·.1), by rw [List.map_map]; rfl, by rw [List.length_map]; exact sm.1, fun ys pm so => ?_⟩
    have hl : ys.length = sp.length := by rw [pm.length_eq, List.length_map]
    refine ⟨divS (by rw [ln]; decide) (by rw [ln]; decide), md (by rw [List.length_map]; omega), ?_⟩
    obtain ⟨b, eb, hb⟩ := mod_nat ((n : Int) / ((menu'.map encSp).length : Nat)) (m := ((ys.map D.str).length : Nat)) (by rw [List.length_map]; omega)
    show onSome (ixD (ys.map D.str) ((n : Int) / ((menu'.map encSp).length : Nat) % ((ys.map D.str).length : Nat))) _
    rw [eb]
    rw [List.length_map] at hb
    have hb2 : b < ys.length := by omega
    have eg2 : ixD (ys.map D.str) (b : Int) = some (.str ys[b]) := by
      show (ys.map D.str)[b]? = _
      rw [List.getElem?_map, List.getElem?_eq_getElem hb2]; rfl
    refine onSome_of eg2 ?_
    exact q sp hm _ (eqs_some (pm.mem_iff.mp (List.getElem_mem hb2)))
/-! ### _law_order -/
def up (n : Nat) : List Nat := (List.range n).map (· + 1)
theorem rg_up1 (n : Nat) : rgD 1 ((n : Int) + 1) = natsD (up n) := by
  unfold rgD natsD up
  rw [List.map_map, show ((n : Int) + 1 - 1).toNat = n by omega]
  refine List.map_congr_left fun k _ => ?_
  show D.int (1 + (k : Int)) = D.int ((k + 1 : Nat) : Int)
  congr 1
  omega
theorem up_len (n : Nat) : (up n).length = n := by unfold up; rw [List.length_map, List.length_range]
theorem seqIx {x m : Nat} (h : 0 < m) : seqIndex? ((x : Int) % (m : Int)) m = some (x % m) := by
  have e : (x : Int) % (m : Int) = ((x % m : Nat) : Int) := (Int.natCast_emod x m).symm
  have l := Nat.mod_lt x h
  rw [e]
  have j0 : ¬ ((x % m : Nat) : Int) < 0 := by omega
  unfold seqIndex?
  simp only [if_neg j0]
  rw [if_pos (by rw [Bool.and_eq_true, decide_eq_true_iff, decide_eq_true_iff]; omega)]
  rfl
theorem natsD_erase (l : List Nat) (t : Nat) : (natsD l).eraseIdx t = natsD (l.eraseIdx t) := by
  unfold natsD
  rw [List.eraseIdx_eq_take_drop_succ, List.eraseIdx_eq_take_drop_succ, List.map_append, List.map_take, List.map_drop]
theorem erase_perm : ∀ {l : List Nat} {t : Nat} (h : t < l.length), (l[t] :: l.eraseIdx t).Perm l
  | x :: l, 0, _ => List.Perm.refl _
  | x :: l, t + 1, h => by
    have := erase_perm (l := l) (t := t) (by simpa using h)
    exact (List.Perm.swap x _ _).trans (this.cons x)
def r__law_order : Rf := fun ds Q => ∃ (c : Int) (n : Nat), ds = [.int c, .int (n : Nat)] ∧ n ≤ 100 ∧ ∀ l : List Nat, l.Perm (up n) → Q (.lst (natsD l))
theorem mono__law_order : MonoR r__law_order := fun ds Q Q' i ⟨c, n, e, h, q⟩ => ⟨c, n, e, h, fun l k => i _ (q l k)⟩
theorem ok__law_order (T : Tx K mg W) (Dd : Df K mg "_law_order" s__law_order ["cell", "size"]) (C__law_digits : Cal P w K mg base CX0 2 "_law_digits" ["cell", "count", "many"] (spW K r__law_digits)) : Cal P w K mg base CX0 3 "_law_order" ["cell", "size"] (spW K r__law_order) := by
  refine cal_ok Dd sc__law_order (fun ds Q h => ?_) (fun f cdv A outer s H E hr => 
  (ss_cons (s_parOO (i := 2) (j := 3) sc__law_order.nd rfl rfl (f_listRg T.n_list (r_2 T.n_range d_int.q (d_op (o_add) (qv 1) d_int.q).q)) (f_lst a_nil))
  (ss_cons (s_for PassesOwn.never (i_list (d_call C__law_digits mono__law_digits (hr.mono (by decide)) (a_cons (dv 0) (a_cons (dv 1) (a_cons d_int a_nil))))) (g_name (i := 4) sc__law_order.nd rfl (.inl rfl)) (
    (ss_one (s_appM 3 (m_pop (i := 2) (d_op o_mod (qv 4) (d_callB (c_len) T.n_len (b_cons (qv 2) b_nil)).q).q)))))
  (ss_one (s_frz 3 (s_ret (dv 3))))))) (fun ds Q h => ?_)

  · obtain ⟨c, n, rfl, _⟩ := h; rfl
  · obtain ⟨c, n, rfl, hn, q⟩ := h
    refine ⟨rgb (by decide) (by decide) (by omega) (by omega) (by omega), ?_⟩
    refine ⟨c, n, 720, rfl, by omega, by decide, by decide, fun dg hl hb => ?_⟩
    rw [rg_up1]
    refine loop_inv (fun i δ => ∃ (l o : List Nat) (x4 : Sl), δ = [.d (.int c), .d (.int n), .own (natsD l), .own (natsD o), x4] ∧ (o ++ l).Perm (up n) ∧ o.length = i) ⟨up n, [], .no, rfl, List.Perm.refl _, rfl⟩ ?_ ?_
    · rintro i x δ ex ⟨l, o, x4, rfl, hp, ho⟩ N hN
      obtain ⟨g, eg, rfl⟩ := natsD_of ex
      have hi : i < n := by have := (List.getElem?_eq_some_iff.mp eg).1; omega
      have pl := hp.length_eq
      rw [List.length_append, up_len] at pl
      have ll : 0 < l.length := by omega
      have lt := Nat.mod_lt g ll
      refine ⟨md (by rw [natsD_len]; omega), ?_⟩
      show onSome (seqIndex? ((g : Int) % ((natsD l).length : Int)) (natsD l).length) _
      rw [natsD_len]
      refine onSome_of (seqIx ll) ?_
      refine onSome_of (natsD_get (List.getElem?_eq_getElem lt)) ⟨⟨?_, ?_⟩, lt_lim (by rw [natsD_len]; omega), hN _ ⟨l.eraseIdx (g % l.length), o ++ [l[g % l.length]], .d (.int (g : Nat)), ?_, ?_, by rw [List.length_append, List.length_singleton]; omega⟩⟩
      · have := Int.emod_nonneg (g : Int) (by omega : (l.length : Int) ≠ 0); omega
      · have := Int.emod_lt_of_pos (g : Int) (by omega : 0 < (l.length : Int)); omega
      · rw [natsD_app, ← natsD_erase]; rfl
      · rw [List.append_assoc, List.singleton_append]
        exact (List.Perm.append_left _ (erase_perm lt)).trans hp
    · rintro δ ⟨l, o, x4, rfl, hp, ho⟩
      rw [natsD_len, hl] at ho
      have pl := hp.length_eq
      rw [List.length_append, up_len] at pl
      obtain rfl : l = [] := List.length_eq_zero_iff.mp (by omega)
      rw [List.append_nil] at hp
      exact q o hp
end
end DL

namespace DL
variable [Tbs]
open PySem L2
section
variable {P : Program} {w : World} {K : PySem.W.Frag} {mg : Str → Option Value} {base : Heap} {W : Ad}
/-! ### _law_numbered -/
mutual
def numT : Tr → List Nat → Tr
  | .atom l, [] => .atom l
  | .atom _, x :: _ => .atom (some x)
  | .node w ps, ls => .node w (numTs ps ls)
def numTs : List Tr → List Nat → List Tr
  | [], _ => []
  | p :: ps, ls => numT p ls :: numTs ps (ls.drop (sizeT p))
end
theorem num_len : ∀ (ps : List Tr) (ls : List Nat), (numTs ps ls).length = ps.length
  | [], _ => by rw [numTs]
  | p :: ps, ls => by rw [numTs, List.length_cons, num_len ps, List.length_cons]
theorem num_get : ∀ (ps : List Tr) (ls : List Nat) {q : Tr}, q ∈ numTs ps ls → ∃ p ∈ ps, ∃ ls', q = numT p ls'
  | [], ls, q, h => by rw [numTs] at h; cases h
  | p :: ps, ls, q, h => by
    rw [numTs] at h
    rcases List.mem_cons.mp h with rfl | h
    · exact ⟨p, List.mem_cons_self, ls, rfl⟩
    · obtain ⟨p', h1, h2⟩ := num_get ps _ h
      exact ⟨p', List.mem_cons_of_mem _ h1, h2⟩
theorem num_size : ∀ (t : Tr) (ls : List Nat), sizeT (numT t ls) = sizeT t := by
  refine Tr.ind (fun l ls => by cases ls <;> rw [numT] <;> rfl) fun w ps ih ls => ?_
  rw [numT, size_node, size_node]
  induction ps generalizing ls with
  | nil => rw [numTs]
  | cons p ps ih2 =>
    rw [numTs, List.map_cons, List.sum_cons, List.map_cons, List.sum_cons, ih p List.mem_cons_self, ih2 (fun q hq => ih q (List.mem_cons_of_mem _ hq))]
theorem num_labs : ∀ (t : Tr) (ls : List Nat), sizeT t ≤ ls.length → labs (numT t ls) = ls.take (sizeT t) := by
  refine Tr.ind (fun l ls h => ?_) fun w ps ih ls h => ?_
  · cases ls with
    | nil => simp [sizeT] at h
    | cons x ls => rw [numT, labs, sizeT]; rfl
  · rw [numT, labs_node, size_node] at *
    induction ps generalizing ls with
    | nil => rw [numTs]; simp
    | cons p ps ih2 =>
      rw [List.map_cons, List.sum_cons] at h ⊢
      rw [numTs, List.flatMap_cons, ih p List.mem_cons_self ls (by omega), ih2 (fun q hq => ih q (List.mem_cons_of_mem _ hq)) _ (by rw [List.length_drop]; omega)]
      rw [List.take_add]
theorem num_form {sp : Sp'} {e : Ex'} {t : Tr} (h : Form sp e t) : ∀ ls, Form sp e (numT t ls) := by
  induction h with
  | name he _ ih => exact fun ls => .name he (ih ls)
  | one => intro ls; rw [numT, numTs]; exact .one
  | atom l => intro ls; cases ls <;> rw [numT] <;> exact .atom _
  | left _ ih => intro ls; rw [numT, numTs, numTs]; exact .left (ih ls)
  | right _ ih => intro ls; rw [numT, numTs, numTs]; exact .right (ih ls)
  | and _ _ ih1 ih2 => intro ls; rw [numT, numTs, numTs, numTs]; exact .and (ih1 ls) (ih2 _)
  | mem h1 h2 h3 h4 ih =>
    intro ls
    rw [numT]
    refine .mem (by rw [num_len]; exact h1) (by rw [num_len]; exact h2) (fun h e => by rw [num_len]; exact h3 h e) fun q hq => ?_
    obtain ⟨p, hp, ls', rfl⟩ := num_get _ _ hq
    exact ih p hp ls'
theorem num_wf : ∀ (t : Tr) (ls : List Nat), wfT t = true → wfT (numT t ls) = true := by
  refine Tr.ind (fun l ls h => by cases ls <;> rw [numT] <;> rfl) fun w ps ih ls h => ?_
  obtain ⟨h1, h2⟩ := wf_node.mp h
  rw [numT]
  refine wf_node.mpr ⟨by rw [num_len]; exact h1, fun q hq => ?_⟩
  obtain ⟨p, hp, ls', rfl⟩ := num_get _ _ hq
  exact ih p hp ls' (h2 p hp)
theorem num_dep : ∀ (t : Tr) (ls : List Nat), dep (numT t ls) = dep t := by
  refine Tr.ind (fun l ls => by cases ls <;> rw [numT, dep] <;> rfl) fun w ps ih ls => ?_
  rw [numT, dep_node, dep_node]
  congr 1
  induction ps generalizing ls with
  | nil => rw [numTs]
  | cons p ps ih2 => rw [numTs, deps, deps, ih p List.mem_cons_self, ih2 (fun q hq => ih q (List.mem_cons_of_mem _ hq))]
theorem num_nodes : ∀ (t : Tr) (ls : List Nat), nodes (numT t ls) = nodes t := by
  refine Tr.ind (fun l ls => by cases ls <;> rw [numT, nodes] <;> rfl) fun w ps ih ls => ?_
  rw [numT, nodes_node, nodes_node]
  congr 1
  induction ps generalizing ls with
  | nil => rw [numTs]
  | cons p ps ih2 => rw [numTs, List.map_cons, List.sum_cons, List.map_cons, List.sum_cons, ih p List.mem_cons_self, ih2 (fun q hq => ih q (List.mem_cons_of_mem _ hq))]
def r__law_numbered (m : Nat) : Rm := fun as l bs Q => ∃ (t : Tr) (ls : List Nat), as = [encT t] ∧ l = natsD ls ∧ bs = [] ∧ wfT t = true ∧ dep t < m ∧ sizeT t ≤ ls.length ∧ nodes t ≤ 100000 ∧ Q (encT (numT t ls)) (natsD (ls.drop (sizeT t)))
theorem mono__law_numbered {m : Nat} : MonoRm (r__law_numbered m) := fun as l bs Q Q' i ⟨t, ls, a, b, c, d, e, f, g, q⟩ => ⟨t, ls, a, b, c, d, e, f, g, i _ _ q⟩
theorem num_lc {E : D} {q : Addr} {Q : List D → List Sl → Prop} {m : Nat} : ∀ (ps : List Tr) (ls : List Nat) (acc : List D), (∀ p ∈ ps, wfT p = true ∧ dep p < m ∧ nodes p ≤ 100000) → (ps.map sizeT).sum ≤ ls.length →
    Q (acc ++ (numTs ps ls).map encT) [.d E, .ownA q (natsD (ls.drop (ps.map sizeT).sum)), .no] → lcRunM (gN 2) tYesD (mCallM 1 (r__law_numbered m) (hCons (toM (dV 2)) (hHere 1 mNil))) [2] Q (ps.map encT) acc [.d E, .ownA q (natsD ls), .no]
  | [], ls, acc, _, _, k => by
    rw [numTs, List.map_nil, List.append_nil, List.map_nil, List.sum_nil, List.drop_zero] at k
    exact k
  | p :: ps, ls, acc, h, hl, k => by
    obtain ⟨h1, h2, h3⟩ := h p List.mem_cons_self
    rw [List.map_cons, List.sum_cons] at hl k
    refine ⟨p, ls, rfl, rfl, rfl, h1, h2, by omega, h3, ?_⟩
    refine num_lc ps (ls.drop (sizeT p)) _ (fun r hr => h r (List.mem_cons_of_mem _ hr)) (by rw [List.length_drop]; omega) ?_
    rw [numTs, List.map_cons] at k
    rw [List.append_assoc, List.drop_drop]
    exact k
theorem seq0 {n : Nat} (h : 0 < n) : seqIndex? 0 n = some 0 := by
  have := seqIx (x := 0) h
  simpa using this
theorem ok__law_numbered_s (m : Nat) (T : Tx K mg W) (Dd : Df K mg "_law_numbered" s__law_numbered ["structure", "labels"]) (C__law_numbered : Cal P w K mg base CX0 (2 + m) "_law_numbered" ["structure", "labels"] (spM K (r__law_numbered m))) (C__law_with : Cal P w K mg base CX0 1 "_law_with" ["structure", "parts"] (spW K (relR r__law_with))) (C__law_parts : Cal P w K mg base CX0 1 "_law_parts" ["structure"] (spW K (relR r__law_parts))) : Cal P w K mg base CX0 (2 + m + 1) "_law_numbered" ["structure", "labels"] (spM K (r__law_numbered (m + 1))) := by
  refine cal_okM 1 Dd sc__law_numbered (fun as l bs Q h => ?_) (fun f cdv A outer s H E hr => 
  (ss_cons (s_if (t_cmp (o_eq (hu64 hr)) (d_ix (qv 0) d_int.q).q d_str.q) (
    (ss_one (s_retM (m_tup (ma_cons d_str.m (ma_cons (m_pop (i := 1) d_int.q) ma_nil)))))) (ss_nil))
  (ss_one (s_retM (m_call C__law_with relR_mono (hr.mono (by omega)) (ma_cons (dv 0).m (ma_cons (m_lc sc__law_numbered.nd (i_list (d_call C__law_parts relR_mono (hr.mono (by omega)) (a_cons (dv 0) a_nil))) (blkOk_by (own := [("part", 2)]) (N := ["structure", "labels", "part"]) (sc := defScope s__law_numbered) (by decide +kernel)) (fun _ _ _ _ _ => (g_name (i := 2) sc__law_numbered.nd rfl (.inl rfl))) (fun _ _ _ _ _ => ts_nil) (fun _ _ _ _ _ => (m_callM C__law_numbered mono__law_numbered (hr.mono (by omega)) (h_cons (dv 2).m (h_here 1 ma_nil))))) ma_nil))))))) (fun q as l bs Q h => ?_)

  · obtain ⟨t, ls, rfl, rfl, rfl, _⟩ := h; rfl
  · obtain ⟨t, ls, rfl, rfl, rfl, hw, hd, hl, hs, k⟩ := h
    refine ix0 t ?_
    cases t with
    | atom l0 =>
      show oEq (.str "atom") (.str "atom") _
      refine oEqS (by decide +kernel) (by decide +kernel) rfl ?_
      cases ls with
      | nil => simp [sizeT] at hl
      | cons x ls =>
        refine onSome_of (seq0 (by rw [natsD_len, List.length_cons]; omega)) ?_
        · refine ⟨⟨by decide, by decide⟩, rfl, ?_⟩
          rw [numT, encT, sizeT] at k
          exact k
    | node w ps =>
      show oEq (.str w.s) (.str "atom") _
      refine oEqS (okW w) (by decide +kernel) (w_atom w) ?_
      rw [size_node] at hl k
      refine ⟨_, ⟨.node w ps, rfl, hw, rfl⟩, ?_⟩
      have ha := (wf_node.mp hw).1
      refine num_lc ps ls [] (fun p hp => ⟨parts_wf hw p hp, dep_parts hd hp, ?_⟩) hl ?_
      · have := nodes_mem hp; rw [nodes_node] at hs; omega
      · refine ⟨_, .inl ⟨w, ps, numTs ps ls, rfl, ha, by rw [num_len]; exact ha, ?_, rfl⟩, rfl, ?_⟩
        · rw [num_len]
          have := len_nodes ps
          rw [nodes_node] at hs
          omega
        · rw [numT] at k
          exact k
end
end DL

namespace DL
variable [Tbs]
open PySem L2
section
variable {P : Program} {w : World} {K : PySem.W.Frag} {mg : Str → Option Value} {base : Heap} {W : Ad}
/-! ### _law_made -/
def r__law_made (m : Nat) : Rm := fun as l bs Q => ∃ (sp : Sp') (e : Ex') (room pl : Nat) (dr : List Nat), as = [encSp sp, encE e, .int (room : Nat), .lst (natsD dr)] ∧ l = [.int (pl : Nat)] ∧ bs = [] ∧ valid sp = true ∧ okE sp e = true ∧ dr.length = 30 ∧ room ≤ 60 ∧ 4 * room + cl (aM sp) (aL sp) e ≤ m ∧
  (∀ pl' : Nat, Q .non [.int (pl' : Nat)]) ∧ ∀ (t : Tr) (pl' : Nat), Form sp e t → labs t = [] → sizeT t ≤ room → Q (encT t) [.int (pl' : Nat)]
theorem mono__law_made {m : Nat} : MonoRm (r__law_made m) := fun as l bs Q Q' i ⟨sp, e, room, pl, dr, a1, a2, a3, a4, a5, a6, a7, a8, q1, q2⟩ => ⟨sp, e, room, pl, dr, a1, a2, a3, a4, a5, a6, a7, a8, fun p => i _ _ (q1 p), fun t p b1 b2 b3 => i _ _ (q2 t p b1 b2 b3)⟩
theorem look_sp {sp : Sp'} {s : Str} {e : Ex'} (h : eqs sp s = some e) : lookD (sp.map fun p => (Sum.inr p.1 : L2.Key)) (sp.map fun p => encE p.2) (.inr s) = some (encE e) := by
  induction sp with
  | nil => cases h
  | cons p sp ih =>
    obtain ⟨x, f⟩ := p
    unfold eqs at h
    rw [List.map_cons, List.map_cons]
    unfold lookD
    by_cases c : x = s
    · rw [if_pos c] at h
      cases h
      rw [if_pos (by rw [c])]
    · rw [if_neg c] at h
      rw [if_neg (fun z => c (Sum.inr.inj z))]
      exact ih h
theorem isNon_enc (t : Tr) : isNon (encT t) = false := by rw [enc_shape]; rfl
structure WNo (w : Wd) : Prop where
  nm : (w.s == ("name" : Str)) = false
  no : (w.s == ("none" : Str)) = false
  aw : (w.s == ("atom" : Str)) = false
  o : (w.s == ("or" : Str)) = false
  a : (w.s == ("and" : Str)) = false
  on : inD (.str w.s) [.str "one", .str "atom"] = false
theorem w_no {w : Wd} (h : w.mem = true) : WNo w := by
  cases w <;> first | exact absurd h (by decide) | exact ⟨by decide +kernel, by decide +kernel, by decide +kernel, by decide +kernel, by decide +kernel, by decide +kernel⟩
theorem ok__law_made_s (m : Nat) (T : Tx K mg W) (Dd : Df K mg "_law_made" s__law_made ["equations", "expression", "room", "draws", "place"]) (C__law_made : Cal P w K mg base CX0 (4 + m) "_law_made" ["equations", "expression", "room", "draws", "place"] (spM K (r__law_made m))) (C__law_size : Cal P w K mg base CX0 (2 + (m + 1)) "_law_size" ["structure"] (spW K (relR (r__law_size (m + 1))))) : Cal P w K mg base CX0 (4 + m + 1) "_law_made" ["equations", "expression", "room", "draws", "place"] (spM K (r__law_made (m + 1))) := by
  refine cal_okM 4 Dd sc__law_made (fun as l bs Q h => ?_) (fun f cdv A outer s H E hr => 
  (ss_cons (s_set (i := 5) sc__law_made.nd rfl (.inl rfl) (d_ix (qv 1) d_int.q))
  (ss_cons (s_putM 4 d_int.q (d_op (o_add) (d_ix (qv 4) d_int.q).q d_int.q))
  (ss_cons (s_set (i := 6) sc__law_made.nd rfl (.inl rfl) (d_op (o_add) (d_ix (qv 3) (d_op o_mod (d_ix (qv 4) d_int.q).q (d_callB (c_len) T.n_len (b_cons (qv 3) b_nil)).q).q).q (d_op o_div (d_ix (qv 4) d_int.q).q (d_callB (c_len) T.n_len (b_cons (qv 3) b_nil)).q).q))
  (ss_cons (s_if (t_cmp (o_eq (hu64 hr)) (qv 5) d_str.q) (
    (ss_one (s_retM (m_callM C__law_made mono__law_made (hr.mono (by omega)) (h_cons (dv 0).m (h_cons (d_dget (qv 0) (d_ix (qv 1) d_int.q).q (hu64 hr)).m (h_cons (dv 2).m (h_cons (dv 3).m (h_here 4 ma_nil))))))))) (ss_nil))
  (ss_cons (s_if (w_or (t_cmp (o_eq (hu64 hr)) (qv 5) d_str.q) (w_or1 (w_and (t_cmp (o_eq (hu64 hr)) (qv 5) d_str.q) (w_and1 (t_cmp (o_eq (hu64 hr)) (qv 2) d_int.q))).t)).t (
    (ss_one (s_retM d_non.m))) (ss_nil))
  (ss_cons (s_if (t_cmp (o_in) (qv 5) (d_tup (a_cons d_str (a_cons d_str a_nil))).q) (
    (ss_one (s_retM (d_tup (a_cons (dv 5) a_nil)).m))) (ss_nil))
  (ss_cons (s_if (t_cmp (o_eq (hu64 hr)) (qv 5) d_str.q) (
    (ss_cons (s_set (i := 7) sc__law_made.nd rfl (.inl rfl) (f_lst (a_cons (d_op (o_add) d_int.q (d_op o_mod (qv 6) d_int.q).q) (a_cons (d_op o_sub d_int.q (d_op o_mod (qv 6) d_int.q).q) a_nil))).p)
    (ss_cons (s_for PassesOwn.never (i_list (dv 7)) (g_name (i := 8) sc__law_made.nd rfl (.inl rfl)) (
      (ss_cons (s_setM (i := 9) sc__law_made.nd rfl (.inl rfl) (m_callM C__law_made mono__law_made (hr.mono (by omega)) (h_cons (dv 0).m (h_cons (d_ix (qv 1) (qv 8)).m (h_cons (dv 2).m (h_cons (dv 3).m (h_here 4 ma_nil)))))))
      (ss_one (s_if (t_notN (qv 9)) (
        (ss_one (s_retM (d_tup (a_cons (d_ix (f_lst (a_cons d_str (a_cons d_str a_nil))).p.q (d_op o_sub (qv 8) d_int.q).q) (a_cons (dv 9) a_nil))).m))) (ss_nil))))))
    (ss_one (s_retM d_non.m))))) (ss_nil))
  (ss_cons (s_if (t_cmp (o_eq (hu64 hr)) (qv 5) d_str.q) (
    (ss_cons (s_setM (i := 10) sc__law_made.nd rfl (.inl rfl) (m_callM C__law_made mono__law_made (hr.mono (by omega)) (h_cons (dv 0).m (h_cons (d_ix (qv 1) d_int.q).m (h_cons (dv 2).m (h_cons (dv 3).m (h_here 4 ma_nil)))))))
    (ss_cons (s_if (t_isN (qv 10)) (
      (ss_one (s_retM d_non.m))) (ss_nil))
    (ss_cons (s_setM (i := 11) sc__law_made.nd rfl (.inl rfl) (m_callM C__law_made mono__law_made (hr.mono (by omega)) (h_cons (dv 0).m (h_cons (d_ix (qv 1) d_int.q).m (h_cons (d_op o_sub (qv 2) (d_call C__law_size relR_mono (hr.mono (by omega)) (a_cons (dv 10) a_nil)).q).m (h_cons (dv 3).m (h_here 4 ma_nil)))))))
    (ss_one (s_retM (d_if (t_isN (qv 11)) d_non (d_tup (a_cons d_str (a_cons (dv 10) (a_cons (dv 11) a_nil))))).m)))))) (ss_nil))
  (ss_cons (s_set (i := 12) sc__law_made.nd rfl (.inl rfl) (d_tup a_nil))
  (ss_cons (s_set (i := 13) sc__law_made.nd rfl (.inl rfl) (d_op (o_add) (d_ix (qv 1) d_int.q).q (d_op o_mod (qv 6) d_int.q).q))
  (ss_cons (s_if (t_notN (d_ix (qv 1) d_int.q).q) (
    (ss_one (s_set (i := 13) sc__law_made.nd rfl (.inl rfl) (d_callB (c_min2) T.n_min (b_cons (qv 13) (b_cons (d_ix (qv 1) d_int.q).q b_nil)))))) (ss_nil))
  (ss_cons (s_for PassesOwn.never (i_range1 T.n_range (qv 13)) (g_name (i := 14) sc__law_made.nd rfl (.inl rfl)) (
    (ss_cons (s_setM (i := 9) sc__law_made.nd rfl (.inl rfl) (m_callM C__law_made mono__law_made (hr.mono (by omega)) (h_cons (dv 0).m (h_cons (d_ix (qv 1) d_int.q).m (h_cons (dv 2).m (h_cons (dv 3).m (h_here 4 ma_nil)))))))
    (ss_one (s_if (t_notN (qv 9)) (
      (ss_cons (s_set (i := 12) sc__law_made.nd rfl (.inl rfl) (d_op (o_add) (qv 12) (d_tup (a_cons (dv 9) a_nil)).q))
      (ss_one (s_set (i := 2) sc__law_made.nd rfl (.inl rfl) (d_op o_sub (qv 2) (d_call C__law_size relR_mono (hr.mono (by omega)) (a_cons (dv 9) a_nil)).q))))) (ss_nil))))))
  (ss_one (s_retM (d_if (t_cmp o_ge (d_callB (c_len) T.n_len (b_cons (qv 12) b_nil)).q (d_ix (qv 1) d_int.q).q) (d_tup (a_cons (dv 5) (a_cons (dv 12) a_nil))) d_non).m))))))))))))))) (fun q as l bs Q h => ?_)

  · obtain ⟨sp, e, room, pl, dr, rfl, rfl, rfl, _⟩ := h; rfl
  · obtain ⟨sp, e, room, pl, dr, rfl, rfl, rfl, hv, hok, hdr, hr60, hm, q1, q2⟩ := h
    obtain ⟨a, ea, ha⟩ := mod_nat ((pl : Int) + 1) (m := ((natsD dr).length : Nat)) (by rw [natsD_len]; omega)
    rw [natsD_len] at ha
    obtain ⟨g, eg⟩ : ∃ g : Nat, ixD (natsD dr) (a : Int) = some (.int (g : Nat)) := ⟨_, natsD_get (List.getElem?_eq_getElem (by omega : a < dr.length))⟩
    have r1 : ∀ {pl' : Nat} {δ : List Sl}, sl δ 4 = .ownA q [.int (pl' : Nat)] → atA q 4 δ (Q .non) := fun {pl' δ} h => by unfold atA; rw [h]; exact ⟨rfl, q1 pl'⟩
    cases e with
    | name s =>
      refine ⟨md (by rw [natsD_len]; omega), ?_⟩
      show onSome (ixD (natsD dr) (((pl : Int) + 1) % ((natsD dr).length : Nat))) _
      rw [ea]
      refine onSome_of eg ⟨divS (by rw [natsD_len]; omega) (by rw [natsD_len]; omega), ?_⟩
      show oEq (.str "name") (.str "name") _
      refine oEqS (a := "name") (b := "name") (r := true) (by decide +kernel) (by decide +kernel) (by decide +kernel) ?_
      unfold okE at hok
      cases he : eqs sp s with
      | none => rw [he] at hok; cases hok
      | some e' =>
        have v := val_of hv he
        refine onSome_of (look_sp he) ?_
        refine ⟨sp, e', room, pl + 1, dr, rfl, rfl, rfl, hv, v.ok, hdr, hr60, ?_, fun pl' => ⟨rfl, q1 pl'⟩, fun t pl' f l s => ⟨rfl, q2 t pl' (.name he f) l s⟩⟩
        have := v.l
        have hm : 4 * room + (1 + lk (aL sp) s) ≤ m + 1 := hm
        omega
    | none =>
      refine ⟨md (by rw [natsD_len]; omega), ?_⟩
      show onSome (ixD (natsD dr) (((pl : Int) + 1) % ((natsD dr).length : Nat))) _
      rw [ea]
      refine onSome_of eg ⟨divS (by rw [natsD_len]; omega) (by rw [natsD_len]; omega), ?_⟩
      show oEq (.str "none") (.str "name") _
      refine oEqS (a := "none") (b := "name") (r := false) (by decide +kernel) (by decide +kernel) (by decide +kernel) ?_
      show oEq (.str "none") (.str "none") _
      refine oEqS (a := "none") (b := "none") (r := true) (by decide +kernel) (by decide +kernel) (by decide +kernel) ?_
      exact ⟨rfl, q1 (pl + 1)⟩
    | atom =>
      refine ⟨md (by rw [natsD_len]; omega), ?_⟩
      show onSome (ixD (natsD dr) (((pl : Int) + 1) % ((natsD dr).length : Nat))) _
      rw [ea]
      refine onSome_of eg ⟨divS (by rw [natsD_len]; omega) (by rw [natsD_len]; omega), ?_⟩
      show oEq (.str "atom") (.str "name") _
      refine oEqS (a := "atom") (b := "name") (r := false) (by decide +kernel) (by decide +kernel) (by decide +kernel) ?_
      show oEq (.str "atom") (.str "none") _
      refine oEqS (a := "atom") (b := "none") (r := false) (by decide +kernel) (by decide +kernel) (by decide +kernel) ?_
      show oEq (.str "atom") (.str "atom") _
      refine oEqS (a := "atom") (b := "atom") (r := true) (by decide +kernel) (by decide +kernel) (by decide +kernel) ?_
      show ite (decide ((room : Int) = 0) = true) _ _
      refine yD (fun _ => ⟨rfl, q1 (pl + 1)⟩) (fun h0 => ?_)
      refine ⟨⟨rfl, rfl⟩, rfl, ?_⟩
      have := q2 (.atom none) (pl + 1) (.atom none) rfl (by rw [sizeT]; omega)
      rw [encT] at this
      exact this
    | one =>
      refine ⟨md (by rw [natsD_len]; omega), ?_⟩
      show onSome (ixD (natsD dr) (((pl : Int) + 1) % ((natsD dr).length : Nat))) _
      rw [ea]
      refine onSome_of eg ⟨divS (by rw [natsD_len]; omega) (by rw [natsD_len]; omega), ?_⟩
      show oEq (.str "one") (.str "name") _
      refine oEqS (a := "one") (b := "name") (r := false) (by decide +kernel) (by decide +kernel) (by decide +kernel) ?_
      show oEq (.str "one") (.str "none") _
      refine oEqS (a := "one") (b := "none") (r := false) (by decide +kernel) (by decide +kernel) (by decide +kernel) ?_
      show oEq (.str "one") (.str "atom") _
      refine oEqS (a := "one") (b := "atom") (r := false) (by decide +kernel) (by decide +kernel) (by decide +kernel) ?_
      refine ⟨⟨rfl, rfl⟩, rfl, ?_⟩
      have := q2 (.node .one []) (pl + 1) .one (by rw [labs_node]; rfl) (by rw [size_node]; simp)
      rw [enc_node] at this
      exact this
    | or x y =>
      refine ⟨md (by rw [natsD_len]; omega), ?_⟩
      show onSome (ixD (natsD dr) (((pl : Int) + 1) % ((natsD dr).length : Nat))) _
      rw [ea]
      refine onSome_of eg ⟨divS (by rw [natsD_len]; omega) (by rw [natsD_len]; omega), ?_⟩
      show oEq (.str "or") (.str "name") _
      refine oEqS (a := "or") (b := "name") (r := false) (by decide +kernel) (by decide +kernel) (by decide +kernel) ?_
      show oEq (.str "or") (.str "none") _
      refine oEqS (a := "or") (b := "none") (r := false) (by decide +kernel) (by decide +kernel) (by decide +kernel) ?_
      show oEq (.str "or") (.str "atom") _
      refine oEqS (a := "or") (b := "atom") (r := false) (by decide +kernel) (by decide +kernel) (by decide +kernel) ?_
      refine ⟨⟨rfl, rfl⟩, ?_⟩
      show oEq (.str "or") (.str "or") _
      refine oEqS (a := "or") (b := "or") (r := true) (by decide +kernel) (by decide +kernel) (by decide +kernel) ?_
      obtain ⟨w, hw⟩ : ∃ w : Int, w = (g : Int) + ((pl : Int) + 1) / ((natsD dr).length : Nat) := ⟨_, rfl⟩
      have ok2 : (unit x || unit y) = true ∧ okE sp x = true ∧ okE sp y = true := by unfold okE at hok; simpa [and_assoc] using hok
      have hm : 4 * room + (1 + max (cl (aM sp) (aL sp) x) (cl (aM sp) (aL sp) y)) ≤ m + 1 := hm
      have w2 : w % 2 = 0 ∨ w % 2 = 1 := by omega
      refine ⟨md (by decide), md (by decide), ?_⟩
      refine loop_inv (fun i δ => ∃ (pl2 : Nat) (x8 x9 : Sl), δ = [.d (encSp sp), .d (encE (.or x y)), .d (.int (room : Nat)), .d (.lst (natsD dr)), .ownA q [.int (pl2 : Nat)], .d (.str "or"), .d (.int ((g : Int) + ((pl : Int) + 1) / ((natsD dr).length : Nat))), .d (.lst [.int (1 + ((g : Int) + ((pl : Int) + 1) / ((natsD dr).length : Nat)) % 2), .int (2 - ((g : Int) + ((pl : Int) + 1) / ((natsD dr).length : Nat)) % 2)]), x8, x9, .no, .no, .no, .no, .no]) ⟨pl + 1, .no, .no, rfl⟩ ?_ ?_
      · rintro i z δ ez ⟨pl2, x8, x9, rfl⟩ N hN
        have hz : z = .int 1 ∨ z = .int 2 := by
          have := List.mem_of_getElem? ez
          rw [← hw] at this
          rcases List.mem_cons.mp this with rfl | this
          · rcases w2 with c | c <;> rw [c] <;> simp
          · rw [List.mem_singleton.mp this]
            rcases w2 with c | c <;> rw [c] <;> simp
        rcases hz with rfl | rfl
        · refine ⟨sp, x, room, pl2, dr, rfl, rfl, rfl, hv, ok2.2.1, hdr, hr60, by omega, fun pl' => hN _ ⟨pl', .d (.int 1), .d .non, rfl⟩, fun t pl' f l s => ?_⟩
          show ite ((!isNon (encT t)) = true) _ _
          refine yNB (fun _ => ⟨rfl, ?_⟩) (fun h => bne (isNon_enc t) h)
          have := q2 (.node .left [t]) pl' (.left f) (by rw [labs_node]; simp [l]) (by rw [size1]; exact s)
          rw [enc_node] at this
          exact this
        · refine ⟨sp, y, room, pl2, dr, rfl, rfl, rfl, hv, ok2.2.2, hdr, hr60, by omega, fun pl' => hN _ ⟨pl', .d (.int 2), .d .non, rfl⟩, fun t pl' f l s => ?_⟩
          show ite ((!isNon (encT t)) = true) _ _
          refine yNB (fun _ => ⟨rfl, ?_⟩) (fun h => bne (isNon_enc t) h)
          have := q2 (.node .right [t]) pl' (.right f) (by rw [labs_node]; simp [l]) (by rw [size1]; exact s)
          rw [enc_node] at this
          exact this
      · rintro δ ⟨pl2, x8, x9, rfl⟩
        exact ⟨rfl, q1 pl2⟩
    | and x y =>
      refine ⟨md (by rw [natsD_len]; omega), ?_⟩
      show onSome (ixD (natsD dr) (((pl : Int) + 1) % ((natsD dr).length : Nat))) _
      rw [ea]
      refine onSome_of eg ⟨divS (by rw [natsD_len]; omega) (by rw [natsD_len]; omega), ?_⟩
      show oEq (.str "and") (.str "name") _
      refine oEqS (a := "and") (b := "name") (r := false) (by decide +kernel) (by decide +kernel) (by decide +kernel) ?_
      show oEq (.str "and") (.str "none") _
      refine oEqS (a := "and") (b := "none") (r := false) (by decide +kernel) (by decide +kernel) (by decide +kernel) ?_
      show oEq (.str "and") (.str "atom") _
      refine oEqS (a := "and") (b := "atom") (r := false) (by decide +kernel) (by decide +kernel) (by decide +kernel) ?_
      refine ⟨⟨rfl, rfl⟩, ?_⟩
      show oEq (.str "and") (.str "or") _
      refine oEqS (a := "and") (b := "or") (r := false) (by decide +kernel) (by decide +kernel) (by decide +kernel) ?_
      show oEq (.str "and") (.str "and") _
      refine oEqS (a := "and") (b := "and") (r := true) (by decide +kernel) (by decide +kernel) (by decide +kernel) ?_
      have ok2 : okE sp x = true ∧ okE sp y = true := by unfold okE at hok; simpa using hok
      have hm : 4 * room + (1 + max (cl (aM sp) (aL sp) x) (cl (aM sp) (aL sp) y - 4 * ms (aM sp) x)) ≤ m + 1 := hm
      refine ⟨sp, x, room, pl + 1, dr, rfl, rfl, rfl, hv, ok2.1, hdr, hr60, by omega, fun pl' => ⟨rfl, q1 pl'⟩, fun t pl' f l s => ?_⟩
      have fx := form_fx hv f ok2.1
      have fd := fx.d
      have fm' := fx.m
      have cc := cd_cl hv x ok2.1
      show ite (isNon (encT t) = true) _ _
      refine yF (isNon_enc t) ?_
      refine ⟨_, ⟨t, rfl, fx.wf, by omega, rfl⟩, ?_⟩
      have er : (room : Int) - (sizeT t : Nat) = ((room - sizeT t : Nat) : Int) := by omega
      refine ⟨sp, y, room - sizeT t, pl', dr, by show [_, _, D.int ((room : Int) - (sizeT t : Nat)), _] = _; rw [er], rfl, rfl, hv, ok2.2, hdr, by omega, by omega, fun pl2 => ⟨rfl, q1 pl2⟩, fun u pl2 f2 l2 s2 => ?_⟩
      show ite (isNon (encT u) = true) _ _
      refine yF (isNon_enc u) ⟨rfl, ?_⟩
      have := q2 (.node .and [t, u]) pl2 (.and f f2) (by rw [labs_node]; simp [l, l2]) (by rw [size2]; omega)
      rw [enc_node] at this
      exact this
    | mem w e lo hi =>
      have ok2 : w.mem = true ∧ (hi = some 1 ∨ 1 ≤ ms (aM sp) e) ∧ okE sp e = true ∧ lo ≤ 30 := by unfold okE at hok; simpa [and_assoc] using hok
      have hwm := ok2.1
      have lo30 := ok2.2.2.2
      have cc := cd_cl hv e ok2.2.2.1
      have hm : 4 * room + (1 + cl (aM sp) (aL sp) e) ≤ m + 1 := hm
      refine ⟨md (by rw [natsD_len]; omega), ?_⟩
      show onSome (ixD (natsD dr) (((pl : Int) + 1) % ((natsD dr).length : Nat))) _
      rw [ea]
      refine onSome_of eg ⟨divS (by rw [natsD_len]; omega) (by rw [natsD_len]; omega), ?_⟩
      show oEq (.str w.s) (.str "name") _
      refine oEqS (okW w) (by decide +kernel) (w_no hwm).nm ?_
      show oEq (.str w.s) (.str "none") _
      refine oEqS (okW w) (by decide +kernel) (w_no hwm).no ?_
      show oEq (.str w.s) (.str "atom") _
      refine oEqS (okW w) (by decide +kernel) (w_no hwm).aw ?_
      refine ⟨⟨rfl, rfl⟩, ?_⟩
      show ite (inD (.str w.s) [.str "one", .str "atom"] = true) _ _
      refine yF (w_no hwm).on ?_
      show oEq (.str w.s) (.str "or") _
      refine oEqS (okW w) (by decide +kernel) (w_no hwm).o ?_
      show oEq (.str w.s) (.str "and") _
      refine oEqS (okW w) (by decide +kernel) (w_no hwm).a ?_
      refine ⟨md (by decide), ?_⟩
      have w3 : 0 ≤ ((g : Int) + ((pl : Int) + 1) / ((natsD dr).length : Nat)) % 4 ∧ ((g : Int) + ((pl : Int) + 1) / ((natsD dr).length : Nat)) % 4 ≤ 3 := by omega
      cases hi with
      | none =>
        obtain ⟨mo, hmo⟩ : ∃ mo : Int, mo = (lo : Int) + ((g : Int) + ((pl : Int) + 1) / ((natsD dr).length : Nat)) % 4 := ⟨_, rfl⟩
        refine ⟨rgb (by decide) (by decide) (by omega) (by omega) (by omega), ?_⟩
        refine loop_rg (n := (mo - 0).toNat) (fun j δ => ∃ (ts : List Tr) (pl2 : Nat) (x9 x14 : Sl), δ = [.d (encSp sp), .d (encE (.mem w e lo none)), .d (.int ((room - (ts.map sizeT).sum : Nat) : Int)), .d (.lst (natsD dr)), .ownA q [.int (pl2 : Nat)], .d (.str w.s), .d (.int ((g : Int) + ((pl : Int) + 1) / ((natsD dr).length : Nat))), .no, .no, x9, .no, .no, .d (.tup (ts.map encT)), .d (.int mo), x14] ∧ ts.length ≤ j ∧ (∀ t ∈ ts, Form sp e t ∧ labs t = []) ∧ (ts.map sizeT).sum ≤ room) (by rw [hmo]) ⟨[], pl + 1, .no, .no, by simp; exact hmo ▸ rfl, Nat.le_refl _, by simp, by simp⟩ ?_ ?_
        · rintro j δ hj ⟨ts, pl2, x9, x14, rfl, t1, t2, t3⟩ N hN
          refine ⟨sp, e, room - (ts.map sizeT).sum, pl2, dr, rfl, rfl, rfl, hv, ok2.2.2.1, hdr, by omega, by omega, fun pl' => hN _ ⟨ts, pl', .d .non, .d (.int (0 + (j : Nat))), rfl, by omega, t2, t3⟩, fun t pl' f l s => ?_⟩
          have fx := form_fx hv f ok2.2.2.1
          have fd := fx.d
          show ite ((!isNon (encT t)) = true) _ _
          refine yNB (fun _ => ?_) (fun h => bne (isNon_enc t) h)
          refine ⟨le_lim (by rw [List.length_map]; show ts.length + 1 ≤ _; omega), _, ⟨t, rfl, fx.wf, by omega, rfl⟩, hN _ ⟨ts ++ [t], pl', .d (encT t), .d (.int (0 + (j : Nat))), ?_, by rw [List.length_append, List.length_singleton]; omega, fun u hu => ?_, ?_⟩⟩
          · have es : ((ts ++ [t]).map sizeT).sum = (ts.map sizeT).sum + sizeT t := by rw [List.map_append, sum_app]; simp
            have er : ((room - (ts.map sizeT).sum : Nat) : Int) - (sizeT t : Nat) = ((room - ((ts ++ [t]).map sizeT).sum : Nat) : Int) := by rw [es]; omega
            rw [← er, List.map_append]; rfl
          · rcases List.mem_append.mp hu with hu | hu
            · exact t2 u hu
            · rw [List.mem_singleton.mp hu]; exact ⟨f, l⟩
          · rw [List.map_append, sum_app]; simp; omega
        · rintro δ ⟨ts, pl2, x9, x14, rfl, t1, t2, t3⟩
          show ite (decide ((lo : Int) ≤ ((ts.map encT).length : Nat)) = true) _ _
          rw [List.length_map]
          refine yD (fun hl => ⟨rfl, ?_⟩) (fun _ => ⟨rfl, q1 pl2⟩)
          have := q2 (.node w ts) pl2 (.mem (by omega) (by omega) (fun h eh => by cases eh) fun t ht => (t2 t ht).1) (by rw [labs_node]; exact List.flatMap_eq_nil_iff.mpr fun t ht => (t2 t ht).2) (by rw [size_node]; exact t3)
          rw [enc_node] at this
          unfold encW at this
          rw [if_pos hwm] at this
          exact this
      | some h =>
        obtain ⟨mo, hmo⟩ : ∃ mo : Int, mo = if (h : Int) < (lo : Int) + ((g : Int) + ((pl : Int) + 1) / ((natsD dr).length : Nat)) % 4 then (h : Int) else (lo : Int) + ((g : Int) + ((pl : Int) + 1) / ((natsD dr).length : Nat)) % 4 := ⟨_, rfl⟩
        have mb : mo ≤ (lo : Int) + 3 ∧ mo ≤ (h : Int) ∧ mo ≤ 64 := by rw [hmo]; split <;> omega
        refine ⟨rgb (by decide) (by decide) (by omega) (by omega) (by omega), ?_⟩
        refine loop_rg (n := (mo - 0).toNat) (fun j δ => ∃ (ts : List Tr) (pl2 : Nat) (x9 x14 : Sl), δ = [.d (encSp sp), .d (encE (.mem w e lo (some h))), .d (.int ((room - (ts.map sizeT).sum : Nat) : Int)), .d (.lst (natsD dr)), .ownA q [.int (pl2 : Nat)], .d (.str w.s), .d (.int ((g : Int) + ((pl : Int) + 1) / ((natsD dr).length : Nat))), .no, .no, x9, .no, .no, .d (.tup (ts.map encT)), .d (.int mo), x14] ∧ ts.length ≤ j ∧ (∀ t ∈ ts, Form sp e t ∧ labs t = []) ∧ (ts.map sizeT).sum ≤ room) (by rw [hmo]) ⟨[], pl + 1, .no, .no, by simp; exact hmo ▸ rfl, Nat.le_refl _, by simp, by simp⟩ ?_ ?_
        · rintro j δ hj ⟨ts, pl2, x9, x14, rfl, t1, t2, t3⟩ N hN
          refine ⟨sp, e, room - (ts.map sizeT).sum, pl2, dr, rfl, rfl, rfl, hv, ok2.2.2.1, hdr, by omega, by omega, fun pl' => hN _ ⟨ts, pl', .d .non, .d (.int (0 + (j : Nat))), rfl, by omega, t2, t3⟩, fun t pl' f l s => ?_⟩
          have fx := form_fx hv f ok2.2.2.1
          have fd := fx.d
          show ite ((!isNon (encT t)) = true) _ _
          refine yNB (fun _ => ?_) (fun h => bne (isNon_enc t) h)
          refine ⟨le_lim (by rw [List.length_map]; show ts.length + 1 ≤ _; omega), _, ⟨t, rfl, fx.wf, by omega, rfl⟩, hN _ ⟨ts ++ [t], pl', .d (encT t), .d (.int (0 + (j : Nat))), ?_, by rw [List.length_append, List.length_singleton]; omega, fun u hu => ?_, ?_⟩⟩
          · have es : ((ts ++ [t]).map sizeT).sum = (ts.map sizeT).sum + sizeT t := by rw [List.map_append, sum_app]; simp
            have er : ((room - (ts.map sizeT).sum : Nat) : Int) - (sizeT t : Nat) = ((room - ((ts ++ [t]).map sizeT).sum : Nat) : Int) := by rw [es]; omega
            rw [← er, List.map_append]; rfl
          · rcases List.mem_append.mp hu with hu | hu
            · exact t2 u hu
            · rw [List.mem_singleton.mp hu]; exact ⟨f, l⟩
          · rw [List.map_append, sum_app]; simp; omega
        · rintro δ ⟨ts, pl2, x9, x14, rfl, t1, t2, t3⟩
          show ite (decide ((lo : Int) ≤ ((ts.map encT).length : Nat)) = true) _ _
          rw [List.length_map]
          refine yD (fun hl => ⟨rfl, ?_⟩) (fun _ => ⟨rfl, q1 pl2⟩)
          have := q2 (.node w ts) pl2 (.mem (by omega) (by omega) (fun h eh => by cases eh; omega) fun t ht => (t2 t ht).1) (by rw [labs_node]; exact List.flatMap_eq_nil_iff.mpr fun t ht => (t2 t ht).2) (by rw [size_node]; exact t3)
          rw [enc_node] at this
          unfold encW at this
          rw [if_pos hwm] at this
          exact this
end
end DL

namespace DL
variable [Tbs]
open PySem L2
section
variable {P : Program} {w : World} {K : PySem.W.Frag} {mg : Str → Option Value} {base : Heap} {W : Ad}
/-! ### _law_drawn -/
def r__law_drawn : Rf := fun ds Q => ∃ (sp : Sp') (s : Str) (c : Int) (room : Nat), ds = [encSp sp, .str s, .int c, .int (room : Nat)] ∧ valid sp = true ∧ (eqs sp s).isSome = true ∧ room ≤ 60 ∧ Q .non ∧ ∀ t : Tr, Form sp (.name s) t → labs t = [] → sizeT t ≤ room → Q (encT t)
theorem mono__law_drawn : MonoR r__law_drawn := fun ds Q Q' i ⟨sp, s, c, room, a1, a2, a3, a4, q1, q2⟩ => ⟨sp, s, c, room, a1, a2, a3, a4, i _ q1, fun t b1 b2 b3 => i _ (q2 t b1 b2 b3)⟩
theorem ok__law_drawn (T : Tx K mg W) (Dd : Df K mg "_law_drawn" s__law_drawn ["equations", "name", "cell", "room"]) (C__law_made : Cal P w K mg base CX0 262 "_law_made" ["equations", "expression", "room", "draws", "place"] (spM K (r__law_made 258))) (C__law_digits : Cal P w K mg base CX0 2 "_law_digits" ["cell", "count", "many"] (spW K r__law_digits)) : Cal P w K mg base CX0 263 "_law_drawn" ["equations", "name", "cell", "room"] (spW K r__law_drawn) := by
  refine cal_ok Dd sc__law_drawn (fun ds Q h => ?_) (fun f cdv A outer s H E hr => 
  (ss_one (s_ret (d_callF C__law_made mono__law_made (hr.mono (by decide)) (fa_cons (dv 0) (fa_cons (d_tup (a_cons d_str (a_cons (dv 1) a_nil))) (fa_cons (dv 3) (fa_cons (d_call C__law_digits mono__law_digits (hr.mono (by decide)) (a_cons (dv 2) (a_cons d_int (a_cons d_int a_nil)))) (fa_here (f_lst (a_cons d_int a_nil)) a_nil))))))))) (fun ds Q h => ?_)

  · obtain ⟨sp, s, c, room, rfl, _⟩ := h; rfl
  · obtain ⟨sp, s, c, room, rfl, hv, he, hr60, q1, q2⟩ := h
    refine ⟨c, 30, 720, rfl, by decide, by decide, by decide, fun l hl _ => ?_⟩
    refine ⟨sp, .name s, room, 0, l, rfl, rfl, rfl, hv, by unfold okE; exact he, hl, hr60, ?_, fun pl' => ?_, fun t pl' f lt st => ?_⟩
    · obtain ⟨e, h⟩ := Option.isSome_iff_exists.mp he
      have v := val_of hv h
      have := v.l15
      show 4 * room + (1 + lk (aL sp) s) ≤ 258
      omega
    · exact q1
    · exact q2 t f lt st
end
end DL

namespace DL
variable [Tbs]
open PySem L2
section
variable {P : Program} {w : World} {K : PySem.W.Frag} {mg : Str → Option Value} {base : Heap} {W : Ad}
/-! ### _law_form -/
def r__law_form (m : Nat) : Rf := fun ds Q => ∃ (sp : Sp') (e : Ex') (lab : Bool) (t : Tr), ds = [encT t] ∧ valid sp = true ∧ okE sp e = true ∧ Form sp e t ∧ Lb lab t ∧ dep t < m ∧ sizeT t ≤ 100000 ∧ nodes t ≤ 100000 ∧ ∀ u : Tr, NF lab t u → Q (encT u)
theorem mono__law_form {m : Nat} : MonoR (r__law_form m) := fun ds Q Q' i ⟨sp, e, lab, t, a1, a2, a3, a4, a5, a6, a7, a8, q⟩ => ⟨sp, e, lab, t, a1, a2, a3, a4, a5, a6, a7, a8, fun u h => i _ (q u h)⟩
theorem lc_tr0 {t : DG} {elt : DX} {δ : List Sl} {Q : List D → Prop} (g : Tr → D) {ps : List Tr} (h : ∀ p ∈ ps, ∀ (P : D → Prop), P (g p) → t (encT p) δ fun δ' => elt δ' P) (q : Q (ps.map g)) : lcRun t tYesD elt δ Q (ps.map encT) [] := lc_tr g h (by rw [List.nil_append]; exact q)
theorem huN2 {m : Nat} {A : Around} (hr : Ro (5 + m) A) : A.units + 2 + (3 * m + 20) < cLine := by have := hr.un; omega
theorem huN1 {m : Nat} {A : Around} (hr : Ro (5 + m) A) : A.units + 1 + (3 * m + 20) < cLine := by have := hr.un; omega
theorem ok__law_form_s (m : Nat) (T : Tx K mg W) (Dd : Df K mg "_law_form" s__law_form ["structure"]) (C__law_form : Cal P w K mg base CX0 (5 + m) "_law_form" ["structure"] (spW K (r__law_form m))) (C__law_with : Cal P w K mg base CX0 1 "_law_with" ["structure", "parts"] (spW K (relR r__law_with))) (C__law_parts : Cal P w K mg base CX0 1 "_law_parts" ["structure"] (spW K (relR r__law_parts))) (C__law_labels : Cal P w K mg base CX0 (2 + (m)) "_law_labels" ["structure"] (spW K (relR (r__law_labels (m))))) (C__law_size : Cal P w K mg base CX0 (2 + (m)) "_law_size" ["structure"] (spW K (relR (r__law_size (m))))) (C__law_key : Cal P w K mg base CX0 (4 + (m)) "_law_key" ["structure"] (spW K (relR (r__law_key (m))))) : Cal P w K mg base CX0 (5 + m + 1) "_law_form" ["structure"] (spW K (r__law_form (m + 1))) := by
  refine cal_ok Dd sc__law_form (fun ds Q h => ?_) (fun f cdv A outer s H E hr => 
  (ss_cons (s_set (i := 1) sc__law_form.nd rfl (.inr rfl) (f_lc sc__law_form.nd (i_listQ (d_call C__law_parts relR_mono (hr.mono (by omega)) (a_cons (dv 0) a_nil)).q) (blkOk_by (own := [("part", 6)]) (N := ["structure", "parts", "labels", "places", "pairs", "at", "part", "place", "k"]) (sc := defScope s__law_form) (by decide +kernel)) (fun _ _ _ _ _ => (g_name (i := 6) sc__law_form.nd rfl (.inl rfl))) (fun _ _ _ _ _ => ts_nil) (fun _ _ _ _ _ => (d_call C__law_form mono__law_form (hr.mono (by omega)) (a_cons (dv 6) a_nil)))).p)
  (ss_cons (s_if (w_and (t_cmp (o_in) (d_ix (qv 0) d_int.q).q (d_tup (a_cons d_str (a_cons d_str a_nil))).q) (w_and1 (t_cmp o_gt (d_callB (c_len) T.n_len (b_cons (qv 1) b_nil)).q d_int.q))).t (
    (ss_cons (s_setLc (i := 2) sc__law_form.nd rfl (i_listQ (qv 1)) (blkOk_by (own := [("part", 6)]) (N := ["structure", "parts", "labels", "places", "pairs", "at", "part", "place", "k"]) (sc := defScope s__law_form) (by decide +kernel)) (fun _ _ _ _ _ => (g_name (i := 6) sc__law_form.nd rfl (.inl rfl))) (fun _ _ _ _ _ => ts_nil) (fun _ _ _ _ _ => (d_slice (d_call C__law_labels relR_mono (hr.mono (by omega)) (a_cons (dv 6) a_nil)).q o_none (o_some d_int.q))))
    (ss_cons (s_set (i := 3) sc__law_form.nd rfl (.inr rfl) (f_lc sc__law_form.nd (i_listQ (qv 1)) (blkOk_by (own := [("part", 6)]) (N := ["structure", "parts", "labels", "places", "pairs", "at", "part", "place", "k"]) (sc := defScope s__law_form) (by decide +kernel)) (fun _ _ _ _ _ => (g_name (i := 6) sc__law_form.nd rfl (.inl rfl))) (fun _ _ _ _ _ => ts_nil) (fun _ _ _ _ _ => (d_tup (a_cons (d_call C__law_size relR_mono (hr.mono (by omega)) (a_cons (dv 6) a_nil)) (a_cons (d_call C__law_key relR_mono (hr.mono (by omega)) (a_cons (dv 6) a_nil)) a_nil))))).p)
    (ss_cons (s_if (t_cmp (o_ne (hu64 hr)) (d_ix (qv 2) d_int.q).q (f_lst a_nil).p.q) (
      (ss_one (s_set (i := 3) sc__law_form.nd rfl (.inr rfl) (dv 2)))) (ss_nil))
    (ss_one (s_if (t_cmp (o_eq (hu64 hr)) (d_ix (qv 0) d_int.q).q d_str.q) (
      (ss_cons (s_set (i := 4) sc__law_form.nd rfl (.inl rfl) (f_callB (c_sortedDat (N := 3 * m + 20) (huN2 hr)) T.n_sorted (b_cons (f_lc sc__law_form.nd (i_range1 T.n_range (d_callB (c_len) T.n_len (b_cons (qv 1) b_nil)).q).q (blkOk_by (own := [("k", 8)]) (N := ["structure", "parts", "labels", "places", "pairs", "at", "part", "place", "k"]) (sc := defScope s__law_form) (by decide +kernel)) (fun _ _ _ _ _ => (g_name (i := 8) sc__law_form.nd rfl (.inl rfl))) (fun _ _ _ _ _ => ts_nil) (fun _ _ _ _ _ => (d_tup (a_cons (d_ix (qv 3) (qv 8)) (a_cons (dv 8) a_nil))))).p.q b_nil)).p)
      (ss_one (s_set (i := 1) sc__law_form.nd rfl (.inr rfl) (f_lc sc__law_form.nd (i_listQ (qv 4)) (blkOk_by (own := [("place", 7), ("k", 8)]) (N := ["structure", "parts", "labels", "places", "pairs", "at", "part", "place", "k"]) (sc := defScope s__law_form) (by decide +kernel)) (fun _ _ _ _ _ => (g_tup (gs_cons (g_name (i := 7) sc__law_form.nd rfl (.inl rfl)) (gs_cons (g_name (i := 8) sc__law_form.nd rfl (.inl rfl)) gs_nil)))) (fun _ _ _ _ _ => ts_nil) (fun _ _ _ _ _ => (d_ix (qv 1) (qv 8)))).p)))) (
      (ss_cons (s_set (i := 5) sc__law_form.nd rfl (.inl rfl) (d_ix (d_callB (c_minDat (N := 3 * m + 20) (huN1 hr)) T.n_min (b_cons (f_lc sc__law_form.nd (i_range1 T.n_range (d_callB (c_len) T.n_len (b_cons (qv 1) b_nil)).q).q (blkOk_by (own := [("k", 8)]) (N := ["structure", "parts", "labels", "places", "pairs", "at", "part", "place", "k"]) (sc := defScope s__law_form) (by decide +kernel)) (fun _ _ _ _ _ => (g_name (i := 8) sc__law_form.nd rfl (.inl rfl))) (fun _ _ _ _ _ => ts_nil) (fun _ _ _ _ _ => (d_tup (a_cons (d_op (o_add) (d_slice (qv 3) (o_some (qv 8)) o_none).q (d_slice (qv 3) o_none (o_some (qv 8))).q) (a_cons (dv 8) a_nil))))).p.q b_nil)).q d_int.q))
      (ss_one (s_set (i := 1) sc__law_form.nd rfl (.inr rfl) (d_op (o_add) (d_slice (qv 1) (o_some (qv 5)) o_none).q (d_slice (qv 1) o_none (o_some (qv 5))).q))))))))))) (ss_nil))
  (ss_one (s_ret (d_call C__law_with relR_mono (hr.mono (by omega)) (a_cons (dv 0) (a_cons (dv 1) a_nil)))))))) (fun ds Q h => ?_)

  · obtain ⟨sp, e, lab, t, rfl, _⟩ := h; rfl
  · obtain ⟨sp, e, lab, t, rfl, hv, hok, hf, hl, hd, hs, hn, q⟩ := h
    have fx := form_fx hv hf hok
    refine ⟨_, ⟨t, rfl, fx.wf, rfl⟩, ?_⟩
    cases t with
    | atom l =>
      refine ix0 (.atom l) ?_
      refine ⟨⟨rfl, rfl⟩, ?_⟩
      exact ⟨_, .inr ⟨l, rfl, rfl⟩, q _ (.atom l)⟩
    | node w ps =>
      have ha := (wf_node.mp fx.wf).1
      have lp := lb_parts hl
      have sub : ∀ p ∈ ps, wfT p = true ∧ dep p < m ∧ sizeT p ≤ 100000 ∧ nodes p ≤ 100000 := fun p hp => ⟨parts_wf fx.wf p hp, dep_parts hd hp, Nat.le_trans (size_parts (t := .node w ps) hp) hs, by have := nodes_mem hp; rw [nodes_node] at hn; omega⟩
      have lnk : ps.length ≤ 100000 := by have := len_nodes ps; rw [nodes_node] at hn; omega
      refine lc_trR0 (NF lab) (fun p hp P k => ?_) (fun rs hln hri => ?_)
      · obtain ⟨e', o, f⟩ := form_part hv hf hok rfl p hp
        obtain ⟨s1, s2, s3, s4⟩ := sub p hp
        exact ⟨sp, e', lab, p, rfl, hv, o, f, lp p hp, s2, s3, s4, k⟩
      · have hln : ps.length = rs.length := hln
        have fd : Fmd ps rs := ⟨hln, fun i p r e1 e2 => nf_rea (hri i p r e1 e2)⟩
        have lrs : ∀ r ∈ rs, Lb lab r := fun r hr => by
          obtain ⟨p, hp, h⟩ := fd.of hr
          exact lb_rea h (lp p hp)
        have fin : ∀ qs : List Tr, Ord lab w rs qs → ∃ d, r__law_with [encT (.node w ps), .lst (qs.map encT)] d ∧ Q d := fun qs hq => by
          have lq := (perm_of (ord_rea hq)).length_eq
          exact ⟨_, .inl ⟨w, ps, qs, rfl, ha, by rw [lq, ← hln]; exact ha, by omega, rfl⟩, q _ (.node hln hri hq)⟩
        have subr : ∀ r ∈ rs, wfT r = true ∧ dep r < m ∧ sizeT r ≤ 100000 := fun r hr => by
          obtain ⟨p, hp, hpr⟩ := fd.of hr
          obtain ⟨s1, s2, s3, s4⟩ := sub p hp
          obtain ⟨e', o, f⟩ := form_part hv hf hok rfl p hp
          have rr := rea_s hpr
          exact ⟨(form_fx hv (rea_form f hpr) o).wf, by rw [rr.d]; exact s2, by rw [rr.s]; exact s3⟩
        have multi : (w = .set ∨ w = .ring) → 1 < rs.length → (lab = false ∧ (∀ r ∈ rs, labL r = []) ∧ Pl (3 * m + 3) (rs.map skD)) ∨ (lab = true ∧ ∀ r ∈ rs, labL r ≠ []) := fun hw h1 => by
          obtain ⟨e', mb⟩ := form_memb hv hf hok rfl (by rcases hw with rfl | rfl <;> rfl)
          cases lab with
          | false =>
            refine .inl ⟨rfl, fun r hr => ?_, (pl_sk (N := m) (fun r hr => Nat.le_of_lt (subr r hr).2.1) fun r hr s hs => ?_)⟩
            · have h : labs r = [] := lrs r hr
              unfold labL
              rw [h]; rfl
            · obtain ⟨p, hp, h⟩ := fd.of hr
              obtain ⟨p2, hp2, h2⟩ := fd.of hs
              exact key_alike hv (rea_form (mb.f p hp) h) mb.ok (rea_form (mb.f p2 hp2) h2) (lrs r hr) (lrs s hs)
          | true =>
            refine .inr ⟨rfl, fun r hr e => ?_⟩
            obtain ⟨p, hp, h⟩ := fd.of hr
            have a1 := (isN_perm (labs r)).length_eq
            have a2 : (labs r).Nodup ∧ (labs r).length = sizeT r := lrs r hr
            have a3 := (rea_s h).s
            have a4 := mb.big (by omega) p hp
            have a5 : (isN (labs r)).length = 0 := by show (labL r).length = 0; rw [e]; rfl
            omega
        have few : (w = .set ∨ w = .ring) → rs.length ≤ 33 := fun hw => by
          obtain ⟨e', mb⟩ := form_memb hv hf hok rfl (by rcases hw with rfl | rfl <;> rfl)
          have := mb.few; omega
        cases w with
        | one | row | left | right | and =>
          refine ⟨⟨rfl, rfl⟩, ?_⟩
          exact fin rs (ord_else (by decide) (by decide))
        | set =>
          have few := few (.inl rfl)
          refine ⟨⟨rfl, rfl⟩, ?_⟩
          show ite (decide ((1 : Int) < ((rs.map encT).length : Nat)) = true) _ _
          rw [List.length_map]
          refine yD (fun h1 => ?_) (fun c => fin rs (ord_small (by omega)))
          have h1 : 1 < rs.length := by omega
          refine lc_tr0 lbD (fun r hr P k => ?_) ?_
          · obtain ⟨s1, s2, s3⟩ := subr r hr
            refine ⟨_, ⟨r, rfl, s1, s2, s3, rfl⟩, ?_⟩
            show P (.lst (cutD (natsD (labL r)) none (some 1)))
            rw [cut_take1]
            exact k
          refine lc_tr0 skD (fun r hr P k => ?_) ?_
          · obtain ⟨s1, s2, s3⟩ := subr r hr
            exact ⟨_, ⟨r, rfl, s1, s2, rfl⟩, _, ⟨r, rfl, s1, s2, s3, rfl⟩, k⟩
          obtain ⟨r0, hr0, e0⟩ := ix_first h1
          refine onSome_of (e0 lbD) ?_
          show oNe (lbD r0) (.lst []) _
          refine lb_ne (fun h0 => ?_) (fun h0 => ?_)
          · obtain ⟨rfl, pl⟩ : lab = false ∧ Pl (3 * m + 3) (rs.map skD) := (multi (.inl rfl) h1).elim (fun h => ⟨h.1, h.2.2⟩) (fun h => absurd h0 (h.2 r0 hr0))
            have ln : (rs.map skD).length = rs.length := List.length_map _
            show oEq (.str "set") (.str "set") _
            refine oEqS (a := "set") (b := "set") (r := true) (by decide +kernel) (by decide +kernel) (by decide +kernel) ?_
            refine ⟨rgb (by decide) (by decide) (by rw [List.length_map]; omega) (by rw [List.length_map]; omega) (by rw [List.length_map]; omega), ?_⟩
            refine lc_rg (fun k => .tup [(rs.map skD).getD k .non, .int (0 + (k : Nat))]) (fun i hi P k => onSome_of (ix_nat (by rw [List.length_map] at hi; rw [ln]; omega)) k) ?_
            rw [List.length_map, nb_rg ln]
            refine ⟨nb_ord pl (by omega), ?_⟩
            refine lc_map (fun d => encT (pickT rs d)) (fun d hd P k => ?_) ?_
            · obtain ⟨i, hi, rfl⟩ := nb_mem ((List.mergeSort_perm _ _).mem_iff.mp hd)
              rw [ln] at hi
              exact onSome_of (ix_tr hi) k
            · have := fin (((nbD (rs.map skD)).mergeSort leD).map (pickT rs)) (ord_set (lab := false) pl)
              rw [List.map_map] at this
              exact this
          · obtain rfl : lab = true := (multi (.inl rfl) h1).elim (fun h => absurd (h.2.1 r0 hr0) h0) (fun h => h.1)
            have pl : Pl (3 * m + 3) (rs.map lbD) := pl_lb rs
            have ln : (rs.map lbD).length = rs.length := List.length_map _
            show oEq (.str "set") (.str "set") _
            refine oEqS (a := "set") (b := "set") (r := true) (by decide +kernel) (by decide +kernel) (by decide +kernel) ?_
            refine ⟨rgb (by decide) (by decide) (by rw [List.length_map]; omega) (by rw [List.length_map]; omega) (by rw [List.length_map]; omega), ?_⟩
            refine lc_rg (fun k => .tup [(rs.map lbD).getD k .non, .int (0 + (k : Nat))]) (fun i hi P k => onSome_of (ix_nat (by rw [List.length_map] at hi; rw [ln]; omega)) k) ?_
            rw [List.length_map, nb_rg ln]
            refine ⟨nb_ord pl (by omega), ?_⟩
            refine lc_map (fun d => encT (pickT rs d)) (fun d hd P k => ?_) ?_
            · obtain ⟨i, hi, rfl⟩ := nb_mem ((List.mergeSort_perm _ _).mem_iff.mp hd)
              rw [ln] at hi
              exact onSome_of (ix_tr hi) k
            · have := fin (((nbD (rs.map lbD)).mergeSort leD).map (pickT rs)) (ord_set (lab := true) pl)
              rw [List.map_map] at this
              exact this
        | ring =>
          have few := few (.inr rfl)
          refine ⟨⟨rfl, rfl⟩, ?_⟩
          show ite (decide ((1 : Int) < ((rs.map encT).length : Nat)) = true) _ _
          rw [List.length_map]
          refine yD (fun h1 => ?_) (fun c => fin rs (ord_small (by omega)))
          have h1 : 1 < rs.length := by omega
          refine lc_tr0 lbD (fun r hr P k => ?_) ?_
          · obtain ⟨s1, s2, s3⟩ := subr r hr
            refine ⟨_, ⟨r, rfl, s1, s2, s3, rfl⟩, ?_⟩
            show P (.lst (cutD (natsD (labL r)) none (some 1)))
            rw [cut_take1]
            exact k
          refine lc_tr0 skD (fun r hr P k => ?_) ?_
          · obtain ⟨s1, s2, s3⟩ := subr r hr
            exact ⟨_, ⟨r, rfl, s1, s2, rfl⟩, _, ⟨r, rfl, s1, s2, s3, rfl⟩, k⟩
          obtain ⟨r0, hr0, e0⟩ := ix_first h1
          refine onSome_of (e0 lbD) ?_
          show oNe (lbD r0) (.lst []) _
          refine lb_ne (fun h0 => ?_) (fun h0 => ?_)
          · obtain ⟨rfl, pl⟩ : lab = false ∧ Pl (3 * m + 3) (rs.map skD) := (multi (.inr rfl) h1).elim (fun h => ⟨h.1, h.2.2⟩) (fun h => absurd h0 (h.2 r0 hr0))
            have ln : (rs.map skD).length = rs.length := List.length_map _
            show oEq (.str "ring") (.str "set") _
            refine oEqS (a := "ring") (b := "set") (r := false) (by decide +kernel) (by decide +kernel) (by decide +kernel) ?_
            refine ⟨rgb (by decide) (by decide) (by rw [List.length_map]; omega) (by rw [List.length_map]; omega) (by rw [List.length_map]; omega), ?_⟩
            refine lc_rg (fun k => .tup [(tnD (rs.map skD)).getD k .non, .int (0 + (k : Nat))]) (fun i hi P k => ?_) ?_
            · have hi2 : i < (rs.map skD).length := by rw [List.length_map] at hi; rw [ln]; omega
              refine ⟨le_lim (by have := cutD_len (rs.map skD) (some (0 + (i : Nat) : Int)) none; have := cutD_len (rs.map skD) none (some (0 + (i : Nat) : Int)); omega), ?_⟩
              rw [tn_get hi2, Int.zero_add] at k
              show P (.tup [.lst (cutD (rs.map skD) (some (0 + (i : Nat) : Int)) none ++ cutD (rs.map skD) none (some (0 + (i : Nat) : Int))), .int (0 + (i : Nat))])
              rw [Int.zero_add, cut_drop _ (Nat.le_of_lt hi2), cut_take _ (Nat.le_of_lt hi2)]
              exact k
            · rw [List.length_map, nb_rg ((tn_len _).trans ln)]
              refine min_rot pl (fun e => by rw [e] at ln; have : 0 = rs.length := ln; omega) (by omega) fun k hk least => ?_
              rw [ln] at hk
              have hk2 : k ≤ (rs.map encT).length := by rw [List.length_map]; omega
              refine ⟨le_lim (by have := cutD_len (rs.map encT) (some (k : Nat)) none; have := cutD_len (rs.map encT) none (some (k : Nat)); rw [List.length_map] at *; omega), ?_⟩
              have := fin (rs.drop k ++ rs.take k) (ord_ring (lab := false) (Nat.le_of_lt hk) fun j hj => by have := least j (by rw [ln]; exact hj); rw [← pls_lst, ← pls_lst]; exact this)
              rw [List.map_append, List.map_drop, List.map_take, ← cut_drop _ hk2, ← cut_take _ hk2] at this
              exact this
          · obtain rfl : lab = true := (multi (.inr rfl) h1).elim (fun h => absurd (h.2.1 r0 hr0) h0) (fun h => h.1)
            have pl : Pl (3 * m + 3) (rs.map lbD) := pl_lb rs
            have ln : (rs.map lbD).length = rs.length := List.length_map _
            show oEq (.str "ring") (.str "set") _
            refine oEqS (a := "ring") (b := "set") (r := false) (by decide +kernel) (by decide +kernel) (by decide +kernel) ?_
            refine ⟨rgb (by decide) (by decide) (by rw [List.length_map]; omega) (by rw [List.length_map]; omega) (by rw [List.length_map]; omega), ?_⟩
            refine lc_rg (fun k => .tup [(tnD (rs.map lbD)).getD k .non, .int (0 + (k : Nat))]) (fun i hi P k => ?_) ?_
            · have hi2 : i < (rs.map lbD).length := by rw [List.length_map] at hi; rw [ln]; omega
              refine ⟨le_lim (by have := cutD_len (rs.map lbD) (some (0 + (i : Nat) : Int)) none; have := cutD_len (rs.map lbD) none (some (0 + (i : Nat) : Int)); omega), ?_⟩
              rw [tn_get hi2, Int.zero_add] at k
              show P (.tup [.lst (cutD (rs.map lbD) (some (0 + (i : Nat) : Int)) none ++ cutD (rs.map lbD) none (some (0 + (i : Nat) : Int))), .int (0 + (i : Nat))])
              rw [Int.zero_add, cut_drop _ (Nat.le_of_lt hi2), cut_take _ (Nat.le_of_lt hi2)]
              exact k
            · rw [List.length_map, nb_rg ((tn_len _).trans ln)]
              refine min_rot pl (fun e => by rw [e] at ln; have : 0 = rs.length := ln; omega) (by omega) fun k hk least => ?_
              rw [ln] at hk
              have hk2 : k ≤ (rs.map encT).length := by rw [List.length_map]; omega
              refine ⟨le_lim (by have := cutD_len (rs.map encT) (some (k : Nat)) none; have := cutD_len (rs.map encT) none (some (k : Nat)); rw [List.length_map] at *; omega), ?_⟩
              have := fin (rs.drop k ++ rs.take k) (ord_ring (lab := true) (Nat.le_of_lt hk) fun j hj => by have := least j (by rw [ln]; exact hj); rw [← pls_lst, ← pls_lst]; exact this)
              rw [List.map_append, List.map_drop, List.map_take, ← cut_drop _ hk2, ← cut_take _ hk2] at this
              exact this
end
end DL

namespace DL
variable [Tbs]
open PySem L2
section
variable {P : Program} {w : World} {K : PySem.W.Frag} {mg : Str → Option Value} {base : Heap} {W : Ad}
/-! ### the recursive ones, at any depth -/
theorem cal_botM {x : Str} {st : Stmt} {N ps : List Str} {R : Rm} (Dd : Df K mg x st ps) (S : FnScope N ps (defScope st)) (h : ∀ as l bs Q, ¬ R as l bs Q) : Cal P w K mg base CX0 1 x ps (spM K R) := by
  obtain ⟨f, fd, gf, F, b⟩ := Dd
  exact ⟨f, fd, gf, F.kp, b, Fun_okG (k := 0) F S (fun vs H Q E ⟨B, us, q, ws, cs, as, l, bs, _, _, _, _, _, _, _, _, _, r⟩ => absurd r (h _ _ _ _)) fun cdv A outer s H vs Q E hr ⟨B, us, q, ws, cs, as, l, bs, _, _, _, _, _, _, _, _, _, r⟩ => absurd r (h _ _ _ _)⟩
structure DfS (K : PySem.W.Frag) (mg : Str → Option Value) : Prop where
  p : Df K mg "_law_parts" s__law_parts ["structure"]
  w : Df K mg "_law_with" s__law_with ["structure", "parts"]
  s : Df K mg "_law_size" s__law_size ["structure"]
  l : Df K mg "_law_labels" s__law_labels ["structure"]
  e : Df K mg "_law_weight" s__law_weight ["structure"]
  k : Df K mg "_law_key" s__law_key ["structure"]
  f : Df K mg "_law_form" s__law_form ["structure"]
  n : Df K mg "_law_numbered" s__law_numbered ["structure", "labels"]
  m : Df K mg "_law_made" s__law_made ["equations", "expression", "room", "draws", "place"]
theorem size_all (D : DfS K mg) (T : Tx K mg W) : ∀ m, Cal P w K mg base CX0 (2 + m) "_law_size" ["structure"] (spW K (relR (r__law_size m)))
  | 0 => (cal_bot D.s sc__law_size fun ds Q ⟨d, ⟨t, _, _, h, _⟩, _⟩ => Nat.not_lt_zero _ h).mono (by decide)
  | m + 1 => ok__law_size_s m T D.s (size_all D T m) (ok__law_parts T D.p)
theorem labels_all (D : DfS K mg) (T : Tx K mg W) : ∀ m, Cal P w K mg base CX0 (2 + m) "_law_labels" ["structure"] (spW K (relR (r__law_labels m)))
  | 0 => (cal_bot D.l sc__law_labels fun ds Q ⟨d, ⟨t, _, _, h, _⟩, _⟩ => Nat.not_lt_zero _ h).mono (by decide)
  | m + 1 => ok__law_labels_s m T D.l (labels_all D T m) (ok__law_parts T D.p)
theorem weight_all (D : DfS K mg) (T : Tx K mg W) (m : Nat) : Cal P w K mg base CX0 (3 + m) "_law_weight" ["structure"] (spW K (relR (r__law_weight m))) := (ok__law_weight_s m T D.e (size_all D T m) (labels_all D T m)).mono (by omega)
theorem key_all (D : DfS K mg) (T : Tx K mg W) : ∀ m, Cal P w K mg base CX0 (4 + m) "_law_key" ["structure"] (spW K (relR (r__law_key m)))
  | 0 => (cal_bot D.k sc__law_key fun ds Q ⟨d, ⟨t, _, _, h, _⟩, _⟩ => Nat.not_lt_zero _ h).mono (by decide)
  | m + 1 => ok__law_key_s m T D.k (key_all D T m) (weight_all D T m) (labels_all D T (m + 1))
theorem form_all (D : DfS K mg) (T : Tx K mg W) : ∀ m, Cal P w K mg base CX0 (5 + m) "_law_form" ["structure"] (spW K (r__law_form m))
  | 0 => (cal_bot D.f sc__law_form fun ds Q ⟨sp, e, lab, t, _, _, _, _, _, h, _⟩ => Nat.not_lt_zero _ h).mono (by decide)
  | m + 1 => ok__law_form_s m T D.f (form_all D T m) (ok__law_with T D.w) (ok__law_parts T D.p) (labels_all D T m) (size_all D T m) (key_all D T m)
theorem numbered_all (D : DfS K mg) (T : Tx K mg W) : ∀ m, Cal P w K mg base CX0 (2 + m) "_law_numbered" ["structure", "labels"] (spM K (r__law_numbered m))
  | 0 => (cal_botM D.n sc__law_numbered fun as l bs Q ⟨t, ls, _, _, _, _, h, _⟩ => Nat.not_lt_zero _ h).mono (by decide)
  | m + 1 => ok__law_numbered_s m T D.n (numbered_all D T m) (ok__law_with T D.w) (ok__law_parts T D.p)
theorem cl_pos (a b : List (Str × Nat)) (e : Ex') : 1 ≤ cl a b e := by cases e <;> unfold cl <;> omega
theorem made_all (D : DfS K mg) (T : Tx K mg W) : ∀ m, Cal P w K mg base CX0 (4 + m) "_law_made" ["equations", "expression", "room", "draws", "place"] (spM K (r__law_made m))
  | 0 => (cal_botM D.m sc__law_made fun as l bs Q ⟨sp, e, room, pl, dr, _, _, _, _, _, _, _, h, _⟩ => by have := cl_pos (aM sp) (aL sp) e; omega).mono (by decide)
  | m + 1 => ok__law_made_s m T D.m (made_all D T m) (size_all D T (m + 1))
end
end DL

namespace DL
variable [Tbs]
open PySem L2
theorem name_nodes {sp : Sp'} (hv : valid sp = true) {s : Str} {t : Tr} (h : Form sp (.name s) t) (hs : sizeT t ≤ 60) : nodes t ≤ 5000 := by
  cases h with
  | @name _ e _ he h =>
    have v := val_of hv he
    have f := form_fx hv h v.ok
    have := f.d; have := f.n; have := v.d; have := v.n; have := v.d15; have := v.n15
    omega
theorem nf_sti {lab : Bool} {t u : Tr} (h : NF lab t u) : Sti t u := by
  induction h with
  | atom l => exact .atom l
  | @node w ps rs qs hl hi ho ih => exact .node hl ih ⟨fun e => (ho.1 e).1, fun e => by obtain ⟨k, h1, h2, _⟩ := ho.2.1 e; exact ⟨k, h1, h2⟩, ho.2.2⟩
/-- trees as data -/
structure EncD (N : Nat) (d : D) : Prop where
  dat : isDat d = true
  lay : (toP d).canLay0 = true
  dep : (toP d).depth ≤ N
theorem str_dep (s : Str) {N : Nat} : (toP (.str s)).depth ≤ N := by show PyData.depth (.str s) ≤ N; rw [PyData.depth]; exact Nat.zero_le _
theorem encD_tup {N : Nat} {l : List D} (h : ∀ d ∈ l, EncD N d) : EncD (N + 1) (.tup l) :=
  ⟨dat_tup fun d hd => (h d hd).dat, lay_tup fun d hd => (h d hd).lay, depth_tup fun d hd => (h d hd).dep⟩
theorem encD_str {s : Str} (h : okD (.str s) = true) {N : Nat} : EncD N (.str s) := ⟨rfl, SeqAt.canLay_of_shaped (by unfold okD at h; rw [Bool.and_eq_true] at h; exact h.2), str_dep s⟩
theorem EncD.mono {M N : Nat} {d : D} (h : EncD M d) (l : M ≤ N) : EncD N d := ⟨h.dat, h.lay, Nat.le_trans h.dep l⟩
theorem encD_of : ∀ t : Tr, EncD (2 * dep t + 1) (encT t) := by
  refine Tr.ind (fun l => ?_) fun w ps ih => ?_
  · cases l with
    | none => rw [encT]; exact encD_tup fun d hd => by rw [List.mem_singleton.mp hd]; exact encD_str (by decide +kernel)
    | some n =>
      rw [encT]
      refine encD_tup fun d hd => ?_
      rcases List.mem_cons.mp hd with rfl | hd
      · exact encD_str (by decide +kernel)
      · rw [List.mem_singleton.mp hd]; exact ⟨rfl, lay_int _, depth_int _⟩
  · have sub : ∀ d ∈ ps.map encT, EncD (2 * deps ps + 1) d := fun d hd => by
      obtain ⟨p, hp, rfl⟩ := List.mem_map.mp hd
      have := dep_mem hp
      exact (ih p hp).mono (by omega)
    rw [enc_node, dep_node]
    unfold encW
    split
    · refine (encD_tup (N := 2 * deps ps + 2) fun d hd => ?_).mono (by omega)
      rcases List.mem_cons.mp hd with rfl | hd
      · exact encD_str (okW w)
      · rw [List.mem_singleton.mp hd]; exact encD_tup sub
    · refine (encD_tup (N := 2 * deps ps + 1) fun d hd => ?_).mono (by omega)
      rcases List.mem_cons.mp hd with rfl | hd
      · exact encD_str (okW w)
      · exact sub d hd
theorem enc_ne {t : Tr} (h : dep t < 260) {Q : D → Prop} (q : Q (.bl false)) : oEqN 800 Bool.not (encT t) (encT t) Q := by
  have k := encD_of t
  have o : okN 800 (encT t) := ⟨k.dat, k.lay, Nat.le_trans k.dep (by omega)⟩
  refine ⟨⟨o, o⟩, ?_⟩
  have e : eqD (encT t) (encT t) = true := eqv_refl _ k.lay
  rw [e]; exact q
end DL

namespace DL
variable [Tbs]
open PySem L2
section
variable {P : Program} {w : World} {K : PySem.W.Frag} {mg : Str → Option Value} {base : Heap} {W : Ad}
/-! ### with_atoms: the atoms, from the first on, are these -/
mutual
def setT : Tr → List (Option Nat) → Tr
  | .atom l, [] => .atom l
  | .atom _, x :: _ => .atom x
  | .node w ps, ls => .node w (setTs ps ls)
def setTs : List Tr → List (Option Nat) → List Tr
  | [], _ => []
  | p :: ps, ls => setT p ls :: setTs ps (ls.drop (sizeT p))
end
theorem set_len : ∀ (ps : List Tr) (ls : List (Option Nat)), (setTs ps ls).length = ps.length
  | [], _ => by rw [setTs]
  | p :: ps, ls => by rw [setTs, List.length_cons, set_len ps, List.length_cons]
def atD (l : Option Nat) : D := encT (.atom l)
/-- what is done in the end, from what is to do, what is done and the atoms that are left -/
def fin2 (u : Tr) : List (Tr × Bool) → List Tr → List (Option Nat) → Prop
  | [], dn, _ => dn = [u]
  | (p, false) :: st, dn, rs => sizeT p ≤ rs.length ∧ fin2 u st (dn ++ [setT p rs]) (rs.drop (sizeT p))
  | (.atom _, true) :: st, dn, rs => ∃ x rs', rs = x :: rs' ∧ fin2 u st (dn ++ [.atom x]) rs'
  | (.node w ps, true) :: st, dn, rs => ∃ d0 ks, dn = d0 ++ ks ∧ ks.length = ps.length ∧ fin2 u st (d0 ++ [.node w ks]) rs
theorem fin2_parts (u : Tr) (st : List (Tr × Bool)) : ∀ (ps dn : List Tr) (rs : List (Option Nat)), (ps.map sizeT).sum ≤ rs.length → fin2 u st (dn ++ setTs ps rs) (rs.drop (ps.map sizeT).sum) → fin2 u (ps.map (fun p => (p, false)) ++ st) dn rs
  | [], dn, rs, _, h => by rw [setTs, List.append_nil, List.map_nil, List.sum_nil, List.drop_zero] at h; exact h
  | p :: ps, dn, rs, hl, h => by
    rw [List.map_cons, List.sum_cons] at hl h
    refine ⟨by omega, fin2_parts u st ps _ _ (by rw [List.length_drop]; omega) ?_⟩
    rw [List.drop_drop, List.append_assoc]
    rw [setTs] at h
    exact h
theorem fin2_open {u t : Tr} {st : List (Tr × Bool)} {dn : List Tr} {rs : List (Option Nat)} (h : fin2 u ((t, false) :: st) dn rs) : fin2 u ((partsT t).map (fun p => (p, false)) ++ (t, true) :: st) dn rs := by
  obtain ⟨hl, h⟩ := h
  cases t with
  | atom l =>
    cases rs with
    | nil => simp [sizeT] at hl
    | cons x rs =>
      rw [setT] at h
      exact ⟨x, rs, rfl, h⟩
  | node w ps =>
    rw [size_node] at hl h
    rw [setT] at h
    exact fin2_parts u _ ps dn rs hl ⟨dn, _, rfl, set_len _ _, h⟩
def r_with_atoms : Rf := fun ds Q => ∃ (t : Tr) (ls : List (Option Nat)), ds = [encT t, .lst (ls.map atD)] ∧ wfT t = true ∧ nodes t ≤ 5000 ∧ ls.length = sizeT t ∧ Q (encT (setT t ls))
theorem mono_with_atoms : MonoR r_with_atoms := fun ds Q Q' i ⟨t, ls, a, b, c, d, q⟩ => ⟨t, ls, a, b, c, d, i _ q⟩
theorem sc_foldedG : FnScope ["structure", "made", "*", "done", "todo", "part", "ready", "inner", "first", "results", "one"] ["structure", "made"] (defScope s_folded) := ⟨rfl, rfl, rfl, by decide +kernel, rfl, by decide +kernel, by decide +kernel⟩
/-- the lambda's answer -/
def xLam : DM := mIf (toTm (tOf (dOp oEq (dOp oIx (qV 0) (dC (.int 0))) (dC (.str "atom"))))) (mPop0 2) (toM (dCall (relR r_with_parts) [dV 0, dV 1]))
theorem lam_atom {q : Addr} {l : Option Nat} {rs : List D} {d : D} {ks : List D} {Q : D → List Sl → Prop} (h : Q d (mstart 3 q [atD l, .lst ks] rs [])) : xLam (mstart 3 q [atD l, .lst ks] (rs ++ [d]) []) Q := by
  refine ix0 (.atom l) ?_
  show oEq (.str "atom") (.str "atom") _
  refine oEqS (by decide +kernel) (by decide +kernel) rfl ?_
  show onSome (rs ++ [d]).getLast? _
  rw [List.getLast?_concat]
  show Q d (mstart 3 q [atD l, .lst ks] (rs ++ [d]).dropLast [])
  rw [List.dropLast_concat]
  exact h
theorem lam_node {q : Addr} {w : Wd} {ps ks : List Tr} {rs L : List D} {Q : D → List Sl → Prop} (ha : arity w ps.length = true) (hk : ks.length = ps.length) (hn : ps.length ≤ 100000) (eL : L = ks.map encT) (h : Q (encT (.node w ks)) (mstart 3 q [encT (.node w ps), .lst L] rs [])) : xLam (mstart 3 q [encT (.node w ps), .lst L] rs []) Q := by
  subst eL
  refine ix0 (.node w ps) ?_
  show oEq (.str w.s) (.str "atom") _
  refine oEqS (okW w) (by decide +kernel) (w_atom w) ?_
  exact ⟨_, .inl ⟨w, ps, ks, rfl, ha, by rw [hk]; exact ha, by rw [hk]; exact hn, rfl⟩, h⟩
theorem ok_with_atoms (T : Tx K mg W) (Dd : DfC K mg "with_atoms" s_with_atoms ["structure", "atoms"] W.kwith_atoms) (LM : LamD mg base W.kwith_atoms W.twith_atoms "with_atoms.<locals>.<lambda>") (Df_folded : Df K mg "folded" s_folded ["structure", "made"]) (C_inner_parts : Cal P w K mg base CX0 1 "inner_parts" ["structure"] (spW K (relR r_inner_parts))) (C_with_parts : Cal P w K mg base CX0 1 "with_parts" ["structure", "parts"] (spW K (relR r_with_parts))) : Cal P w K mg base CX0 9 "with_atoms" ["structure", "atoms"] (spW K r_with_atoms) := by
  refine cal_okC Dd sc_with_atoms (fun ds Q h => ?_) (fun f A outer s H E hr => 
  (ss_cons (s_own (i := 2) sc_with_atoms.nd rfl (.inr rfl) (f_lc sc_with_atoms.nd (i_revA T.n_reversed (dv 1)).q (blkOk_by (own := [("atom", 3)]) (N := ["structure", "atoms", "left", "atom"]) (sc := defScope s_with_atoms) (by decide +kernel)) (fun _ _ _ _ _ => (g_name (i := 3) sc_with_atoms.nd rfl (.inl rfl))) (fun _ _ _ _ _ => ts_nil) (fun _ _ _ _ _ => (dv 3))))
  (ss_one (s_retMr (m_fold (k := 7) (j := 2) (y := "left") (gn := "*") (fname := "folded") (NF := ["structure", "made", "*", "done", "todo", "part", "ready", "inner", "first", "results", "one"]) (dv 0) LM.TB LM.hm LM.hu hr Df_folded sc_foldedG rfl (by unfold Vis; decide +kernel)
    (fun f q f0 cl pm c' ctv cdv s2 H2 hr LH =>
      (ss_cons (s_own (i := 3) sc_foldedG.nd rfl (.inl rfl) (f_lst a_nil))
      (ss_cons (s_own (i := 4) sc_foldedG.nd rfl (.inl rfl) (f_lst (a_cons (d_tup (a_cons (dv 0) (a_cons d_bl a_nil))) a_nil)))
      (ss_cons (s_while PassesOwn.never (t_truth (qv 4)) (
        (ss_cons (s_popSet 4 (g_tup (gs_cons (g_name (i := 5) sc_foldedG.nd rfl (.inl rfl)) (gs_cons (g_name (i := 6) sc_foldedG.nd rfl (.inl rfl)) gs_nil))))
        (ss_cons (s_set (i := 7) sc_foldedG.nd rfl (.inl rfl) (d_call C_inner_parts relR_mono (hr.mono (by decide)) (a_cons (dv 5) a_nil)))
        (ss_one (s_if (t_truth (qv 6)) (
          (ss_cons (s_set (i := 8) sc_foldedG.nd rfl (.inl rfl) (d_op o_sub (d_callB (c_len) T.n_len (b_cons (qv 3) b_nil)).q (d_callB (c_len) T.n_len (b_cons (qv 7) b_nil)).q))
          (ss_cons (s_set (i := 9) sc_foldedG.nd rfl (.inl rfl) (d_slice (qv 3) (o_some (qv 8)) o_none))
          (ss_cons (s_delT 3 (qv 8))
          (ss_one (s_appM 3 (m_lam (i := 1) (j := 2) (k := 2) (Nl := ["part", "parts", "left"]) (ps := ["part", "parts"]) (xm := xLam) LH (NdefX.nscope_by (by decide +kernel)) (fun us hu => by
              match us, hu with
              | [a, b], _ => rfl) rfl (hr.mono (by decide))
              ?_
              (ma_cons (PD.m (dv 5)) (ma_cons (PD.m (dv 9)) ma_nil)) rfl (.inl rfl)))))))) (
          (ss_cons (s_append 4 (d_tup (a_cons (dv 5) (a_cons d_bl a_nil))))
          (ss_one (s_extend 4 (f_lc sc_foldedG.nd (i_revA T.n_reversed (dv 7)).q (blkOk_by (own := [("one", 10)]) (N := ["structure", "made", "*", "done", "todo", "part", "ready", "inner", "first", "results", "one"]) (sc := defScope s_folded) (by decide +kernel)) (fun _ _ _ _ _ => (g_name (i := 10) sc_foldedG.nd rfl (.inl rfl))) (fun _ _ _ _ _ => ts_nil) (fun _ _ _ _ _ => (d_tup (a_cons (dv 10) (a_cons d_bl a_nil))))).p))))))))))
      (ss_one (s_retM (PD.m (d_ix (qv 3) (PD.q d_int)))))))))
    (show ∀ y : Str × NameKind, y ∈ _ → y.2 = NameKind.free → (defScope s_with_atoms).names.lookup y.1 = some .cell ∨ (defScope s_with_atoms).names.lookup y.1 = some .free by decide +kernel) (by decide +kernel) rfl))))) (fun ds Q h => ?_)
  · obtain ⟨t, ls, rfl, _⟩ := h; rfl
  · intro s3 H3 hr3
    unfold xLam
    refine m_ifE ?_ ?_ ?_
    · refine TD.m ?_
      refine t_cmp ?_ ?_ ?_
      · exact o_eq (hu64 hr3)
      · exact PD.q (d_ix (qv 0) (PD.q d_int))
      · exact PD.q d_str
    · exact m_pop0 (i := 2)
    · exact PD.m (d_call C_with_parts relR_mono (hr3.mono (by decide)) (a_cons (dv 0) (a_cons (dv 1) a_nil)))
  · obtain ⟨t, ls, rfl, hw, hn, hl, q⟩ := h
    refine lc_map id (fun x hx P p => p) ?_
    rw [List.map_id]
    intro f p
    refine ⟨fun d l => Q d, ?_, fun d l h => h⟩
    rw [← List.map_reverse]
    refine ⟨fun m δ => ∃ (st : List (Tr × Bool)) (dn : List Tr) (rs : List (Option Nat)) (x4 x5 x6 x7 x8 : Sl), δ = [.d (encT t), .d (.ref f), .ownA p (rs.reverse.map atD), .own (dn.map encT), .own (st.reverse.map itD), x4, x5, x6, x7, x8, .no] ∧ fin2 (setT t ls) st dn rs ∧ (∀ x ∈ st, wfT x.1 = true ∧ nodes x.1 ≤ 5000) ∧ m = (st.map fm).sum ∧ dn.length + m ≤ 2 * nodes t, ⟨2 * nodes t, [(t, false)], [], ls, .no, .no, .no, .no, .no, rfl, ⟨by omega, rfl⟩, by simpa using ⟨hw, hn⟩, by simp [fm], by simp⟩, ?_⟩
    rintro m δ ⟨st, dn, rs, x4, x5, x6, x7, x8, rfl, h1, h2, rfl, h4⟩
    cases st with
    | nil =>
      obtain rfl : dn = [setT t ls] := h1
      exact ⟨rfl, q⟩
    | cons x st =>
      obtain ⟨a, b⟩ := x
      rw [List.reverse_cons, List.map_append]
      have ne : ((st.reverse.map itD) ++ [(a, b)].map itD).isEmpty = false := by
        cases h : (st.reverse.map itD) with
        | nil => rfl
        | cons a b => rfl
      refine yNB (fun _ => ?_) (fun h => absurd (ne.symm.trans h) (by decide))
      refine pop_last rfl ?_
      obtain ⟨hp, hpn⟩ := h2 (a, b) List.mem_cons_self
      have ls' := len_fm st
      rw [List.map_cons, List.sum_cons] at h4
      refine ⟨_, ⟨a, rfl, hp, rfl⟩, ?_⟩
      cases b with
      | true =>
        have fm1 : fm (a, true) = 1 := rfl
        cases a with
        | atom l =>
          obtain ⟨x, rs', rfl, h1⟩ := h1
          have e0 : (x :: rs').reverse.map atD = rs'.reverse.map atD ++ [atD x] := by rw [List.reverse_cons, List.map_append]; rfl
          rw [e0]
          have el : (((dn.map encT).length : Nat) : Int) - (((partsT (Tr.atom l)).map encT).length : Nat) = (dn.length : Nat) := by
            rw [List.length_map]; show (dn.length : Int) - ((0 : Nat) : Int) = _; omega
          have ec : cutD (dn.map encT) (some ((dn.length : Nat) : Int)) none = [] := by
            rw [cut_drop _ (by rw [List.length_map]; omega), List.drop_eq_nil_of_le (by rw [List.length_map]; omega)]
          have et : (dn.map encT).take dn.length = dn.map encT := List.take_of_length_le (by rw [List.length_map]; omega)
          refine ⟨⟨?_, ?_⟩, rfl, rfl, ?_⟩
          · show 0 ≤ (((dn.map encT).length : Nat) : Int) - (((partsT (Tr.atom l)).map encT).length : Nat)
            rw [el]; omega
          · show (((dn.map encT).length : Nat) : Int) - (((partsT (Tr.atom l)).map encT).length : Nat) ≤ ((dn.map encT).length : Nat)
            rw [el, List.length_map]; omega
          · refine lam_atom (l := l) (d := atD x) (rs := rs'.reverse.map atD) ?_
            refine ⟨rfl, ?_, ?_⟩
            · exact lt_lim (by rw [el, Int.toNat_natCast, et, List.length_map]; omega)
            · have e2 : (dn.map encT).take ((((dn.map encT).length : Nat) : Int) - (((partsT (Tr.atom l)).map encT).length : Nat)).toNat ++ [atD x] = (dn ++ [Tr.atom x]).map encT := by
                rw [el, Int.toNat_natCast, et, List.map_append]; rfl
              refine ⟨(st.map fm).sum, by rw [List.map_cons, List.sum_cons, fm1]; omega, st, dn ++ [.atom x], rs', .d (encT (.atom l)), .d (.bl true), .d (.tup ((partsT (Tr.atom l)).map encT)), .d (.int ((((dn.map encT).length : Nat) : Int) - (((partsT (Tr.atom l)).map encT).length : Nat))), .d (.lst (cutD (dn.map encT) (some ((((dn.map encT).length : Nat) : Int) - (((partsT (Tr.atom l)).map encT).length : Nat))) none)), ?_, h1, fun y hy => h2 y (List.mem_cons_of_mem _ hy), rfl, by rw [List.length_append, List.length_singleton]; omega⟩
              rw [← e2]
              have e3 : (rs'.reverse.map atD ++ [atD x]).dropLast = rs'.reverse.map atD := List.dropLast_concat
              rw [← e3]; rfl
        | node w ps =>
          obtain ⟨d0, ks, rfl, hk, h1⟩ := h1
          have ha := (wf_node.mp hp).1
          have hps : ps.length ≤ 5000 := by
            have := len_nodes ps
            have : nodes (.node w ps) ≤ 5000 := hpn
            rw [nodes_node] at this
            omega
          rw [List.length_append] at h4
          have el : ((((d0 ++ ks).map encT).length : Nat) : Int) - (((partsT (Tr.node w ps)).map encT).length : Nat) = (d0.length : Nat) := by
            rw [List.length_map, List.length_append, List.length_map]; show ((d0.length + ks.length : Nat) : Int) - (ps.length : Nat) = _; omega
          have ec : cutD ((d0 ++ ks).map encT) (some ((d0.length : Nat) : Int)) none = ks.map encT := by
            rw [cut_drop _ (by rw [List.length_map, List.length_append]; omega), List.map_append, List.drop_left' (by rw [List.length_map])]
          have et : ((d0 ++ ks).map encT).take d0.length = d0.map encT := by rw [List.map_append, List.take_left' (by rw [List.length_map])]
          refine ⟨⟨?_, ?_⟩, rfl, rfl, ?_⟩
          · show 0 ≤ ((((d0 ++ ks).map encT).length : Nat) : Int) - (((partsT (Tr.node w ps)).map encT).length : Nat)
            rw [el]; omega
          · show ((((d0 ++ ks).map encT).length : Nat) : Int) - (((partsT (Tr.node w ps)).map encT).length : Nat) ≤ (((d0 ++ ks).map encT).length : Nat)
            omega
          · refine lam_node (w := w) (ps := ps) (ks := ks) (rs := rs.reverse.map atD) ha hk (by omega) (by rw [el, ec]) ?_
            refine ⟨rfl, ?_, ?_⟩
            · exact lt_lim (by rw [el, Int.toNat_natCast, et, List.length_map]; omega)
            · have e2 : ((d0 ++ ks).map encT).take (((((d0 ++ ks).map encT).length : Nat) : Int) - (((partsT (Tr.node w ps)).map encT).length : Nat)).toNat ++ [encT (.node w ks)] = (d0 ++ [Tr.node w ks]).map encT := by
                rw [el, Int.toNat_natCast, et, List.map_append]; rfl
              refine ⟨(st.map fm).sum, by rw [List.map_cons, List.sum_cons, fm1]; omega, st, d0 ++ [.node w ks], rs, .d (encT (.node w ps)), .d (.bl true), .d (.tup ((partsT (Tr.node w ps)).map encT)), .d (.int (((((d0 ++ ks).map encT).length : Nat) : Int) - (((partsT (Tr.node w ps)).map encT).length : Nat))), .d (.lst (cutD ((d0 ++ ks).map encT) (some (((((d0 ++ ks).map encT).length : Nat) : Int) - (((partsT (Tr.node w ps)).map encT).length : Nat))) none)), ?_, h1, fun y hy => h2 y (List.mem_cons_of_mem _ hy), rfl, by rw [List.length_append, List.length_singleton]; omega⟩
              rw [← e2]; rfl
      | false =>
        have fo := fm_open a
        have lp := len_fm ((partsT a).map fun p => (p, false))
        have f2 : fm (a, false) = 2 * nodes a := rfl
        rw [List.length_map] at lp
        refine ⟨lt_lim (by rw [List.length_map, List.length_reverse]; omega), ?_⟩
        refine lc_map (fun d => .tup [d, .bl false]) (fun x hx P p => p) ?_
        refine ⟨le_lim (by simp only [List.length_append, List.length_map, List.length_reverse, List.length_singleton]; omega), ?_⟩
        refine ⟨(((partsT a).map fun p => (p, false)).map fm).sum + (1 + (st.map fm).sum), ?_, (partsT a).map (fun p => (p, false)) ++ (a, true) :: st, dn, rs, .d (encT a), .d (.bl false), .d (.tup ((partsT a).map encT)), x7, x8, ?_, ?_, ?_, ?_, ?_⟩
        · rw [List.map_cons, List.sum_cons]; omega
        · rw [List.reverse_append, List.reverse_cons, List.map_append, List.map_append, ← List.map_reverse, List.map_map, ← List.map_reverse, List.map_map]; rfl
        · exact fin2_open h1
        · intro y hy
          rcases List.mem_append.mp hy with hy | hy
          · obtain ⟨z, hz, rfl⟩ := List.mem_map.mp hy
            exact ⟨parts_wf hp z hz, by
              cases a with
              | atom l => cases hz
              | node w ps =>
                have := nodes_mem (show z ∈ ps from hz)
                rw [nodes_node] at hpn
                show nodes z ≤ 5000
                omega⟩
          · rcases List.mem_cons.mp hy with rfl | hy
            · exact ⟨hp, hpn⟩
            · exact h2 y (List.mem_cons_of_mem _ hy)
        · rw [List.map_append, sum_app, List.map_cons, List.sum_cons]; rfl
        · omega
end
end DL

namespace DL
variable [Tbs]
open PySem L2
/-! # labels left out: plain -/
mutual
def eraT : Tr → Tr
  | .atom _ => .atom none
  | .node w ps => .node w (eraTs ps)
def eraTs : List Tr → List Tr
  | [] => []
  | p :: ps => eraT p :: eraTs ps
end
theorem eraTs_map : ∀ ps : List Tr, eraTs ps = ps.map eraT
  | [] => by rw [eraTs]; rfl
  | p :: ps => by rw [eraTs, eraTs_map ps]; rfl
theorem era_node (w : Wd) (ps : List Tr) : eraT (.node w ps) = .node w (ps.map eraT) := by rw [eraT, eraTs_map]
theorem set_era : ∀ (t : Tr) (n : Nat), sizeT t ≤ n → setT t (List.replicate n none) = eraT t := by
  refine Tr.ind (fun l n h => ?_) fun w ps ih n h => ?_
  · cases n with
    | zero => simp [sizeT] at h
    | succ n => rw [List.replicate_succ, setT, eraT]
  · rw [setT, era_node]
    rw [size_node] at h
    congr 1
    induction ps generalizing n with
    | nil => rw [setTs]; rfl
    | cons p ps ih2 =>
      rw [List.map_cons, List.sum_cons] at h
      rw [setTs, List.map_cons, ih p List.mem_cons_self n (by omega), List.drop_replicate, ih2 (fun q hq => ih q (List.mem_cons_of_mem _ hq)) _ (by omega)]
theorem set_num : ∀ (t : Tr) (ls : List Nat), setT t (ls.map some) = numT t ls := by
  refine Tr.ind (fun l ls => ?_) fun w ps ih ls => ?_
  · cases ls with
    | nil => rw [List.map_nil, setT, numT]
    | cons x ls => rw [List.map_cons, setT, numT]
  · rw [setT, numT]
    congr 1
    induction ps generalizing ls with
    | nil => rw [setTs, numTs]
    | cons p ps ih2 => rw [setTs, numTs, ih p List.mem_cons_self, ← List.map_drop, ih2 fun q hq => ih q (List.mem_cons_of_mem _ hq)]
theorem era_num : ∀ (t : Tr) (ls : List Nat), eraT (numT t ls) = eraT t := by
  refine Tr.ind (fun l ls => ?_) fun w ps ih ls => ?_
  · cases ls with
    | nil => rw [numT]
    | cons x ls => rw [numT, eraT, eraT]
  · rw [numT, era_node, era_node]
    congr 1
    induction ps generalizing ls with
    | nil => rw [numTs]
    | cons p ps ih2 => rw [numTs, List.map_cons, List.map_cons, ih p List.mem_cons_self, ih2 fun q hq => ih q (List.mem_cons_of_mem _ hq)]
theorem era_self : ∀ t : Tr, labs t = [] → eraT t = t := by
  refine Tr.ind (fun l h => ?_) fun w ps ih h => ?_
  · cases l with
    | none => rw [eraT]
    | some n => rw [labs] at h; cases h
  · rw [labs_node, List.flatMap_eq_nil_iff] at h
    rw [era_node]
    congr 1
    refine (List.map_congr_left fun p hp => ih p hp (h p hp)).trans (List.map_id' ps)
theorem era_labs : ∀ t : Tr, labs (eraT t) = [] := by
  refine Tr.ind (fun l => by rw [eraT, labs]) fun w ps ih => ?_
  rw [era_node, labs_node, List.flatMap_eq_nil_iff]
  intro q hq
  obtain ⟨p, hp, rfl⟩ := List.mem_map.mp hq
  exact ih p hp
theorem era_size : ∀ t : Tr, sizeT (eraT t) = sizeT t := by
  refine Tr.ind (fun l => by rw [eraT, sizeT, sizeT]) fun w ps ih => ?_
  rw [era_node, size_node, size_node, List.map_map]
  congr 1
  exact List.map_congr_left fun p hp => ih p hp
theorem era_nodes : ∀ t : Tr, nodes (eraT t) = nodes t := by
  refine Tr.ind (fun l => by rw [eraT, nodes, nodes]) fun w ps ih => ?_
  rw [era_node, nodes_node, nodes_node, List.map_map]
  congr 2
  exact List.map_congr_left fun p hp => ih p hp
theorem era_form {sp : Sp'} {e : Ex'} {t : Tr} (h : Form sp e t) : Form sp e (eraT t) := by
  induction h with
  | name he _ ih => exact .name he ih
  | one => rw [era_node]; exact .one
  | atom l => rw [eraT]; exact .atom _
  | left _ ih => rw [era_node]; exact .left ih
  | right _ ih => rw [era_node]; exact .right ih
  | and _ _ ih1 ih2 => rw [era_node]; exact .and ih1 ih2
  | mem h1 h2 h3 h4 ih =>
    rw [era_node]
    refine .mem (by rw [List.length_map]; exact h1) (by rw [List.length_map]; exact h2) (fun h e => by rw [List.length_map]; exact h3 h e) fun q hq => ?_
    obtain ⟨p, hp, rfl⟩ := List.mem_map.mp hq
    exact ih p hp
theorem sti_era {t u : Tr} (h : Sti t u) : Sti (eraT t) (eraT u) := by
  induction h with
  | atom l => exact sti_self _
  | @node w ps rs qs hl _ ho ih =>
    rw [era_node, era_node]
    refine .node (rs := rs.map eraT) (by rw [List.length_map, List.length_map]; exact hl) (fun i p r e1 e2 => ?_) ⟨fun h => (ho.1 h).map _, fun h => ?_, fun h1 h2 => by rw [ho.2.2 h1 h2]⟩
    · rw [List.getElem?_map] at e1 e2
      cases f1 : ps[i]? with
      | none => rw [f1] at e1; cases e1
      | some p' =>
        cases f2 : rs[i]? with
        | none => rw [f2] at e2; cases e2
        | some r' =>
          rw [f1] at e1; rw [f2] at e2
          cases e1; cases e2
          exact ih i p' r' f1 f2
    · obtain ⟨k, hk, e⟩ := ho.2.1 h
      refine ⟨k, by rw [List.length_map]; exact hk, ?_⟩
      rw [e]
      unfold rot
      rw [List.map_append, List.map_drop, List.map_take]
/-- labels renamed: the n-th label by the n-th -/
theorem era_ask {sp : Sp'} {lab : Bool} {t : Tr} (a : Asked sp lab t) : Asked sp false (eraT t) := by
  obtain ⟨e, o, f⟩ := a.f
  exact ⟨⟨e, o, era_form f⟩, era_labs t, by rw [era_size]; exact a.s, by rw [era_nodes]; exact a.n⟩
theorem num_ask {sp : Sp'} {lab : Bool} {t : Tr} {ls : List Nat} (a : Asked sp lab t) (hl : ls.length = sizeT t) (nd : ls.Nodup) : Asked sp true (numT t ls) := by
  obtain ⟨e, o, f⟩ := a.f
  refine ⟨⟨e, o, num_form f ls⟩, ?_, by rw [num_size]; exact a.s, by rw [num_nodes]; exact a.n⟩
  show (labs (numT t ls)).Nodup ∧ (labs (numT t ls)).length = sizeT (numT t ls)
  rw [num_labs t ls (by omega), num_size, List.take_of_length_le (by omega)]
  exact ⟨nd, hl⟩
end DL

namespace DL
variable [Tbs]
open PySem L2
section
variable {P : Program} {w : World} {K : PySem.W.Frag} {mg : Str → Option Value} {base : Heap} {W : Ad}
/-! ### erased, labelled_from, renamed -/
def r__with_labels : Rf := fun ds Q => ∃ (t : Tr) (ls : List Nat), ds = [encT t, .lst (natsD ls)] ∧ wfT t = true ∧ nodes t ≤ 5000 ∧ ls.length = sizeT t ∧ Q (encT (numT t ls))
theorem mono__with_labels : MonoR r__with_labels := fun ds Q Q' i ⟨t, ls, a, b, c, d, q⟩ => ⟨t, ls, a, b, c, d, i _ q⟩
def r_erased : Rf := fun ds Q => ∃ (sp : Sp') (lab : Bool) (t : Tr), ds = [encT t] ∧ valid sp = true ∧ Asked sp lab t ∧ ∀ n, NF false (eraT t) n → Q (encT n)
theorem mono_erased : MonoR r_erased := fun ds Q Q' i ⟨sp, lab, t, a, b, c, q⟩ => ⟨sp, lab, t, a, b, c, fun n h => i _ (q n h)⟩
def r_labelled_from : Rf := fun ds Q => ∃ (sp : Sp') (lab : Bool) (t : Tr), ds = [encT t] ∧ valid sp = true ∧ Asked sp lab t ∧ ∀ n, NF true (numT t (up (sizeT t))) n → Q (encT n)
theorem mono_labelled_from : MonoR r_labelled_from := fun ds Q Q' i ⟨sp, lab, t, a, b, c, q⟩ => ⟨sp, lab, t, a, b, c, fun n h => i _ (q n h)⟩
def r__labels_in_place : Rf := fun ds Q => ∃ t : Tr, ds = [encT t] ∧ wfT t = true ∧ nodes t ≤ 5000 ∧ (labs t).length = sizeT t ∧ Q (.lst (natsD (labs t)))
theorem mono__labels_in_place : MonoR r__labels_in_place := fun ds Q Q' i ⟨t, a, b, c, d, q⟩ => ⟨t, a, b, c, d, i _ q⟩
/-- a dict that holds g of each of the labels -/
def DicOf (ks : List L2.Key) (vs : List D) (ls : List Nat) (g : Nat → Nat) : Prop := ∀ l ∈ ls, hasK ks (.inl (l : Nat)) = true ∧ lookD ks vs (.inl (l : Nat)) = some (.int (g l : Nat))
def r_renamed : Rf := fun ds Q => ∃ (sp : Sp') (t : Tr) (ks : List L2.Key) (vs : List D) (g : Nat → Nat), ds = [encT t, .dic ks vs] ∧ valid sp = true ∧ Asked sp true t ∧ DicOf ks vs (labs t) g ∧ ((labs t).map g).Nodup ∧ (∀ l ∈ labs t, 1 ≤ g l) ∧ ∀ n, NF true (numT t ((labs t).map g)) n → Q (encT n)
theorem mono_renamed : MonoR r_renamed := fun ds Q Q' i ⟨sp, t, ks, vs, g, a1, a2, a3, a4, a5, a6, q⟩ => ⟨sp, t, ks, vs, g, a1, a2, a3, a4, a5, a6, fun n h => i _ (q n h)⟩
theorem nats_at (ls : List Nat) : (natsD ls).map (fun d => match d with | .int i => D.tup [.str "atom", .int i] | d => d) = (ls.map some).map atD := by
  unfold natsD
  rw [List.map_map, List.map_map]
  refine List.map_congr_left fun n _ => ?_
  show D.tup [.str "atom", .int (n : Nat)] = atD (some n)
  unfold atD
  rw [encT]
theorem era_at (t : Tr) : ((atomsL t).map encT).map (fun _ => D.tup [.str "atom"]) = (List.replicate (sizeT t) none).map atD := by
  rw [List.map_map, ← atoms_len, List.map_replicate]
  have : ∀ l : List Tr, l.map ((fun _ => D.tup [.str "atom"]) ∘ encT) = List.replicate l.length (atD none) := fun l => by
    induction l with
    | nil => rfl
    | cons x l ih =>
      rw [List.map_cons, ih, List.length_cons, List.replicate_succ]
      congr 1
  exact this _
theorem at_some : ∀ l : List Tr, (∀ a ∈ l, ∃ o, a = Tr.atom o) → (l.flatMap labs).length ≤ l.length ∧ ((l.flatMap labs).length = l.length → l = (l.flatMap labs).map fun n => Tr.atom (some n))
  | [], _ => ⟨Nat.le_refl _, fun _ => rfl⟩
  | a :: l, h => by
    obtain ⟨h1, h2⟩ := at_some l fun x hx => h x (List.mem_cons_of_mem _ hx)
    obtain ⟨o, rfl⟩ := h a List.mem_cons_self
    rw [List.flatMap_cons, List.length_append, List.length_cons]
    cases o with
    | none =>
      have e : labs (.atom none) = [] := by rw [labs]
      rw [e]
      exact ⟨by show 0 + _ ≤ _; omega, fun z => by have z : 0 + (l.flatMap labs).length = l.length + 1 := z; omega⟩
    | some n =>
      have e : labs (.atom (some n)) = [n] := by rw [labs]
      rw [e]
      refine ⟨by show 1 + _ ≤ _; omega, fun z => ?_⟩
      have z : 1 + (l.flatMap labs).length = l.length + 1 := z
      rw [List.singleton_append, List.map_cons, ← h2 (by omega)]
def atN (n : Nat) : D := .tup [.str "atom", .int (n : Nat)]
theorem at_labs {t : Tr} (h : (labs t).length = sizeT t) : (atomsL t).map encT = (labs t).map atN := by
  have e := (at_some (atomsL t) (atoms_are t)).2 (by rw [atoms_labs, atoms_len]; exact h)
  rw [atoms_labs] at e
  rw [e, List.map_map]
  refine List.map_congr_left fun n _ => ?_
  show encT (.atom (some n)) = atN n
  rw [encT]; rfl
theorem no_any {α : Type} (l : List α) : (l.map fun _ => false).any id = false := by
  induction l with
  | nil => rfl
  | cons a l ih => rw [List.map_cons, List.any_cons, ih]; rfl
theorem bls_no {α β : Type} (f : α → β) (l : List α) : (l.map f).map (fun _ => D.bl false) = (l.map fun _ => false).map D.bl := by
  rw [List.map_map, List.map_map]; rfl
def sndD : D → D
  | .tup [_, x] => x
  | d => d
theorem snd_nats (l : List Nat) : (l.map atN).map sndD = natsD l := by unfold natsD; rw [List.map_map]; rfl
theorem up_nd (n : Nat) : (up n).Nodup := by
  unfold up
  exact List.Pairwise.map _ (fun a b h => by omega) List.nodup_range
def r_is_whole (ds : List D) (d : D) : Prop := ∃ i : Int, ds = [.int i] ∧ d = .bl true
theorem ok_is_whole (T : Tx K mg W) (Dd : Df K mg "is_whole" s_is_whole ["value"]) : Cal P w K mg base CX0 1 "is_whole" ["value"] (spW K (relR r_is_whole)) := by
  refine cal_ok Dd sc_is_whole (fun ds Q h => ?_) (fun f cdv A outer s H E hr => 
  (ss_one (s_ret (d_and (d_isi k_int T.n_isinstance T.n_int (qv 0)) (d_one (d_not (d_isi k_bool T.n_isinstance T.n_bool (qv 0)))))))) (fun ds Q h => ?_)

  · obtain ⟨d, ⟨i, rfl, _⟩, _⟩ := h; rfl
  · obtain ⟨d, ⟨i, rfl, rfl⟩, q⟩ := h
    exact ⟨rfl, rfl, q⟩
theorem ok__with_labels (T : Tx K mg W) (Dd : Df K mg "_with_labels" s__with_labels ["structure", "labels"]) (C_with_atoms : Cal P w K mg base CX0 9 "with_atoms" ["structure", "atoms"] (spW K r_with_atoms)) : Cal P w K mg base CX0 10 "_with_labels" ["structure", "labels"] (spW K r__with_labels) := by
  refine cal_ok Dd sc__with_labels (fun ds Q h => ?_) (fun f cdv A outer s H E hr => 
  (ss_one (s_ret (d_call C_with_atoms mono_with_atoms (hr.mono (by decide)) (a_cons (dv 0) (a_cons (f_lc sc__with_labels.nd (i_listQ (qv 1)) (blkOk_by (own := [("label", 2)]) (N := ["structure", "labels", "label"]) (sc := defScope s__with_labels) (by decide +kernel)) (fun _ _ _ _ _ => (g_name (i := 2) sc__with_labels.nd rfl (.inl rfl))) (fun _ _ _ _ _ => ts_nil) (fun _ _ _ _ _ => (d_tup (a_cons d_str (a_cons (dv 2) a_nil))))).p a_nil)))))) (fun ds Q h => ?_)

  · obtain ⟨t, ls, rfl, _⟩ := h; rfl
  · obtain ⟨t, ls, rfl, hw, hn, hl, q⟩ := h
    refine lc_map (fun d => match d with | .int i => D.tup [.str "atom", .int i] | d => d) (fun x hx P p => ?_) ?_
    · obtain ⟨n, _, rfl⟩ := List.mem_map.mp hx
      exact p
    · rw [nats_at]
      exact ⟨t, ls.map some, rfl, hw, hn, by rw [List.length_map]; exact hl, by rw [set_num]; exact q⟩
theorem ok_erased (T : Tx K mg W) (Dd : Df K mg "erased" s_erased ["structure"]) (C_one_form : Cal P w K mg base CX0 9 "one_form" ["structure"] (spW K r_one_form)) (C_with_atoms : Cal P w K mg base CX0 9 "with_atoms" ["structure", "atoms"] (spW K r_with_atoms)) (C_atoms_of : Cal P w K mg base CX0 2 "atoms_of" ["structure"] (spW K (relR r_atoms_of))) : Cal P w K mg base CX0 10 "erased" ["structure"] (spW K r_erased) := by
  refine cal_ok Dd sc_erased (fun ds Q h => ?_) (fun f cdv A outer s H E hr => 
  (ss_one (s_ret (d_call C_one_form mono_one_form (hr.mono (by decide)) (a_cons (d_call C_with_atoms mono_with_atoms (hr.mono (by decide)) (a_cons (dv 0) (a_cons (f_lc sc_erased.nd (i_listQ (d_call C_atoms_of relR_mono (hr.mono (by decide)) (a_cons (dv 0) a_nil)).q) (blkOk_by (own := [("_", 1)]) (N := ["structure", "_"]) (sc := defScope s_erased) (by decide +kernel)) (fun _ _ _ _ _ => (g_name (i := 1) sc_erased.nd rfl (.inl rfl))) (fun _ _ _ _ _ => ts_nil) (fun _ _ _ _ _ => (d_tup (a_cons d_str a_nil)))).p a_nil))) a_nil))))) (fun ds Q h => ?_)

  · obtain ⟨sp, lab, t, rfl, _⟩ := h; rfl
  · obtain ⟨sp, lab, t, rfl, hv, ask, q⟩ := h
    have hw := ask.wf hv
    have hn := ask.n
    refine ⟨_, ⟨t, rfl, hw, by omega, rfl⟩, ?_⟩
    refine lc_map (fun _ => D.tup [.str "atom"]) (fun x hx P p => p) ?_
    rw [era_at]
    refine ⟨t, List.replicate (sizeT t) none, rfl, hw, hn, List.length_replicate, ?_⟩
    rw [set_era t _ (Nat.le_refl _)]
    exact ⟨sp, false, eraT t, rfl, hv, era_ask ask, fun n h => q n h⟩
theorem ok_labelled_from (T : Tx K mg W) (Dd : Df K mg "labelled_from" s_labelled_from ["structure"]) (C_one_form : Cal P w K mg base CX0 9 "one_form" ["structure"] (spW K r_one_form)) (C_atoms_of : Cal P w K mg base CX0 2 "atoms_of" ["structure"] (spW K (relR r_atoms_of))) (C__with_labels : Cal P w K mg base CX0 10 "_with_labels" ["structure", "labels"] (spW K r__with_labels)) : Cal P w K mg base CX0 11 "labelled_from" ["structure"] (spW K r_labelled_from) := by
  refine cal_ok Dd sc_labelled_from (fun ds Q h => ?_) (fun f cdv A outer s H E hr => 
  (ss_cons (s_set (i := 1) sc_labelled_from.nd rfl (.inl rfl) (d_callB (c_len) T.n_len (b_cons (d_call C_atoms_of relR_mono (hr.mono (by decide)) (a_cons (dv 0) a_nil)).q b_nil)))
  (ss_one (s_ret (d_call C_one_form mono_one_form (hr.mono (by decide)) (a_cons (d_call C__with_labels mono__with_labels (hr.mono (by decide)) (a_cons (dv 0) (a_cons (f_listRg T.n_list (r_2 T.n_range d_int.q (d_op (o_add) (qv 1) d_int.q).q)).p a_nil))) a_nil)))))) (fun ds Q h => ?_)

  · obtain ⟨sp, lab, t, rfl, _⟩ := h; rfl
  · obtain ⟨sp, lab, t, rfl, hv, ask, q⟩ := h
    have hw := ask.wf hv
    have hn := ask.n
    have hs := ask.s
    obtain ⟨L, eL, hL⟩ : ∃ L : List D, (atomsL t).map encT = L ∧ L.length = sizeT t := ⟨_, rfl, by rw [List.length_map, atoms_len]⟩
    refine ⟨.lst L, ⟨t, rfl, hw, by omega, by rw [eL]⟩, ?_⟩
    refine ⟨rgb (by decide) (by decide) (by omega) (by omega) (by omega), ?_⟩
    rw [hL, rg_up1]
    refine ⟨t, up (sizeT t), rfl, hw, hn, up_len _, ?_⟩
    exact ⟨sp, true, _, rfl, hv, num_ask ask (up_len _) (up_nd _), fun n h => q n h⟩
theorem ok__labels_in_place (T : Tx K mg W) (Dd : Df K mg "_labels_in_place" s__labels_in_place ["structure"]) (C_atoms_of : Cal P w K mg base CX0 2 "atoms_of" ["structure"] (spW K (relR r_atoms_of))) : Cal P w K mg base CX0 3 "_labels_in_place" ["structure"] (spW K r__labels_in_place) := by
  refine cal_ok Dd sc__labels_in_place (fun ds Q h => ?_) (fun f cdv A outer s H E hr => 
  (ss_cons (s_set (i := 1) sc__labels_in_place.nd rfl (.inl rfl) (d_call C_atoms_of relR_mono (hr.mono (by decide)) (a_cons (dv 0) a_nil)))
  (ss_cons (s_if (t_val (d_callB (c_any) T.n_any (b_cons (f_lc sc__labels_in_place.nd (i_listQ (qv 1)) (blkOk_by (own := [("atom", 4)]) (N := ["structure", "atoms", "_", "label", "atom"]) (sc := defScope s__labels_in_place) (by decide +kernel)) (fun _ _ _ _ _ => (g_name (i := 4) sc__labels_in_place.nd rfl (.inl rfl))) (fun _ _ _ _ _ => ts_nil) (fun _ _ _ _ _ => (d_cmp (o_eq (hu64 hr)) (d_callB (c_len) T.n_len (b_cons (qv 4) b_nil)).q d_int.q))).p.q b_nil)).q) (
    (ss_one (s_never))) (ss_nil))
  (ss_one (s_ret (f_lc sc__labels_in_place.nd (i_listQ (qv 1)) (blkOk_by (own := [("_", 2), ("label", 3)]) (N := ["structure", "atoms", "_", "label", "atom"]) (sc := defScope s__labels_in_place) (by decide +kernel)) (fun _ _ _ _ _ => (g_tup (gs_cons (g_name (i := 2) sc__labels_in_place.nd rfl (.inl rfl)) (gs_cons (g_name (i := 3) sc__labels_in_place.nd rfl (.inl rfl)) gs_nil)))) (fun _ _ _ _ _ => ts_nil) (fun _ _ _ _ _ => (dv 3))).p))))) (fun ds Q h => ?_)

  · obtain ⟨t, rfl, _⟩ := h; rfl
  · obtain ⟨t, rfl, hw, hn, hl, q⟩ := h
    refine ⟨_, ⟨t, rfl, hw, by omega, rfl⟩, ?_⟩
    rw [at_labs hl]
    refine lc_map (fun _ => D.bl false) (fun x hx P p => ?_) ?_
    · obtain ⟨n, _, rfl⟩ := List.mem_map.mp hx
      exact p
    refine ⟨_, bls_no _ _, ?_⟩
    show ite (((labs t).map fun _ => false).any id = true) _ _
    rw [no_any]
    refine lc_map sndD (fun x hx P p => ?_) ?_
    · obtain ⟨n, _, rfl⟩ := List.mem_map.mp hx
      exact p
    rw [snd_nats]
    exact q
theorem ok_renamed (T : Tx K mg W) (Dd : Df K mg "renamed" s_renamed ["structure", "names"]) (C__labels_in_place : Cal P w K mg base CX0 3 "_labels_in_place" ["structure"] (spW K r__labels_in_place)) (C_one_form : Cal P w K mg base CX0 9 "one_form" ["structure"] (spW K r_one_form)) (C__with_labels : Cal P w K mg base CX0 10 "_with_labels" ["structure", "labels"] (spW K r__with_labels)) (C_is_whole : Cal P w K mg base CX0 1 "is_whole" ["value"] (spW K (relR r_is_whole))) : Cal P w K mg base CX0 11 "renamed" ["structure", "names"] (spW K r_renamed) := by
  refine cal_ok Dd sc_renamed (fun ds Q h => ?_) (fun f cdv A outer s H E hr => 
  (ss_cons (s_set (i := 2) sc_renamed.nd rfl (.inl rfl) (d_call C__labels_in_place mono__labels_in_place (hr.mono (by decide)) (a_cons (dv 0) a_nil)))
  (ss_cons (s_if (w_or (t_not (t_val (d_isi k_dict T.n_isinstance T.n_dict (qv 1)).q)) (w_or1 (t_val (d_callB (c_any) T.n_any (b_cons (f_lc sc_renamed.nd (i_listQ (qv 2)) (blkOk_by (own := [("label", 4)]) (N := ["structure", "names", "labels", "numbers", "label", "number"]) (sc := defScope s_renamed) (by decide +kernel)) (fun _ _ _ _ _ => (g_name (i := 4) sc_renamed.nd rfl (.inl rfl))) (fun _ _ _ _ _ => ts_nil) (fun _ _ _ _ _ => (d_dnin (qv 4) (qv 1) (hu64 hr)))).p.q b_nil)).q))).t (
    (ss_one (s_never))) (ss_nil))
  (ss_cons (s_setLc (i := 3) sc_renamed.nd rfl (i_listQ (qv 2)) (blkOk_by (own := [("label", 4)]) (N := ["structure", "names", "labels", "numbers", "label", "number"]) (sc := defScope s_renamed) (by decide +kernel)) (fun _ _ _ _ _ => (g_name (i := 4) sc_renamed.nd rfl (.inl rfl))) (fun _ _ _ _ _ => ts_nil) (fun _ _ _ _ _ => (d_dget (qv 1) (qv 4) (hu64 hr))))
  (ss_cons (s_if (w_or (t_val (d_callB (c_any) T.n_any (b_cons (f_lc sc_renamed.nd (i_listQ (qv 3)) (blkOk_by (own := [("number", 5)]) (N := ["structure", "names", "labels", "numbers", "label", "number"]) (sc := defScope s_renamed) (by decide +kernel)) (fun _ _ _ _ _ => (g_name (i := 5) sc_renamed.nd rfl (.inl rfl))) (fun _ _ _ _ _ => ts_nil) (fun _ _ _ _ _ => (d_or (d_not (d_call C_is_whole relR_mono (hr.mono (by decide)) (a_cons (dv 5) a_nil))) (d_one (d_cmp o_lt (qv 5) d_int.q))))).p.q b_nil)).q) (w_or1 (t_cmp o_lt (d_lenSet T.n_len T.n_set (qv 3)).q (d_callB (c_len) T.n_len (b_cons (qv 3) b_nil)).q))).t (
    (ss_one (s_never))) (ss_nil))
  (ss_one (s_ret (d_call C_one_form mono_one_form (hr.mono (by decide)) (a_cons (d_call C__with_labels mono__with_labels (hr.mono (by decide)) (a_cons (dv 0) (a_cons (dv 3) a_nil))) a_nil))))))))) (fun ds Q h => ?_)

  · obtain ⟨sp, t, ks, vs, g, rfl, _⟩ := h; rfl
  · obtain ⟨sp, t, ks, vs, g, rfl, hv, ask, hd, nd, h1, q⟩ := h
    have hw := ask.wf hv
    have hn := ask.n
    refine ⟨t, rfl, hw, hn, ask.l.2, ?_⟩
    refine ⟨rfl, ?_⟩
    refine lc_map (fun _ => D.bl false) (fun x hx P p => ?_) ?_
    · obtain ⟨n, hn, rfl⟩ := List.mem_map.mp hx
      show P (.bl (!hasK ks (.inl (n : Nat))))
      rw [(hd n hn).1]
      exact p
    refine ⟨_, bls_no _ _, ?_⟩
    show ite (((labs t).map fun _ => false).any id = true) _ _
    rw [no_any]
    refine lc_map (fun d => match d with | .int i => .int (g i.toNat : Nat) | d => d) (fun x hx P p => ?_) ?_
    · obtain ⟨n, hn, rfl⟩ := List.mem_map.mp hx
      exact onSome_of (hd n hn).2 p
    have eg : (natsD (labs t)).map (fun d => match d with | .int i => D.int (g i.toNat : Nat) | d => d) = natsD ((labs t).map g) := by
      unfold natsD
      rw [List.map_map, List.map_map]
      exact List.map_congr_left fun n _ => rfl
    rw [eg]
    refine lc_map (fun _ => D.bl false) (fun x hx P p => ?_) ?_
    · obtain ⟨m, hm, rfl⟩ := List.mem_map.mp hx
      obtain ⟨n, hn, rfl⟩ := List.mem_map.mp hm
      refine ⟨_, ⟨_, rfl, rfl⟩, ?_⟩
      show P (.bl (decide ((g n : Int) < 1)))
      rw [decide_eq_false (by have := h1 n hn; omega)]
      exact p
    refine ⟨_, bls_no _ _, ?_⟩
    show ite ((((labs t).map g).map fun _ => false).any id = true) _ _
    rw [no_any]
    have ll : ((labs t).map g).length = sizeT t := by rw [List.length_map]; exact ask.l.2
    have sz := ask.s
    refine ⟨toZ ((labs t).map g), natsD_Z _, List.Pairwise.map _ (fun a b h => by omega) nd, by unfold toZ; rw [List.length_map, ll]; omega, ?_⟩
    show ite (decide ((((toZ ((labs t).map g)).length : Nat) : Int) < ((natsD ((labs t).map g)).length : Nat)) = true) _ _
    have e1 : (toZ ((labs t).map g)).length = (natsD ((labs t).map g)).length := by rw [natsD_len]; unfold toZ; rw [List.length_map]
    rw [e1, decide_eq_false (by omega)]
    refine ⟨t, (labs t).map g, rfl, hw, hn, ll, ?_⟩
    exact ⟨sp, true, _, rfl, hv, num_ask ask ll nd, fun n h => q n h⟩
end
end DL

namespace DL
variable [Tbs]
open PySem L2
section
variable {P : Program} {w : World} {K : PySem.W.Frag} {mg : Str → Option Value} {base : Heap} {W : Ad}
/-! ### the law -/
def r_law (ds : List D) (d : D) : Prop := ∃ ns : List Int, ds = [.scr (ns.map D.int)] ∧ ns.length ≤ 63 ∧ d = .bl true
theorem cutD_mem {α : Type} {l : List α} {lo hi : Option Int} {x : α} (h : x ∈ cutD l lo hi) : x ∈ l := List.mem_of_mem_drop (List.mem_of_mem_take h)
theorem huN3 {A : Around} (hr : Ro 265 A) : A.units + 800 < cLine := by have := hr.un; omega
theorem menu_v {sp : Sp'} (h : sp ∈ menu') : valid sp = true := List.all_eq_true.mp menu_ok sp h
/-- what is given to the forms -/
structure Good (sp : Sp') (s : Str) (lab : Bool) (u : Tr) : Prop where
  f : Form sp (.name s) u
  sz : sizeT u ≤ 60
  l : Lb lab u
theorem Good.ask {sp : Sp'} {s : Str} {lab : Bool} {u : Tr} (hv : valid sp = true) (hs : (eqs sp s).isSome = true) (g : Good sp s lab u) : Asked sp lab u := ⟨⟨.name s, by unfold okE; exact hs, g.f⟩, g.l, g.sz, name_nodes hv g.f g.sz⟩
theorem Good.rea {sp : Sp'} {s : Str} {lab : Bool} {u v : Tr} (g : Good sp s lab u) (h : Rea u v) : Good sp s lab v := ⟨rea_form g.f h, by rw [(rea_s h).s]; exact g.sz, lb_rea h g.l⟩
theorem Good.era {sp : Sp'} {s : Str} {lab : Bool} {u : Tr} (g : Good sp s lab u) : Good sp s false (eraT u) := ⟨era_form g.f, by rw [era_size]; exact g.sz, era_labs u⟩
theorem Good.num {sp : Sp'} {s : Str} {lab : Bool} {t : Tr} {ls : List Nat} (g : Good sp s lab t) (hl : ls.length = sizeT t) (nd : ls.Nodup) : Good sp s true (numT t ls) := by
  have e := num_labs t ls (by omega)
  refine ⟨num_form g.f ls, by rw [num_size]; exact g.sz, ?_⟩
  show (labs (numT t ls)).Nodup ∧ (labs (numT t ls)).length = sizeT (numT t ls)
  rw [e, num_size, List.take_of_length_le (by omega)]
  exact ⟨nd, hl⟩
/-- two that are the same but for the labels have the same form without them -/
theorem one_era {sp : Sp'} (hv : valid sp = true) {s : Str} (ok : okE sp (.name s) = true) {lab : Bool} {t u n m : Tr} (g : Good sp s lab t) (st : Sti t u) (h1 : NF false (eraT t) n) (h2 : NF false (eraT u) m) : m = n :=
  (nf_one hv (eraT t) (.name s) g.era.f ok g.era.l (sti_era st) h1 h2).symm
def timesD (j : Nat) : D → D
  | .int i => .int (i * (0 + (j : Int) + 1))
  | d => d
theorem times_nats (j : Nat) (l : List Nat) : (natsD l).map (timesD j) = natsD (l.map fun n => n * (j + 1)) := by
  unfold natsD
  rw [List.map_map, List.map_map]
  refine List.map_congr_left fun n _ => ?_
  show D.int ((n : Int) * (0 + (j : Int) + 1)) = D.int ((n * (j + 1) : Nat) : Int)
  congr 1
  rw [Int.natCast_mul, Int.zero_add]; rfl
/-- the dict of the names, k rows of it -/
def nmK (k : Nat) : List L2.Key := (List.range k).map fun (i : Nat) => (.inl ((i : Int) + 1) : L2.Key)
def nmV (size k : Nat) : List D := (List.range k).map fun (i : Nat) => D.int ((size : Int) - (i : Nat))
theorem nm_no (k : Nat) : hasK (nmK k) (.inl ((k : Int) + 1)) = false := by
  unfold hasK nmK
  rw [List.any_eq_false]
  intro x hx
  obtain ⟨i, hi, rfl⟩ := List.mem_map.mp hx
  have := List.mem_range.mp hi
  simp
  omega
theorem nmK_put (k : Nat) : dKs (nmK k) (.inl ((k : Int) + 1)) = nmK (k + 1) := by
  unfold dKs
  rw [nm_no, if_neg Bool.false_ne_true]
  unfold nmK
  rw [List.range_succ, List.map_append]; rfl
theorem nmV_put (size k : Nat) : dVs (nmK k) (nmV size k) (.inl ((k : Int) + 1)) (.int ((size : Int) - (k : Nat))) = nmV size (k + 1) := by
  unfold dVs
  rw [nm_no, if_neg Bool.false_ne_true]
  unfold nmV
  rw [List.range_succ, List.map_append]; rfl
theorem look_map (f : Nat → L2.Key) (g : Nat → D) (inj : ∀ a b, f a = f b → a = b) (x : Nat) : ∀ l : List Nat, x ∈ l → lookD (l.map f) (l.map g) (f x) = some (g x) ∧ hasK (l.map f) (f x) = true
  | [], h => by cases h
  | y :: l, h => by
    rw [List.map_cons, List.map_cons]
    unfold lookD hasK
    rw [List.any_cons]
    by_cases e : f y = f x
    · rw [if_pos e, decide_eq_true e, inj _ _ e]; exact ⟨rfl, rfl⟩
    · rw [if_neg e]
      rcases List.mem_cons.mp h with rfl | h
      · exact absurd rfl e
      · obtain ⟨h1, h2⟩ := look_map f g inj x l h
        refine ⟨h1, ?_⟩
        unfold hasK at h2
        rw [h2, Bool.or_true]
theorem nm_dic {size : Nat} {ls : List Nat} (h : ∀ l ∈ ls, 1 ≤ l ∧ l ≤ size) : DicOf (nmK size) (nmV size size) ls fun l => size + 1 - l := fun l hl => by
  obtain ⟨h1, h2⟩ := h l hl
  obtain ⟨a, b⟩ := look_map (fun (i : Nat) => (.inl ((i : Int) + 1) : L2.Key)) (fun (i : Nat) => D.int ((size : Int) - (i : Nat))) (fun a b e => by injection e with e; omega) (l - 1) (List.range size) (List.mem_range.mpr (by omega))
  have e : ((l - 1 : Nat) : Int) + 1 = (l : Nat) := by omega
  have e2 : (size : Int) - ((l - 1 : Nat) : Nat) = ((size + 1 - l : Nat) : Int) := by omega
  refine ⟨?_, ?_⟩
  · have := b
    simp only [e] at this
    exact this
  · have := a
    simp only [e, e2] at this
    exact this
theorem nmK_put0 (k : Nat) : dKs (nmK k) (.inl (0 + (k : Int) + 1)) = nmK (k + 1) := by rw [Int.zero_add]; exact nmK_put k
theorem nmV_put0 (size k : Nat) : dVs (nmK k) (nmV size k) (.inl (0 + (k : Int) + 1)) (.int ((size : Int) - (0 + (k : Nat)))) = nmV size (k + 1) := by rw [Int.zero_add]; exact nmV_put size k
theorem up_mem {n l : Nat} (h : l ∈ up n) : 1 ≤ l ∧ l ≤ n := by
  unfold up at h
  obtain ⟨i, hi, rfl⟩ := List.mem_map.mp h
  have := List.mem_range.mp hi
  omega
theorem nodup_on {f : Nat → Nat} : ∀ {l : List Nat}, (∀ a ∈ l, ∀ b ∈ l, f a = f b → a = b) → l.Nodup → (l.map f).Nodup
  | [], _, _ => List.nodup_nil
  | a :: l, h, n => by
    rw [List.map_cons]
    obtain ⟨n1, n2⟩ := List.nodup_cons.mp n
    refine List.nodup_cons.mpr ⟨fun z => ?_, nodup_on (fun x hx y hy => h x (List.mem_cons_of_mem _ hx) y (List.mem_cons_of_mem _ hy)) n2⟩
    obtain ⟨b, hb, e⟩ := List.mem_map.mp z
    have := h b (List.mem_cons_of_mem _ hb) a List.mem_cons_self e
    rw [this] at hb
    exact n1 hb
theorem std_of {t : Tr} (h : (labs t).Perm (up (sizeT t))) : stdT t = true := by
  unfold stdT
  refine decide_eq_true ?_
  have e : labL t = up (sizeT t) := by
    have so : (up (sizeT t)).Pairwise (· ≤ ·) := by
      unfold up
      exact List.Pairwise.map _ (fun a b h => by omega) List.pairwise_lt_range
    exact ((isN_perm _).trans h).eq_of_pairwise (fun x y _ _ h3 h4 => by omega) (isN_ord _) so
  rw [e]
  unfold toZ up upTo1
  rw [List.map_map]
  exact List.map_congr_left fun n _ => by show ((n + 1 : Nat) : Int) = 1 + (n : Int); omega
theorem ok_law (T : Tx K mg W) {fa : Addr} {fd : FuncData} (Dd : Fun K "law" "law" s_law fa fd) (C__law_spec : Cal P w K mg base CX0 2 "_law_spec" ["number"] (spW K r__law_spec)) (C__law_drawn : Cal P w K mg base CX0 263 "_law_drawn" ["equations", "name", "cell", "room"] (spW K r__law_drawn)) (C__law_cell : Cal P w K mg base CX0 1 "_law_cell" ["script", "k"] (spW K (relR r__law_cell))) (C__law_size : Cal P w K mg base CX0 262 "_law_size" ["structure"] (spW K (relR (r__law_size 260)))) (C__law_form : Cal P w K mg base CX0 265 "_law_form" ["structure"] (spW K (r__law_form 260))) (C_labelled_from : Cal P w K mg base CX0 11 "labelled_from" ["structure"] (spW K r_labelled_from)) (C_erased : Cal P w K mg base CX0 10 "erased" ["structure"] (spW K r_erased)) (C__law_numbered : Cal P w K mg base CX0 262 "_law_numbered" ["structure", "labels"] (spM K (r__law_numbered 260))) (C_is_standard : Cal P w K mg base CX0 4 "is_standard" ["structure"] (spW K (relR r_is_standard))) (C_renamed : Cal P w K mg base CX0 11 "renamed" ["structure", "names"] (spW K r_renamed)) (C__law_order : Cal P w K mg base CX0 3 "_law_order" ["cell", "size"] (spW K r__law_order)) : FnG P w K mg base CX0 266 fa fd ["script"] (spW K (relR r_law)) := by
  refine fn_ok Dd sc_law (fun ds Q h => ?_) (fun f cdv A outer s H E hr => 
  (ss_cons (s_set (i := 1) sc_law.nd rfl (.inl rfl) (d_op o_mod (d_callT c_int T.n_int (b_cons (d_call C__law_cell relR_mono (hr.mono (by decide)) (a_cons (dv 0) (a_cons d_int a_nil))).q b_nil)).q d_int.q))
  (ss_cons (s_asg (d_call C__law_spec mono__law_spec (hr.mono (by decide)) (a_cons (dv 1) a_nil)) (g_tup (gs_cons (g_name (i := 2) sc_law.nd rfl (.inl rfl)) (gs_cons (g_name (i := 3) sc_law.nd rfl (.inl rfl)) gs_nil))))
  (ss_cons (s_for PassesOwn.never (i_list (d_slice (qv 0) (o_some d_int.q) (o_some d_int.q))) (g_name (i := 4) sc_law.nd rfl (.inl rfl)) (
    (ss_cons (s_set (i := 5) sc_law.nd rfl (.inl rfl) (d_call C__law_drawn mono__law_drawn (hr.mono (by decide)) (a_cons (dv 2) (a_cons (dv 3) (a_cons (dv 4) (a_cons (d_ix (f_lst (a_cons (d_op (o_add) d_int.q (d_op o_mod (d_op o_div (qv 1) d_int.q).q d_int.q).q) (a_cons d_int a_nil))).p.q (d_callT c_int T.n_int (b_cons (d_cmp (o_eq (hu64 hr)) (d_op o_mod (d_op o_div (qv 1) d_int.q).q d_int.q).q d_int.q).q b_nil)).q) a_nil))))))
    (ss_one (s_if (t_notN (qv 5)) (
      (ss_cons (s_set (i := 6) sc_law.nd rfl (.inl rfl) (d_call C__law_size relR_mono (hr.mono (by decide)) (a_cons (dv 5) a_nil)))
      (ss_cons (s_set (i := 7) sc_law.nd rfl (.inl rfl) (d_call C__law_form mono__law_form (hr.mono (by decide)) (a_cons (dv 5) a_nil)))
      (ss_cons (s_for PassesOwn.never (i_range1 T.n_range d_int.q) (g_name (i := 8) sc_law.nd rfl (.inr rfl)) (
        (ss_cons (s_setLc (i := 9) sc_law.nd rfl (i_listQ (d_call C__law_order mono__law_order (hr.mono (by decide)) (a_cons (d_op (o_add) (d_callT c_int T.n_int (b_cons (qv 4) b_nil)).q (qv 8)) (a_cons (dv 6) a_nil))).q) (blkOk_by (own := [("one", 14)]) (N := ["script", "number", "equations", "name", "cell", "raw", "size", "due", "turn", "labels", "structure", "back", "names", "k", "one"]) (sc := defScope s_law) (by decide +kernel)) (fun _ _ _ _ _ => (g_name (i := 14) sc_law.nd rfl (.inl rfl))) (fun _ _ _ _ _ => ts_nil) (fun _ _ _ _ _ => (d_op (o_mul) (qv 14) (d_op (o_add) (qv 8) d_int.q).q)))
        (ss_cons (s_set (i := 10) sc_law.nd rfl (.inl rfl) (d_call C__law_form mono__law_form (hr.mono (by decide)) (a_cons (d_callF C__law_numbered mono__law_numbered (hr.mono (by decide)) (fa_cons (dv 5) (fa_here (f_callT c_list T.n_list (b_cons (qv 9) b_nil)) a_nil))) a_nil)))
        (ss_one (s_if (t_cmp (o_neN (N := 800) (huN3 hr)) (d_call C_erased mono_erased (hr.mono (by decide)) (a_cons (dv 10) a_nil)).q (qv 7)) (
          (ss_one (s_ret d_bl))) (ss_nil)))))))
      (ss_cons (s_if (t_cmp (o_neN (N := 800) (huN3 hr)) (d_call C_erased mono_erased (hr.mono (by decide)) (a_cons (dv 7) a_nil)).q (qv 7)) (
        (ss_one (s_ret d_bl))) (ss_nil))
      (ss_cons (s_set (i := 11) sc_law.nd rfl (.inl rfl) (d_call C_labelled_from mono_labelled_from (hr.mono (by decide)) (a_cons (dv 7) a_nil)))
      (ss_cons (s_if (w_or (t_cmp (o_neN (N := 800) (huN3 hr)) (qv 11) (d_call C__law_form mono__law_form (hr.mono (by decide)) (a_cons (d_callF C__law_numbered mono__law_numbered (hr.mono (by decide)) (fa_cons (dv 7) (fa_here (f_listRg T.n_list (r_2 T.n_range d_int.q (d_op (o_add) (qv 6) d_int.q).q)) a_nil))) a_nil)).q) (w_or (t_cmp o_isnB (d_call C_is_standard relR_mono (hr.mono (by decide)) (a_cons (dv 11) a_nil)).q d_bl.q) (w_or1 (t_cmp (o_neN (N := 800) (huN3 hr)) (d_call C_erased mono_erased (hr.mono (by decide)) (a_cons (dv 11) a_nil)).q (qv 7))))).t (
        (ss_one (s_ret d_bl))) (ss_nil))
      (ss_cons (s_newD (i := 12) sc_law.nd rfl (.inl rfl))
      (ss_cons (s_for PassesOwn.never (i_range1 T.n_range (qv 6)) (g_name (i := 13) sc_law.nd rfl (.inl rfl)) (
        (ss_one (s_dput 12 (hu64 hr) (d_op (o_add) (qv 13) d_int.q).q (d_op o_sub (qv 6) (qv 13))))))
      (ss_one (s_frz 12 <| s_if (t_cmp (o_neN (N := 800) (huN3 hr)) (d_call C_erased mono_erased (hr.mono (by decide)) (a_cons (d_call C_renamed mono_renamed (hr.mono (by decide)) (a_cons (dv 11) (a_cons (dv 12) a_nil))) a_nil)).q (qv 7)) (
        (ss_one (s_ret d_bl))) (ss_nil)))))))))))) (ss_nil))))))
  (ss_one (s_ret d_bl)))))) (fun ds Q h => ?_)

  · obtain ⟨d, ⟨ns, rfl, _⟩, _⟩ := h; rfl
  · obtain ⟨d, ⟨ns, rfl, hn, rfl⟩, q⟩ := h
    refine ⟨_, ⟨ns, 0, rfl, hn, rfl⟩, md (by decide), ?_⟩
    obtain ⟨num, en, hnum⟩ := mod_nat (ns.getD 0 0) (m := 90000) (by decide)
    refine ⟨num, by rw [← en], fun sp hsp s hs => ?_⟩
    have hv := menu_v hsp
    have ok : okE sp (.name s) = true := by unfold okE; exact hs
    refine loop_inv (fun i δ => ∃ x4 x5 x6 x7 x8 x9 x10 x11 x12 x13 x14 : Sl, δ = [.d (.scr (ns.map D.int)), .d (.int (ns.getD 0 0 % 90000)), .d (encSp sp), .d (.str s), x4, x5, x6, x7, x8, x9, x10, x11, x12, x13, x14]) ⟨.no, .no, .no, .no, .no, .no, .no, .no, .no, .no, .no, rfl⟩ ?_ ?_
    · rintro i z δ ez ⟨x4, x5, x6, x7, x8, x9, x10, x11, x12, x13, x14, rfl⟩ N hN
      obtain ⟨c, _, rfl⟩ := List.mem_map.mp (cutD_mem (List.mem_of_getElem? ez))
      refine ⟨divS (by decide) (by decide), md (by decide), divS (by decide) (by decide), md (by decide), ?_⟩
      show onSome (ixD [D.int (1 + ns.getD 0 0 % 90000 / 100 % 8), .int 60] (if decide (ns.getD 0 0 % 90000 / 800 % 20 = 7) = true then 1 else 0)) _
      obtain ⟨room, hroom, er⟩ : ∃ room : Nat, room ≤ 60 ∧ ixD [D.int (1 + ns.getD 0 0 % 90000 / 100 % 8), .int 60] (if decide (ns.getD 0 0 % 90000 / 800 % 20 = 7) = true then 1 else 0) = some (.int (room : Nat)) := by
        split
        · exact ⟨60, by decide, rfl⟩
        · refine ⟨(1 + ns.getD 0 0 % 90000 / 100 % 8).toNat, by omega, ?_⟩
          show some (D.int _) = some (D.int _)
          rw [Int.toNat_of_nonneg (by omega)]
      refine onSome_of er ?_
      refine ⟨sp, s, c, room, rfl, hv, hs, hroom, ?_, fun t f lt st => ?_⟩
      · exact hN _ ⟨.d (.int c), .d .non, x6, x7, x8, x9, x10, x11, x12, x13, x14, rfl⟩
      show ite ((!isNon (encT t)) = true) _ _
      refine yNB (fun _ => ?_) (fun h => bne (isNon_enc t) h)
      have s60 : sizeT t ≤ 60 := Nat.le_trans st hroom
      have nm := name_nm hv f s60
      have nd := nm.d
      have good0 : Good sp s false t := ⟨f, s60, lt⟩
      have et : eraT t = t := era_self t lt
      refine ⟨_, ⟨t, rfl, nm.wf, by omega, rfl⟩, ?_⟩
      refine ⟨sp, .name s, false, t, rfl, hv, ok, f, lt, by omega, by omega, nm.n, fun n0 nf0 => ?_⟩
      have goodn := good0.rea (nf_rea nf0)
      have nfe : NF false (eraT t) n0 := by rw [et]; exact nf0
      have sn0 : sizeT n0 = sizeT t := (rea_s (nf_rea nf0)).s
      have nmn := name_nm hv goodn.f goodn.sz
      have ndn := nmn.d
      refine ⟨rgb (by decide) (by decide) (by decide) (by decide) (by decide), ?_⟩
      refine loop_rg (n := 3) (fun j δ => ∃ y8 y9 y10 y11 y12 y13 y14 : Sl, δ = [.d (.scr (ns.map D.int)), .d (.int (ns.getD 0 0 % 90000)), .d (encSp sp), .d (.str s), .d (.int c), .d (encT t), .d (.int (sizeT t : Nat)), .d (encT n0), y8, y9, y10, y11, y12, y13, y14]) (by decide) ⟨x8, x9, x10, x11, x12, x13, x14, rfl⟩ ?_ ?_
      · rintro j δ hj ⟨y8, y9, y10, y11, y12, y13, y14, rfl⟩ N2 hN2
        refine ⟨_, sizeT t, rfl, by omega, fun ls pm => ?_⟩
        have hls : ls.length = sizeT t := by rw [pm.length_eq, up_len]
        have ndl : ls.Nodup := pm.symm.nodup (up_nd _)
        have ndj : (ls.map fun n => n * (j + 1)).Nodup := List.Pairwise.map _ (fun a b h z => h (Nat.eq_of_mul_eq_mul_right (Nat.succ_pos j) z)) ndl
        have lj : (ls.map fun n => n * (j + 1)).length = sizeT t := by rw [List.length_map]; exact hls
        refine lc_map (timesD j) (fun x hx P k => ?_) ?_
        · obtain ⟨n, _, rfl⟩ := List.mem_map.mp hx
          exact ⟨mulR ⟨by omega, by omega⟩, k⟩
        rw [times_nats]
        refine ⟨t, ls.map (fun n => n * (j + 1)), rfl, rfl, rfl, nm.wf, by omega, by omega, nm.n, ?_⟩
        have g1 := good0.num lj ndj
        have nm1 := name_nm hv g1.f g1.sz
        have nd1 := nm1.d
        have sz1 := g1.sz
        refine ⟨sp, .name s, true, _, rfl, hv, ok, g1.f, g1.l, by omega, by omega, nm1.n, fun s2 nf2 => ?_⟩
        have g2 := g1.rea (nf_rea nf2)
        refine ⟨sp, true, s2, rfl, hv, g2.ask hv hs, fun m nfm => ?_⟩
        obtain rfl := one_era hv ok g1 (nf_sti nf2) (by rw [era_num]; exact nfe) nfm
        refine enc_ne (by omega) ?_
        exact hN2 _ ⟨_, _, _, y11, y12, y13, y14, rfl⟩
      · rintro δ ⟨y8, y9, y10, y11, y12, y13, y14, rfl⟩
        refine ⟨sp, false, n0, rfl, hv, goodn.ask hv hs, fun m nfm => ?_⟩
        obtain rfl := one_era hv ok good0 (nf_sti nf0) nfe nfm
        refine enc_ne (by omega) ?_
        refine ⟨sp, false, m, rfl, hv, goodn.ask hv hs, fun b nfb => ?_⟩
        have gu := goodn.num (up_len _) (up_nd (sizeT m))
        have gb := gu.rea (nf_rea nfb)
        have nmb := name_nm hv gb.f gb.sz
        have ndb := nmb.d
        have szb := gb.sz
        have szn := goodn.sz
        refine ⟨rgb (by decide) (by decide) (by omega) (by omega) (by omega), ?_⟩
        rw [rg_up1, ← sn0]
        refine ⟨m, up (sizeT m), rfl, rfl, rfl, nmn.wf, by omega, by rw [up_len]; omega, nmn.n, ?_⟩
        have nmu := name_nm hv gu.f gu.sz
        have ndu := nmu.d
        have szu := gu.sz
        refine ⟨sp, .name s, true, _, rfl, hv, ok, gu.f, gu.l, by omega, by omega, nmu.n, fun b2 nfb2 => ?_⟩
        obtain rfl := nf_one hv _ (.name s) gu.f ok gu.l (sti_self _) nfb nfb2
        refine enc_ne (by omega) ?_
        have sb : sizeT b = sizeT m := by rw [(rea_s (nf_rea nfb)).s, num_size]
        have pb : (labs b).Perm (up (sizeT m)) := by
          have := (rea_s (nf_rea nfb)).l
          rw [num_labs m _ (by rw [up_len]; exact Nat.le_refl _), List.take_of_length_le (by rw [up_len]; exact Nat.le_refl _)] at this
          exact this
        have stb : stdT b = true := std_of (by rw [sb]; exact pb)
        refine ⟨.bl (stdT b), ⟨b, rfl, nmb.wf, nmb.n, rfl⟩, ?_⟩
        rw [stb]
        refine ⟨sp, true, b, rfl, hv, gb.ask hv hs, fun m2 nfm2 => ?_⟩
        obtain rfl := one_era hv ok gu (nf_sti nfb) (by rw [era_num]; exact nfm) nfm2
        refine enc_ne (by omega) ?_
        refine ⟨rgb (by decide) (by decide) (by omega) (by omega) (by omega), ?_⟩
        refine loop_rg (n := sizeT m2) (fun k δ => ∃ y13 : Sl, δ = [.d (.scr (ns.map D.int)), .d (.int (ns.getD 0 0 % 90000)), .d (encSp sp), .d (.str s), .d (.int c), .d (encT t), .d (.int (sizeT m2 : Nat)), .d (encT m2), y8, y9, y10, .d (encT b), .owk (nmK k) (nmV (sizeT m2) k), y13, y14]) (by omega) ⟨_, rfl⟩ ?_ ?_
        · rintro k δ hk ⟨y13, rfl⟩ N3 hN3
          refine ⟨lt_lim (by unfold nmK; rw [List.length_map, List.length_range]; omega), ?_⟩
          refine hN3 _ ⟨.d (.int (0 + (k : Nat))), ?_⟩
          rw [← nmK_put0, ← nmV_put0]; rfl
        · rintro δ ⟨y13, rfl⟩
          have bd : ∀ l ∈ labs b, 1 ≤ l ∧ l ≤ sizeT m2 := fun l hl => up_mem (pb.mem_iff.mp hl)
          have ndr : ((labs b).map fun l => sizeT m2 + 1 - l).Nodup := nodup_on (fun a ha c hc e => by have := bd a ha; have := bd c hc; omega) (pb.symm.nodup (up_nd _))
          have lr : ((labs b).map fun l => sizeT m2 + 1 - l).length = sizeT b := by rw [List.length_map]; exact gb.l.2
          refine ⟨sp, b, nmK (sizeT m2), nmV (sizeT m2) (sizeT m2), fun l => sizeT m2 + 1 - l, rfl, hv, gb.ask hv hs, nm_dic bd, ndr, fun l hl => by have := bd l hl; show 1 ≤ sizeT m2 + 1 - l; omega, fun n nfn => ?_⟩
          have gr := gb.num lr ndr
          have gn := gr.rea (nf_rea nfn)
          refine ⟨sp, true, n, rfl, hv, gn.ask hv hs, fun m3 nfm3 => ?_⟩
          obtain rfl := one_era hv ok gr (nf_sti nfn) (by rw [era_num]; exact nfm2) nfm3
          refine enc_ne (by omega) ?_
          exact hN _ ⟨_, _, _, _, _, _, _, _, _, _, _, rfl⟩
    · rintro δ ⟨x4, x5, x6, x7, x8, x9, x10, x11, x12, x13, x14, rfl⟩
      exact q
end
end DL

set_option maxHeartbeats 8000000
namespace DL
open PySem L2
theorem kit_ref {K : PySem.W.Frag} {C D : Addr} (e0 : PySem.W.subIn K (.ref C) (.ref C) = some true) (i : PySem.W.isClsIn K D = true) (t : PySem.W.typeIn K (.ref D) = some (.type "type")) (e : PySem.W.subIn K (.ref C) (.ref D) = some false) : PySem.W.kitOne K (.ref C) (.ref D) = some false := by
  unfold PySem.W.kitOne
  rw [if_neg (by
    intro z
    have z' := beq_iff_eq.mp z
    rw [← z', e0] at e
    cases e)]
  show (if ((PySem.W.clsIn K D).isSome && PySem.W.typeIn K (.ref D) == some (.type "type")) = true then _ else none) = _
  rw [if_pos (by rw [show (PySem.W.clsIn K D).isSome = true from i, t]; rfl)]
  exact e
theorem kit_type {K : PySem.W.Frag} {C : Addr} {T : String} {b : Bool} (h : PySem.W.kitMeta T = true) (e : PySem.W.subIn K (.ref C) (.type T) = some b) : PySem.W.kitOne K (.ref C) (.type T) = some b := by
  unfold PySem.W.kitOne
  rw [if_neg (by intro z; cases beq_iff_eq.mp z)]
  show (if PySem.W.kitMeta T = true then _ else none) = _
  rw [if_pos h]
  exact e
theorem law_start0 : True := trivial
theorem law_start [Tbs] {K : PySem.W.Frag} {H : Hp} {a : Addr} {ns : List Int} {E : XK} (hl : ns.length ≤ 63) (tb : Tabs H) (hS : SqL K H a (ns.map V.int)) : spW K (relR r_law) [.ref a] H (fun v _ => v = .bl true) E := by
  have e : hid [] H = H := by funext x; exact hid_of (by simp)
  have ai : ∀ l : List Int, AtAll K H (l.map V.int) (l.map D.int) := fun l => by
    induction l with
    | nil => exact .nil
    | cons i l ih => exact .cons (.int i) ih
  refine ⟨[], [.scr (ns.map D.int)], nofun, tb, ?_, .bl true, ⟨ns, rfl, hl, rfl⟩, fun v H' _ h => ?_⟩
  · rw [e]
    exact .cons (.scr hS (by rw [List.length_map]; exact Nat.le_trans hl (by decide)) (ai ns)) .nil
  · cases h
    rfl
theorem all_mk {l : PySem.W.OpenLaw} {w : World} {K : PySem.W.Frag} {h : Heap} {mg : Str → Option Value} {fa : Addr}
    {k_set_places t_set_places k_ring_places t_ring_places kwith_atoms twith_atoms : Addr}
    {f0 : Addr} {oc0 kV0 dc0 pm0 cd0 ct0 : Value} {od0 an0 : Option Addr} {sl0 : Array (Option Value)}
    {f1 : Addr} {oc1 kV1 dc1 pm1 cd1 ct1 : Value} {od1 an1 : Option Addr} {sl1 : Array (Option Value)}
    {f2 : Addr} {oc2 kV2 dc2 pm2 cd2 ct2 : Value} {od2 an2 : Option Addr} {sl2 : Array (Option Value)}
    {f3 : Addr} {oc3 kV3 dc3 pm3 cd3 ct3 : Value} {od3 an3 : Option Addr} {sl3 : Array (Option Value)}
    {f4 : Addr} {oc4 kV4 dc4 pm4 cd4 ct4 : Value} {od4 an4 : Option Addr} {sl4 : Array (Option Value)}
    {f5 : Addr} {oc5 kV5 dc5 pm5 ct5 : Value} {od5 an5 : Option Addr} {sl5 : Array (Option Value)}
    {f6 : Addr} {oc6 kV6 dc6 pm6 cd6 ct6 : Value} {od6 an6 : Option Addr} {sl6 : Array (Option Value)}
    {f7 : Addr} {oc7 kV7 dc7 pm7 cd7 ct7 : Value} {od7 an7 : Option Addr} {sl7 : Array (Option Value)}
    {f8 : Addr} {oc8 kV8 dc8 pm8 cd8 ct8 : Value} {od8 an8 : Option Addr} {sl8 : Array (Option Value)}
    {f9 : Addr} {oc9 kV9 dc9 pm9 cd9 ct9 : Value} {od9 an9 : Option Addr} {sl9 : Array (Option Value)}
    {f10 : Addr} {oc10 kV10 dc10 pm10 cd10 ct10 : Value} {od10 an10 : Option Addr} {sl10 : Array (Option Value)}
    {f11 : Addr} {oc11 kV11 dc11 pm11 cd11 ct11 : Value} {od11 an11 : Option Addr} {sl11 : Array (Option Value)}
    {f12 : Addr} {oc12 kV12 dc12 pm12 cd12 ct12 : Value} {od12 an12 : Option Addr} {sl12 : Array (Option Value)}
    {f13 : Addr} {oc13 kV13 dc13 pm13 cd13 ct13 : Value} {od13 an13 : Option Addr} {sl13 : Array (Option Value)}
    {f14 : Addr} {oc14 kV14 dc14 pm14 cd14 ct14 : Value} {od14 an14 : Option Addr} {sl14 : Array (Option Value)}
    {f15 : Addr} {oc15 kV15 dc15 pm15 ct15 : Value} {od15 an15 : Option Addr} {sl15 : Array (Option Value)}
    {f16 : Addr} {oc16 kV16 dc16 pm16 ct16 : Value} {od16 an16 : Option Addr} {sl16 : Array (Option Value)}
    {f17 : Addr} {oc17 kV17 dc17 pm17 cd17 ct17 : Value} {od17 an17 : Option Addr} {sl17 : Array (Option Value)}
    {f18 : Addr} {oc18 kV18 dc18 pm18 cd18 ct18 : Value} {od18 an18 : Option Addr} {sl18 : Array (Option Value)}
    {f19 : Addr} {oc19 kV19 dc19 pm19 cd19 ct19 : Value} {od19 an19 : Option Addr} {sl19 : Array (Option Value)}
    {f20 : Addr} {oc20 kV20 dc20 pm20 cd20 ct20 : Value} {od20 an20 : Option Addr} {sl20 : Array (Option Value)}
    {f21 : Addr} {oc21 kV21 dc21 pm21 cd21 ct21 : Value} {od21 an21 : Option Addr} {sl21 : Array (Option Value)}
    {f22 : Addr} {oc22 kV22 dc22 pm22 cd22 ct22 : Value} {od22 an22 : Option Addr} {sl22 : Array (Option Value)}
    {f23 : Addr} {oc23 kV23 dc23 pm23 cd23 ct23 : Value} {od23 an23 : Option Addr} {sl23 : Array (Option Value)}
    {f24 : Addr} {oc24 kV24 dc24 pm24 cd24 ct24 : Value} {od24 an24 : Option Addr} {sl24 : Array (Option Value)}
    {f25 : Addr} {oc25 kV25 dc25 pm25 cd25 ct25 : Value} {od25 an25 : Option Addr} {sl25 : Array (Option Value)}
    {f26 : Addr} {oc26 kV26 dc26 pm26 cd26 ct26 : Value} {od26 an26 : Option Addr} {sl26 : Array (Option Value)}
    {f27 : Addr} {oc27 kV27 dc27 pm27 cd27 ct27 : Value} {od27 an27 : Option Addr} {sl27 : Array (Option Value)}
    {f28 : Addr} {oc28 kV28 dc28 pm28 cd28 ct28 : Value} {od28 an28 : Option Addr} {sl28 : Array (Option Value)}
    {f29 : Addr} {oc29 kV29 dc29 pm29 cd29 ct29 : Value} {od29 an29 : Option Addr} {sl29 : Array (Option Value)}
    {f30 : Addr} {oc30 kV30 dc30 pm30 cd30 ct30 : Value} {od30 an30 : Option Addr} {sl30 : Array (Option Value)}
    {f31 : Addr} {oc31 kV31 dc31 pm31 cd31 ct31 : Value} {od31 an31 : Option Addr} {sl31 : Array (Option Value)}
    {f32 : Addr} {oc32 kV32 dc32 pm32 cd32 ct32 : Value} {od32 an32 : Option Addr} {sl32 : Array (Option Value)}
    {f33 : Addr} {oc33 kV33 dc33 pm33 cd33 ct33 : Value} {od33 an33 : Option Addr} {sl33 : Array (Option Value)}
    {f34 : Addr} {oc34 kV34 dc34 pm34 cd34 ct34 : Value} {od34 an34 : Option Addr} {sl34 : Array (Option Value)}
    {f35 : Addr} {oc35 kV35 dc35 pm35 cd35 ct35 : Value} {od35 an35 : Option Addr} {sl35 : Array (Option Value)}
    {f36 : Addr} {oc36 kV36 dc36 pm36 cd36 ct36 : Value} {od36 an36 : Option Addr} {sl36 : Array (Option Value)}
    {f37 : Addr} {oc37 kV37 dc37 pm37 cd37 ct37 : Value} {od37 an37 : Option Addr} {sl37 : Array (Option Value)}
    {f38 : Addr} {oc38 kV38 dc38 pm38 cd38 ct38 : Value} {od38 an38 : Option Addr} {sl38 : Array (Option Value)}
    {f39 : Addr} {oc39 kV39 dc39 pm39 cd39 ct39 : Value} {od39 an39 : Option Addr} {sl39 : Array (Option Value)}
    {f40 : Addr} {oc40 kV40 dc40 pm40 cd40 ct40 : Value} {od40 an40 : Option Addr} {sl40 : Array (Option Value)}
    {cSpeciesError cBadLabels : Addr}
    {pMEMBER_WORDS : Addr} {otMEMBER_WORDS : Option Addr} {itMEMBER_WORDS : Array Value} {ntMEMBER_WORDS : Nat} {stMEMBER_WORDS : Array (Option Value)}
    {t_END : Tok}
    {t_BEGIN : Tok}
    {t_NUMBERS : Tok}
    (X : K.In h) (G : h.Ns mainGlobals mg) (hfa : mg "law" = some (.ref fa)) (hT_set_places : h.get? t_set_places = some { cls := .none, data := .fields #[] }) (hT_ring_places : h.get? t_ring_places = some { cls := .none, data := .fields #[] }) (hTwith_atoms : h.get? twith_atoms = some { cls := .none, data := .fields #[] })
    (a0 : PySem.W.nsIn K mainGlobals "is_whole" = some (some (.ref f0)))
    (l0 : K.lookup f0 = some ⟨oc0, od0, .func (PySem.W.fnOf "is_whole" "is_whole" (defArgs s_is_whole) (defBody s_is_whole) (defScope s_is_whole) .none kV0 dc0 pm0 an0 cd0 ct0), sl0⟩)
    (c0 : PySem.W.codeIn K cd0 "is_whole" = true)
    (k0 : PySem.W.keepIn K (.ref f0) = true)
    (a1 : PySem.W.nsIn K mainGlobals "inner_parts" = some (some (.ref f1)))
    (l1 : K.lookup f1 = some ⟨oc1, od1, .func (PySem.W.fnOf "inner_parts" "inner_parts" (defArgs s_inner_parts) (defBody s_inner_parts) (defScope s_inner_parts) .none kV1 dc1 pm1 an1 cd1 ct1), sl1⟩)
    (c1 : PySem.W.codeIn K cd1 "inner_parts" = true)
    (k1 : PySem.W.keepIn K (.ref f1) = true)
    (a2 : PySem.W.nsIn K mainGlobals "with_parts" = some (some (.ref f2)))
    (l2 : K.lookup f2 = some ⟨oc2, od2, .func (PySem.W.fnOf "with_parts" "with_parts" (defArgs s_with_parts) (defBody s_with_parts) (defScope s_with_parts) .none kV2 dc2 pm2 an2 cd2 ct2), sl2⟩)
    (c2 : PySem.W.codeIn K cd2 "with_parts" = true)
    (k2 : PySem.W.keepIn K (.ref f2) = true)
    (a3 : PySem.W.nsIn K mainGlobals "atoms_of" = some (some (.ref f3)))
    (l3 : K.lookup f3 = some ⟨oc3, od3, .func (PySem.W.fnOf "atoms_of" "atoms_of" (defArgs s_atoms_of) (defBody s_atoms_of) (defScope s_atoms_of) .none kV3 dc3 pm3 an3 cd3 ct3), sl3⟩)
    (c3 : PySem.W.codeIn K cd3 "atoms_of" = true)
    (k3 : PySem.W.keepIn K (.ref f3) = true)
    (a4 : PySem.W.nsIn K mainGlobals "folded" = some (some (.ref f4)))
    (l4 : K.lookup f4 = some ⟨oc4, od4, .func (PySem.W.fnOf "folded" "folded" (defArgs s_folded) (defBody s_folded) (defScope s_folded) .none kV4 dc4 pm4 an4 cd4 ct4), sl4⟩)
    (c4 : PySem.W.codeIn K cd4 "folded" = true)
    (k4 : PySem.W.keepIn K (.ref f4) = true)
    (a5 : PySem.W.nsIn K mainGlobals "with_atoms" = some (some (.ref f5)))
    (l5 : K.lookup f5 = some ⟨oc5, od5, .func (PySem.W.fnOf "with_atoms" "with_atoms" (defArgs s_with_atoms) (defBody s_with_atoms) (defScope s_with_atoms) .none kV5 dc5 pm5 an5 (.ref kwith_atoms) ct5), sl5⟩)
    (c5 : PySem.W.codeIn K (.ref kwith_atoms) "with_atoms" = true)
    (k5 : PySem.W.keepIn K (.ref f5) = true)
    (a6 : PySem.W.nsIn K mainGlobals "flat" = some (some (.ref f6)))
    (l6 : K.lookup f6 = some ⟨oc6, od6, .func (PySem.W.fnOf "flat" "flat" (defArgs s_flat) (defBody s_flat) (defScope s_flat) .none kV6 dc6 pm6 an6 cd6 ct6), sl6⟩)
    (c6 : PySem.W.codeIn K cd6 "flat" = true)
    (k6 : PySem.W.keepIn K (.ref f6) = true)
    (a7 : PySem.W.nsIn K mainGlobals "size_of" = some (some (.ref f7)))
    (l7 : K.lookup f7 = some ⟨oc7, od7, .func (PySem.W.fnOf "size_of" "size_of" (defArgs s_size_of) (defBody s_size_of) (defScope s_size_of) .none kV7 dc7 pm7 an7 cd7 ct7), sl7⟩)
    (c7 : PySem.W.codeIn K cd7 "size_of" = true)
    (k7 : PySem.W.keepIn K (.ref f7) = true)
    (a8 : PySem.W.nsIn K mainGlobals "labels_of" = some (some (.ref f8)))
    (l8 : K.lookup f8 = some ⟨oc8, od8, .func (PySem.W.fnOf "labels_of" "labels_of" (defArgs s_labels_of) (defBody s_labels_of) (defScope s_labels_of) .none kV8 dc8 pm8 an8 cd8 ct8), sl8⟩)
    (c8 : PySem.W.codeIn K cd8 "labels_of" = true)
    (k8 : PySem.W.keepIn K (.ref f8) = true)
    (a9 : PySem.W.nsIn K mainGlobals "is_standard" = some (some (.ref f9)))
    (l9 : K.lookup f9 = some ⟨oc9, od9, .func (PySem.W.fnOf "is_standard" "is_standard" (defArgs s_is_standard) (defBody s_is_standard) (defScope s_is_standard) .none kV9 dc9 pm9 an9 cd9 ct9), sl9⟩)
    (c9 : PySem.W.codeIn K cd9 "is_standard" = true)
    (k9 : PySem.W.keepIn K (.ref f9) = true)
    (a10 : PySem.W.nsIn K mainGlobals "_pair_of" = some (some (.ref f10)))
    (l10 : K.lookup f10 = some ⟨oc10, od10, .func (PySem.W.fnOf "_pair_of" "_pair_of" (defArgs s__pair_of) (defBody s__pair_of) (defScope s__pair_of) .none kV10 dc10 pm10 an10 cd10 ct10), sl10⟩)
    (c10 : PySem.W.codeIn K cd10 "_pair_of" = true)
    (k10 : PySem.W.keepIn K (.ref f10) = true)
    (a11 : PySem.W.nsIn K mainGlobals "_weight_of" = some (some (.ref f11)))
    (l11 : K.lookup f11 = some ⟨oc11, od11, .func (PySem.W.fnOf "_weight_of" "_weight_of" (defArgs s__weight_of) (defBody s__weight_of) (defScope s__weight_of) .none kV11 dc11 pm11 an11 cd11 ct11), sl11⟩)
    (c11 : PySem.W.codeIn K cd11 "_weight_of" = true)
    (k11 : PySem.W.keepIn K (.ref f11) = true)
    (a12 : PySem.W.nsIn K mainGlobals "_key_of_part" = some (some (.ref f12)))
    (l12 : K.lookup f12 = some ⟨oc12, od12, .func (PySem.W.fnOf "_key_of_part" "_key_of_part" (defArgs s__key_of_part) (defBody s__key_of_part) (defScope s__key_of_part) .none kV12 dc12 pm12 an12 cd12 ct12), sl12⟩)
    (c12 : PySem.W.codeIn K cd12 "_key_of_part" = true)
    (k12 : PySem.W.keepIn K (.ref f12) = true)
    (a13 : PySem.W.nsIn K mainGlobals "one_form" = some (some (.ref f13)))
    (l13 : K.lookup f13 = some ⟨oc13, od13, .func (PySem.W.fnOf "one_form" "one_form" (defArgs s_one_form) (defBody s_one_form) (defScope s_one_form) .none kV13 dc13 pm13 an13 cd13 ct13), sl13⟩)
    (c13 : PySem.W.codeIn K cd13 "one_form" = true)
    (k13 : PySem.W.keepIn K (.ref f13) = true)
    (a14 : PySem.W.nsIn K mainGlobals "_formed" = some (some (.ref f14)))
    (l14 : K.lookup f14 = some ⟨oc14, od14, .func (PySem.W.fnOf "_formed" "_formed" (defArgs s__formed) (defBody s__formed) (defScope s__formed) .none kV14 dc14 pm14 an14 cd14 ct14), sl14⟩)
    (c14 : PySem.W.codeIn K cd14 "_formed" = true)
    (k14 : PySem.W.keepIn K (.ref f14) = true)
    (a15 : PySem.W.nsIn K mainGlobals "_set_places" = some (some (.ref f15)))
    (l15 : K.lookup f15 = some ⟨oc15, od15, .func (PySem.W.fnOf "_set_places" "_set_places" (defArgs s__set_places) (defBody s__set_places) (defScope s__set_places) .none kV15 dc15 pm15 an15 (.ref k_set_places) ct15), sl15⟩)
    (c15 : PySem.W.codeIn K (.ref k_set_places) "_set_places" = true)
    (k15 : PySem.W.keepIn K (.ref f15) = true)
    (a16 : PySem.W.nsIn K mainGlobals "_ring_places" = some (some (.ref f16)))
    (l16 : K.lookup f16 = some ⟨oc16, od16, .func (PySem.W.fnOf "_ring_places" "_ring_places" (defArgs s__ring_places) (defBody s__ring_places) (defScope s__ring_places) .none kV16 dc16 pm16 an16 (.ref k_ring_places) ct16), sl16⟩)
    (c16 : PySem.W.codeIn K (.ref k_ring_places) "_ring_places" = true)
    (k16 : PySem.W.keepIn K (.ref f16) = true)
    (a17 : PySem.W.nsIn K mainGlobals "_are_labelled" = some (some (.ref f17)))
    (l17 : K.lookup f17 = some ⟨oc17, od17, .func (PySem.W.fnOf "_are_labelled" "_are_labelled" (defArgs s__are_labelled) (defBody s__are_labelled) (defScope s__are_labelled) .none kV17 dc17 pm17 an17 cd17 ct17), sl17⟩)
    (c17 : PySem.W.codeIn K cd17 "_are_labelled" = true)
    (k17 : PySem.W.keepIn K (.ref f17) = true)
    (a18 : PySem.W.nsIn K mainGlobals "_ranks" = some (some (.ref f18)))
    (l18 : K.lookup f18 = some ⟨oc18, od18, .func (PySem.W.fnOf "_ranks" "_ranks" (defArgs s__ranks) (defBody s__ranks) (defScope s__ranks) .none kV18 dc18 pm18 an18 cd18 ct18), sl18⟩)
    (c18 : PySem.W.codeIn K cd18 "_ranks" = true)
    (k18 : PySem.W.keepIn K (.ref f18) = true)
    (a19 : PySem.W.nsIn K mainGlobals "renamed" = some (some (.ref f19)))
    (l19 : K.lookup f19 = some ⟨oc19, od19, .func (PySem.W.fnOf "renamed" "renamed" (defArgs s_renamed) (defBody s_renamed) (defScope s_renamed) .none kV19 dc19 pm19 an19 cd19 ct19), sl19⟩)
    (c19 : PySem.W.codeIn K cd19 "renamed" = true)
    (k19 : PySem.W.keepIn K (.ref f19) = true)
    (a20 : PySem.W.nsIn K mainGlobals "erased" = some (some (.ref f20)))
    (l20 : K.lookup f20 = some ⟨oc20, od20, .func (PySem.W.fnOf "erased" "erased" (defArgs s_erased) (defBody s_erased) (defScope s_erased) .none kV20 dc20 pm20 an20 cd20 ct20), sl20⟩)
    (c20 : PySem.W.codeIn K cd20 "erased" = true)
    (k20 : PySem.W.keepIn K (.ref f20) = true)
    (a21 : PySem.W.nsIn K mainGlobals "labelled_from" = some (some (.ref f21)))
    (l21 : K.lookup f21 = some ⟨oc21, od21, .func (PySem.W.fnOf "labelled_from" "labelled_from" (defArgs s_labelled_from) (defBody s_labelled_from) (defScope s_labelled_from) .none kV21 dc21 pm21 an21 cd21 ct21), sl21⟩)
    (c21 : PySem.W.codeIn K cd21 "labelled_from" = true)
    (k21 : PySem.W.keepIn K (.ref f21) = true)
    (a22 : PySem.W.nsIn K mainGlobals "_labels_in_place" = some (some (.ref f22)))
    (l22 : K.lookup f22 = some ⟨oc22, od22, .func (PySem.W.fnOf "_labels_in_place" "_labels_in_place" (defArgs s__labels_in_place) (defBody s__labels_in_place) (defScope s__labels_in_place) .none kV22 dc22 pm22 an22 cd22 ct22), sl22⟩)
    (c22 : PySem.W.codeIn K cd22 "_labels_in_place" = true)
    (k22 : PySem.W.keepIn K (.ref f22) = true)
    (a23 : PySem.W.nsIn K mainGlobals "_with_labels" = some (some (.ref f23)))
    (l23 : K.lookup f23 = some ⟨oc23, od23, .func (PySem.W.fnOf "_with_labels" "_with_labels" (defArgs s__with_labels) (defBody s__with_labels) (defScope s__with_labels) .none kV23 dc23 pm23 an23 cd23 ct23), sl23⟩)
    (c23 : PySem.W.codeIn K cd23 "_with_labels" = true)
    (k23 : PySem.W.keepIn K (.ref f23) = true)
    (a24 : PySem.W.nsIn K mainGlobals "_law_cell" = some (some (.ref f24)))
    (l24 : K.lookup f24 = some ⟨oc24, od24, .func (PySem.W.fnOf "_law_cell" "_law_cell" (defArgs s__law_cell) (defBody s__law_cell) (defScope s__law_cell) .none kV24 dc24 pm24 an24 cd24 ct24), sl24⟩)
    (c24 : PySem.W.codeIn K cd24 "_law_cell" = true)
    (k24 : PySem.W.keepIn K (.ref f24) = true)
    (a25 : PySem.W.nsIn K mainGlobals "_law_mixed" = some (some (.ref f25)))
    (l25 : K.lookup f25 = some ⟨oc25, od25, .func (PySem.W.fnOf "_law_mixed" "_law_mixed" (defArgs s__law_mixed) (defBody s__law_mixed) (defScope s__law_mixed) .none kV25 dc25 pm25 an25 cd25 ct25), sl25⟩)
    (c25 : PySem.W.codeIn K cd25 "_law_mixed" = true)
    (k25 : PySem.W.keepIn K (.ref f25) = true)
    (a26 : PySem.W.nsIn K mainGlobals "_law_digits" = some (some (.ref f26)))
    (l26 : K.lookup f26 = some ⟨oc26, od26, .func (PySem.W.fnOf "_law_digits" "_law_digits" (defArgs s__law_digits) (defBody s__law_digits) (defScope s__law_digits) .none kV26 dc26 pm26 an26 cd26 ct26), sl26⟩)
    (c26 : PySem.W.codeIn K cd26 "_law_digits" = true)
    (k26 : PySem.W.keepIn K (.ref f26) = true)
    (a27 : PySem.W.nsIn K mainGlobals "_law_menu" = some (some (.ref f27)))
    (l27 : K.lookup f27 = some ⟨oc27, od27, .func (PySem.W.fnOf "_law_menu" "_law_menu" (defArgs s__law_menu) (defBody s__law_menu) (defScope s__law_menu) .none kV27 dc27 pm27 an27 cd27 ct27), sl27⟩)
    (c27 : PySem.W.codeIn K cd27 "_law_menu" = true)
    (k27 : PySem.W.keepIn K (.ref f27) = true)
    (a28 : PySem.W.nsIn K mainGlobals "_law_spec" = some (some (.ref f28)))
    (l28 : K.lookup f28 = some ⟨oc28, od28, .func (PySem.W.fnOf "_law_spec" "_law_spec" (defArgs s__law_spec) (defBody s__law_spec) (defScope s__law_spec) .none kV28 dc28 pm28 an28 cd28 ct28), sl28⟩)
    (c28 : PySem.W.codeIn K cd28 "_law_spec" = true)
    (k28 : PySem.W.keepIn K (.ref f28) = true)
    (a29 : PySem.W.nsIn K mainGlobals "_law_made" = some (some (.ref f29)))
    (l29 : K.lookup f29 = some ⟨oc29, od29, .func (PySem.W.fnOf "_law_made" "_law_made" (defArgs s__law_made) (defBody s__law_made) (defScope s__law_made) .none kV29 dc29 pm29 an29 cd29 ct29), sl29⟩)
    (c29 : PySem.W.codeIn K cd29 "_law_made" = true)
    (k29 : PySem.W.keepIn K (.ref f29) = true)
    (a30 : PySem.W.nsIn K mainGlobals "_law_parts" = some (some (.ref f30)))
    (l30 : K.lookup f30 = some ⟨oc30, od30, .func (PySem.W.fnOf "_law_parts" "_law_parts" (defArgs s__law_parts) (defBody s__law_parts) (defScope s__law_parts) .none kV30 dc30 pm30 an30 cd30 ct30), sl30⟩)
    (c30 : PySem.W.codeIn K cd30 "_law_parts" = true)
    (k30 : PySem.W.keepIn K (.ref f30) = true)
    (a31 : PySem.W.nsIn K mainGlobals "_law_with" = some (some (.ref f31)))
    (l31 : K.lookup f31 = some ⟨oc31, od31, .func (PySem.W.fnOf "_law_with" "_law_with" (defArgs s__law_with) (defBody s__law_with) (defScope s__law_with) .none kV31 dc31 pm31 an31 cd31 ct31), sl31⟩)
    (c31 : PySem.W.codeIn K cd31 "_law_with" = true)
    (k31 : PySem.W.keepIn K (.ref f31) = true)
    (a32 : PySem.W.nsIn K mainGlobals "_law_size" = some (some (.ref f32)))
    (l32 : K.lookup f32 = some ⟨oc32, od32, .func (PySem.W.fnOf "_law_size" "_law_size" (defArgs s__law_size) (defBody s__law_size) (defScope s__law_size) .none kV32 dc32 pm32 an32 cd32 ct32), sl32⟩)
    (c32 : PySem.W.codeIn K cd32 "_law_size" = true)
    (k32 : PySem.W.keepIn K (.ref f32) = true)
    (a33 : PySem.W.nsIn K mainGlobals "_law_labels" = some (some (.ref f33)))
    (l33 : K.lookup f33 = some ⟨oc33, od33, .func (PySem.W.fnOf "_law_labels" "_law_labels" (defArgs s__law_labels) (defBody s__law_labels) (defScope s__law_labels) .none kV33 dc33 pm33 an33 cd33 ct33), sl33⟩)
    (c33 : PySem.W.codeIn K cd33 "_law_labels" = true)
    (k33 : PySem.W.keepIn K (.ref f33) = true)
    (a34 : PySem.W.nsIn K mainGlobals "_law_numbered" = some (some (.ref f34)))
    (l34 : K.lookup f34 = some ⟨oc34, od34, .func (PySem.W.fnOf "_law_numbered" "_law_numbered" (defArgs s__law_numbered) (defBody s__law_numbered) (defScope s__law_numbered) .none kV34 dc34 pm34 an34 cd34 ct34), sl34⟩)
    (c34 : PySem.W.codeIn K cd34 "_law_numbered" = true)
    (k34 : PySem.W.keepIn K (.ref f34) = true)
    (a35 : PySem.W.nsIn K mainGlobals "_law_order" = some (some (.ref f35)))
    (l35 : K.lookup f35 = some ⟨oc35, od35, .func (PySem.W.fnOf "_law_order" "_law_order" (defArgs s__law_order) (defBody s__law_order) (defScope s__law_order) .none kV35 dc35 pm35 an35 cd35 ct35), sl35⟩)
    (c35 : PySem.W.codeIn K cd35 "_law_order" = true)
    (k35 : PySem.W.keepIn K (.ref f35) = true)
    (a36 : PySem.W.nsIn K mainGlobals "_law_drawn" = some (some (.ref f36)))
    (l36 : K.lookup f36 = some ⟨oc36, od36, .func (PySem.W.fnOf "_law_drawn" "_law_drawn" (defArgs s__law_drawn) (defBody s__law_drawn) (defScope s__law_drawn) .none kV36 dc36 pm36 an36 cd36 ct36), sl36⟩)
    (c36 : PySem.W.codeIn K cd36 "_law_drawn" = true)
    (k36 : PySem.W.keepIn K (.ref f36) = true)
    (a37 : PySem.W.nsIn K mainGlobals "_law_weight" = some (some (.ref f37)))
    (l37 : K.lookup f37 = some ⟨oc37, od37, .func (PySem.W.fnOf "_law_weight" "_law_weight" (defArgs s__law_weight) (defBody s__law_weight) (defScope s__law_weight) .none kV37 dc37 pm37 an37 cd37 ct37), sl37⟩)
    (c37 : PySem.W.codeIn K cd37 "_law_weight" = true)
    (k37 : PySem.W.keepIn K (.ref f37) = true)
    (a38 : PySem.W.nsIn K mainGlobals "_law_key" = some (some (.ref f38)))
    (l38 : K.lookup f38 = some ⟨oc38, od38, .func (PySem.W.fnOf "_law_key" "_law_key" (defArgs s__law_key) (defBody s__law_key) (defScope s__law_key) .none kV38 dc38 pm38 an38 cd38 ct38), sl38⟩)
    (c38 : PySem.W.codeIn K cd38 "_law_key" = true)
    (k38 : PySem.W.keepIn K (.ref f38) = true)
    (a39 : PySem.W.nsIn K mainGlobals "_law_form" = some (some (.ref f39)))
    (l39 : K.lookup f39 = some ⟨oc39, od39, .func (PySem.W.fnOf "_law_form" "_law_form" (defArgs s__law_form) (defBody s__law_form) (defScope s__law_form) .none kV39 dc39 pm39 an39 cd39 ct39), sl39⟩)
    (c39 : PySem.W.codeIn K cd39 "_law_form" = true)
    (k39 : PySem.W.keepIn K (.ref f39) = true)
    (a40 : PySem.W.nsIn K mainGlobals "law" = some (some (.ref f40)))
    (l40 : K.lookup f40 = some ⟨oc40, od40, .func (PySem.W.fnOf "law" "law" (defArgs s_law) (defBody s_law) (defScope s_law) .none kV40 dc40 pm40 an40 cd40 ct40), sl40⟩)
    (c40 : PySem.W.codeIn K cd40 "law" = true)
    (k40 : PySem.W.keepIn K (.ref f40) = true)
    (g_SpeciesError : PySem.W.nsIn K mainGlobals "SpeciesError" = some (some (.ref cSpeciesError)))
    (g_BadLabels : PySem.W.nsIn K mainGlobals "BadLabels" = some (some (.ref cBadLabels)))
    (n_isinstance : PySem.W.nsIn K mainGlobals "isinstance" = some none)
    (n_int : PySem.W.nsIn K mainGlobals "int" = some none)
    (n_bool : PySem.W.nsIn K mainGlobals "bool" = some none)
    (n_tuple : PySem.W.nsIn K mainGlobals "tuple" = some none)
    (n_reversed : PySem.W.nsIn K mainGlobals "reversed" = some none)
    (n_len : PySem.W.nsIn K mainGlobals "len" = some none)
    (n_sorted : PySem.W.nsIn K mainGlobals "sorted" = some none)
    (n_range : PySem.W.nsIn K mainGlobals "range" = some none)
    (n_sum : PySem.W.nsIn K mainGlobals "sum" = some none)
    (n_list : PySem.W.nsIn K mainGlobals "list" = some none)
    (n_min : PySem.W.nsIn K mainGlobals "min" = some none)
    (n_any : PySem.W.nsIn K mainGlobals "any" = some none)
    (n_dict : PySem.W.nsIn K mainGlobals "dict" = some none)
    (n_set : PySem.W.nsIn K mainGlobals "set" = some none)
    (tMEMBER_WORDS_n : PySem.W.nsIn K mainGlobals "MEMBER_WORDS" = some (some (.ref pMEMBER_WORDS)))
    (tMEMBER_WORDS_l : K.lookup pMEMBER_WORDS = some ⟨.type "tuple", otMEMBER_WORDS, .seq itMEMBER_WORDS ntMEMBER_WORDS, stMEMBER_WORDS⟩)
    (tMEMBER_WORDS_v : Vals [.str "row", .str "set", .str "ring"] itMEMBER_WORDS.toList)
    (g__END : PySem.W.nsIn K mainGlobals "_END" = some (some (.int 0 t_END)))
    (g__BEGIN : PySem.W.nsIn K mainGlobals "_BEGIN" = some (some (.int 1 t_BEGIN)))
    (g__NUMBERS : PySem.W.nsIn K mainGlobals "_NUMBERS" = some (some (.int 2 t_NUMBERS)))
    (BadLabels_x : PySem.W.excIn K cBadLabels [.type "ValueError", .type "Exception", .type "BaseException", .type "object"] "ValueError.__new__" = true)
    (BadLabels_k : PySem.W.keepIn K (.ref cBadLabels) = true)
    (BadLabels_b : PySem.W.subIn K (.ref cBadLabels) (.type "BaseException") = some true)
    (BadLabels_t : PySem.W.typeIn K (.ref cBadLabels) = some (.type "type"))
    (BadLabels_ga : PySem.W.findIn K (.ref cBadLabels) "__getattribute__" = some (some (.builtin "BaseException.__getattribute__")))
    (BadLabels_gt : PySem.W.findIn K (.ref cBadLabels) "__getattr__" = some none)
    (BadLabels_hd : PySem.W.hasDictIn K cBadLabels = true)
    (BadLabels_ca : PySem.W.findIn K (.ref cBadLabels) "__class__" = some (some (.builtin "object.__class__")))
    (BadLabels_cm : PySem.W.mroIn K cBadLabels (.type "object") = some true)
    (BadLabels_s : PySem.W.subIn K (.ref cBadLabels) (.ref cSpeciesError) = some true)
    (BadLabels_e : PySem.W.subIn K (.ref cBadLabels) (.ref cBadLabels) = some true)
    (BadLabels_i : PySem.W.isClsIn K cBadLabels = true)
    (B_cn : PySem.W.specialIn K (.builtin "object.__class__") "__get__" = some (some (.builtin "getset_descriptor.__get__")))
    (B_ct : PySem.W.takesIn K (.builtin "object.__class__") = some true)
    (S_b : PySem.W.subIn K (.ref cSpeciesError) (.type "BaseException") = some true)
    (S_hd : PySem.W.hasDictIn K cSpeciesError = true)
    (S_t : PySem.W.typeIn K (.ref cSpeciesError) = some (.type "type"))
    (nT_set_places : K.lookup t_set_places = none)
    (hC_set_places : PySem.W.codeHdIn K k_set_places t_set_places = true)
    (nT_ring_places : K.lookup t_ring_places = none)
    (hC_ring_places : PySem.W.codeHdIn K k_ring_places t_ring_places = true)
    (nTwith_atoms : K.lookup twith_atoms = none)
    (hCwith_atoms : PySem.W.codeHdIn K kwith_atoms twith_atoms = true)
    (ne_set_places_ring_places : (t_set_places == t_ring_places) = false)
    (ne_set_placeswith_atoms : (t_set_places == twith_atoms) = false)
    (ne_ring_placeswith_atoms : (t_ring_places == twith_atoms) = false) :
    LamX.LawAtS l w K CX0 230 63 "script" mg fa h := by
  have e := hfa.symm.trans (PySem.W.mg_of X G a40)
  cases e
  have F0 := fun_mk (st := s_is_whole) l0 c0 k0
  have D0 : Df K mg "is_whole" s_is_whole ["value"] := ⟨f0, _, PySem.W.mg_of X G a0, F0, F0.binds (ps := ["value"]) fun _ _ _ _ _ _ us hl => match us, hl with | [_], _ => rfl⟩
  have F1 := fun_mk (st := s_inner_parts) l1 c1 k1
  have D1 : Df K mg "inner_parts" s_inner_parts ["structure"] := ⟨f1, _, PySem.W.mg_of X G a1, F1, F1.binds (ps := ["structure"]) fun _ _ _ _ _ _ us hl => match us, hl with | [_], _ => rfl⟩
  have F2 := fun_mk (st := s_with_parts) l2 c2 k2
  have D2 : Df K mg "with_parts" s_with_parts ["structure", "parts"] := ⟨f2, _, PySem.W.mg_of X G a2, F2, F2.binds (ps := ["structure", "parts"]) fun _ _ _ _ _ _ us hl => match us, hl with | [_, _], _ => rfl⟩
  have F3 := fun_mk (st := s_atoms_of) l3 c3 k3
  have D3 : Df K mg "atoms_of" s_atoms_of ["structure"] := ⟨f3, _, PySem.W.mg_of X G a3, F3, F3.binds (ps := ["structure"]) fun _ _ _ _ _ _ us hl => match us, hl with | [_], _ => rfl⟩
  have F4 := fun_mk (st := s_folded) l4 c4 k4
  have D4 : Df K mg "folded" s_folded ["structure", "made"] := ⟨f4, _, PySem.W.mg_of X G a4, F4, F4.binds (ps := ["structure", "made"]) fun _ _ _ _ _ _ us hl => match us, hl with | [_, _], _ => rfl⟩
  have D5 : DfC K mg "with_atoms" s_with_atoms ["structure", "atoms"] kwith_atoms := ⟨f5, oc5, od5, kV5, dc5, pm5, an5, ct5, sl5, PySem.W.mg_of X G a5, k5, l5, c5, .all fun us hl => match us, hl with | [_, _], _ => rfl⟩
  have F6 := fun_mk (st := s_flat) l6 c6 k6
  have D6 : Df K mg "flat" s_flat ["nested"] := ⟨f6, _, PySem.W.mg_of X G a6, F6, F6.binds (ps := ["nested"]) fun _ _ _ _ _ _ us hl => match us, hl with | [_], _ => rfl⟩
  have F7 := fun_mk (st := s_size_of) l7 c7 k7
  have D7 : Df K mg "size_of" s_size_of ["structure"] := ⟨f7, _, PySem.W.mg_of X G a7, F7, F7.binds (ps := ["structure"]) fun _ _ _ _ _ _ us hl => match us, hl with | [_], _ => rfl⟩
  have F8 := fun_mk (st := s_labels_of) l8 c8 k8
  have D8 : Df K mg "labels_of" s_labels_of ["structure"] := ⟨f8, _, PySem.W.mg_of X G a8, F8, F8.binds (ps := ["structure"]) fun _ _ _ _ _ _ us hl => match us, hl with | [_], _ => rfl⟩
  have F9 := fun_mk (st := s_is_standard) l9 c9 k9
  have D9 : Df K mg "is_standard" s_is_standard ["structure"] := ⟨f9, _, PySem.W.mg_of X G a9, F9, F9.binds (ps := ["structure"]) fun _ _ _ _ _ _ us hl => match us, hl with | [_], _ => rfl⟩
  have F10 := fun_mk (st := s__pair_of) l10 c10 k10
  have D10 : Df K mg "_pair_of" s__pair_of ["part", "pairs"] := ⟨f10, _, PySem.W.mg_of X G a10, F10, F10.binds (ps := ["part", "pairs"]) fun _ _ _ _ _ _ us hl => match us, hl with | [_, _], _ => rfl⟩
  have F11 := fun_mk (st := s__weight_of) l11 c11 k11
  have D11 : Df K mg "_weight_of" s__weight_of ["part", "pairs"] := ⟨f11, _, PySem.W.mg_of X G a11, F11, F11.binds (ps := ["part", "pairs"]) fun _ _ _ _ _ _ us hl => match us, hl with | [_, _], _ => rfl⟩
  have F12 := fun_mk (st := s__key_of_part) l12 c12 k12
  have D12 : Df K mg "_key_of_part" s__key_of_part ["word", "weight", "pairs"] := ⟨f12, _, PySem.W.mg_of X G a12, F12, F12.binds (ps := ["word", "weight", "pairs"]) fun _ _ _ _ _ _ us hl => match us, hl with | [_, _, _], _ => rfl⟩
  have F13 := fun_mk (st := s_one_form) l13 c13 k13
  have D13 : Df K mg "one_form" s_one_form ["structure"] := ⟨f13, _, PySem.W.mg_of X G a13, F13, F13.binds (ps := ["structure"]) fun _ _ _ _ _ _ us hl => match us, hl with | [_], _ => rfl⟩
  have F14 := fun_mk (st := s__formed) l14 c14 k14
  have D14 : Df K mg "_formed" s__formed ["part", "results"] := ⟨f14, _, PySem.W.mg_of X G a14, F14, F14.binds (ps := ["part", "results"]) fun _ _ _ _ _ _ us hl => match us, hl with | [_, _], _ => rfl⟩
  have D15 : DfC K mg "_set_places" s__set_places ["pairs"] k_set_places := ⟨f15, oc15, od15, kV15, dc15, pm15, an15, ct15, sl15, PySem.W.mg_of X G a15, k15, l15, c15, .all fun us hl => match us, hl with | [_], _ => rfl⟩
  have D16 : DfC K mg "_ring_places" s__ring_places ["pairs"] k_ring_places := ⟨f16, oc16, od16, kV16, dc16, pm16, an16, ct16, sl16, PySem.W.mg_of X G a16, k16, l16, c16, .all fun us hl => match us, hl with | [_], _ => rfl⟩
  have F17 := fun_mk (st := s__are_labelled) l17 c17 k17
  have D17 : Df K mg "_are_labelled" s__are_labelled ["pairs"] := ⟨f17, _, PySem.W.mg_of X G a17, F17, F17.binds (ps := ["pairs"]) fun _ _ _ _ _ _ us hl => match us, hl with | [_], _ => rfl⟩
  have F18 := fun_mk (st := s__ranks) l18 c18 k18
  have D18 : Df K mg "_ranks" s__ranks ["rows"] := ⟨f18, _, PySem.W.mg_of X G a18, F18, F18.binds (ps := ["rows"]) fun _ _ _ _ _ _ us hl => match us, hl with | [_], _ => rfl⟩
  have F19 := fun_mk (st := s_renamed) l19 c19 k19
  have D19 : Df K mg "renamed" s_renamed ["structure", "names"] := ⟨f19, _, PySem.W.mg_of X G a19, F19, F19.binds (ps := ["structure", "names"]) fun _ _ _ _ _ _ us hl => match us, hl with | [_, _], _ => rfl⟩
  have F20 := fun_mk (st := s_erased) l20 c20 k20
  have D20 : Df K mg "erased" s_erased ["structure"] := ⟨f20, _, PySem.W.mg_of X G a20, F20, F20.binds (ps := ["structure"]) fun _ _ _ _ _ _ us hl => match us, hl with | [_], _ => rfl⟩
  have F21 := fun_mk (st := s_labelled_from) l21 c21 k21
  have D21 : Df K mg "labelled_from" s_labelled_from ["structure"] := ⟨f21, _, PySem.W.mg_of X G a21, F21, F21.binds (ps := ["structure"]) fun _ _ _ _ _ _ us hl => match us, hl with | [_], _ => rfl⟩
  have F22 := fun_mk (st := s__labels_in_place) l22 c22 k22
  have D22 : Df K mg "_labels_in_place" s__labels_in_place ["structure"] := ⟨f22, _, PySem.W.mg_of X G a22, F22, F22.binds (ps := ["structure"]) fun _ _ _ _ _ _ us hl => match us, hl with | [_], _ => rfl⟩
  have F23 := fun_mk (st := s__with_labels) l23 c23 k23
  have D23 : Df K mg "_with_labels" s__with_labels ["structure", "labels"] := ⟨f23, _, PySem.W.mg_of X G a23, F23, F23.binds (ps := ["structure", "labels"]) fun _ _ _ _ _ _ us hl => match us, hl with | [_, _], _ => rfl⟩
  have F24 := fun_mk (st := s__law_cell) l24 c24 k24
  have D24 : Df K mg "_law_cell" s__law_cell ["script", "k"] := ⟨f24, _, PySem.W.mg_of X G a24, F24, F24.binds (ps := ["script", "k"]) fun _ _ _ _ _ _ us hl => match us, hl with | [_, _], _ => rfl⟩
  have F25 := fun_mk (st := s__law_mixed) l25 c25 k25
  have D25 : Df K mg "_law_mixed" s__law_mixed ["cell", "k"] := ⟨f25, _, PySem.W.mg_of X G a25, F25, F25.binds (ps := ["cell", "k"]) fun _ _ _ _ _ _ us hl => match us, hl with | [_, _], _ => rfl⟩
  have F26 := fun_mk (st := s__law_digits) l26 c26 k26
  have D26 : Df K mg "_law_digits" s__law_digits ["cell", "count", "many"] := ⟨f26, _, PySem.W.mg_of X G a26, F26, F26.binds (ps := ["cell", "count", "many"]) fun _ _ _ _ _ _ us hl => match us, hl with | [_, _, _], _ => rfl⟩
  have F27 := fun_mk (st := s__law_menu) l27 c27 k27
  have D27 : Df K mg "_law_menu" s__law_menu [] := ⟨f27, _, PySem.W.mg_of X G a27, F27, F27.binds (ps := []) fun _ _ _ _ _ _ us hl => match us, hl with | [], _ => rfl⟩
  have F28 := fun_mk (st := s__law_spec) l28 c28 k28
  have D28 : Df K mg "_law_spec" s__law_spec ["number"] := ⟨f28, _, PySem.W.mg_of X G a28, F28, F28.binds (ps := ["number"]) fun _ _ _ _ _ _ us hl => match us, hl with | [_], _ => rfl⟩
  have F29 := fun_mk (st := s__law_made) l29 c29 k29
  have D29 : Df K mg "_law_made" s__law_made ["equations", "expression", "room", "draws", "place"] := ⟨f29, _, PySem.W.mg_of X G a29, F29, F29.binds (ps := ["equations", "expression", "room", "draws", "place"]) fun _ _ _ _ _ _ us hl => match us, hl with | [_, _, _, _, _], _ => rfl⟩
  have F30 := fun_mk (st := s__law_parts) l30 c30 k30
  have D30 : Df K mg "_law_parts" s__law_parts ["structure"] := ⟨f30, _, PySem.W.mg_of X G a30, F30, F30.binds (ps := ["structure"]) fun _ _ _ _ _ _ us hl => match us, hl with | [_], _ => rfl⟩
  have F31 := fun_mk (st := s__law_with) l31 c31 k31
  have D31 : Df K mg "_law_with" s__law_with ["structure", "parts"] := ⟨f31, _, PySem.W.mg_of X G a31, F31, F31.binds (ps := ["structure", "parts"]) fun _ _ _ _ _ _ us hl => match us, hl with | [_, _], _ => rfl⟩
  have F32 := fun_mk (st := s__law_size) l32 c32 k32
  have D32 : Df K mg "_law_size" s__law_size ["structure"] := ⟨f32, _, PySem.W.mg_of X G a32, F32, F32.binds (ps := ["structure"]) fun _ _ _ _ _ _ us hl => match us, hl with | [_], _ => rfl⟩
  have F33 := fun_mk (st := s__law_labels) l33 c33 k33
  have D33 : Df K mg "_law_labels" s__law_labels ["structure"] := ⟨f33, _, PySem.W.mg_of X G a33, F33, F33.binds (ps := ["structure"]) fun _ _ _ _ _ _ us hl => match us, hl with | [_], _ => rfl⟩
  have F34 := fun_mk (st := s__law_numbered) l34 c34 k34
  have D34 : Df K mg "_law_numbered" s__law_numbered ["structure", "labels"] := ⟨f34, _, PySem.W.mg_of X G a34, F34, F34.binds (ps := ["structure", "labels"]) fun _ _ _ _ _ _ us hl => match us, hl with | [_, _], _ => rfl⟩
  have F35 := fun_mk (st := s__law_order) l35 c35 k35
  have D35 : Df K mg "_law_order" s__law_order ["cell", "size"] := ⟨f35, _, PySem.W.mg_of X G a35, F35, F35.binds (ps := ["cell", "size"]) fun _ _ _ _ _ _ us hl => match us, hl with | [_, _], _ => rfl⟩
  have F36 := fun_mk (st := s__law_drawn) l36 c36 k36
  have D36 : Df K mg "_law_drawn" s__law_drawn ["equations", "name", "cell", "room"] := ⟨f36, _, PySem.W.mg_of X G a36, F36, F36.binds (ps := ["equations", "name", "cell", "room"]) fun _ _ _ _ _ _ us hl => match us, hl with | [_, _, _, _], _ => rfl⟩
  have F37 := fun_mk (st := s__law_weight) l37 c37 k37
  have D37 : Df K mg "_law_weight" s__law_weight ["structure"] := ⟨f37, _, PySem.W.mg_of X G a37, F37, F37.binds (ps := ["structure"]) fun _ _ _ _ _ _ us hl => match us, hl with | [_], _ => rfl⟩
  have F38 := fun_mk (st := s__law_key) l38 c38 k38
  have D38 : Df K mg "_law_key" s__law_key ["structure"] := ⟨f38, _, PySem.W.mg_of X G a38, F38, F38.binds (ps := ["structure"]) fun _ _ _ _ _ _ us hl => match us, hl with | [_], _ => rfl⟩
  have F39 := fun_mk (st := s__law_form) l39 c39 k39
  have D39 : Df K mg "_law_form" s__law_form ["structure"] := ⟨f39, _, PySem.W.mg_of X G a39, F39, F39.binds (ps := ["structure"]) fun _ _ _ _ _ _ us hl => match us, hl with | [_], _ => rfl⟩
  have F40 := fun_mk (st := s_law) l40 c40 k40
  have sizeMEMBER_WORDS : itMEMBER_WORDS.size ≤ sizeLine := by
    have := tMEMBER_WORDS_v.length
    have e : itMEMBER_WORDS.size = 3 := by rw [← Array.length_toList]; exact this.symm
    rw [e]; decide
  letI : Tbs := ⟨[(t_set_places, "_set_places.<locals>.<lambda>"), (t_ring_places, "_ring_places.<locals>.<lambda>"), (twith_atoms, "with_atoms.<locals>.<lambda>")]⟩
  have T : Tx K mg ⟨cSpeciesError, cBadLabels, k_set_places, t_set_places, k_ring_places, t_ring_places, kwith_atoms, twith_atoms, f14, pMEMBER_WORDS, (.int 0 t_END), (.int 1 t_BEGIN), (.int 2 t_NUMBERS)⟩ := ⟨PySem.W.mg_of X G a14, PySem.W.mg_none_of X G n_isinstance, PySem.W.mg_none_of X G n_int, PySem.W.mg_none_of X G n_bool, PySem.W.mg_none_of X G n_tuple, PySem.W.mg_none_of X G n_reversed, PySem.W.mg_none_of X G n_len, PySem.W.mg_none_of X G n_sorted, PySem.W.mg_none_of X G n_range, PySem.W.mg_none_of X G n_sum, PySem.W.mg_none_of X G n_list, PySem.W.mg_none_of X G n_min, PySem.W.mg_none_of X G n_any, PySem.W.mg_none_of X G n_dict, PySem.W.mg_none_of X G n_set, PySem.W.mg_of X G tMEMBER_WORDS_n, rfl, fun H => .inr ⟨_, itMEMBER_WORDS, ntMEMBER_WORDS, tMEMBER_WORDS_l, rfl, rfl, sizeMEMBER_WORDS, tMEMBER_WORDS_v⟩, fun H => .tup (.inr ⟨_, itMEMBER_WORDS, ntMEMBER_WORDS, tMEMBER_WORDS_l, rfl, rfl, sizeMEMBER_WORDS, tMEMBER_WORDS_v⟩) (le_lim (by decide)) (.cons (.str _) (.cons (.str _) (.cons (.str _) .nil))), PySem.W.mg_of X G g__END, ⟨_, rfl⟩, fun H => .int _, PySem.W.mg_of X G g__BEGIN, ⟨_, rfl⟩, fun H => .int _, PySem.W.mg_of X G g__NUMBERS, ⟨_, rfl⟩, fun H => .int _, ⟨PySem.W.mg_of X G g_BadLabels, BadLabels_x, BadLabels_k, BadLabels_b, BadLabels_t⟩, PySem.W.mg_of X G g_SpeciesError⟩
  have kk : ∀ c : Addr, PySem.W.kitOne K (.ref c) (.ref c) = some true := fun c => by (unfold PySem.W.kitOne; rw [if_pos (beq_self_eq_true _)])
  have XX : Ex K ⟨cSpeciesError, cBadLabels, k_set_places, t_set_places, k_ring_places, t_ring_places, kwith_atoms, twith_atoms, f14, pMEMBER_WORDS, (.int 0 t_END), (.int 1 t_BEGIN), (.int 2 t_NUMBERS)⟩ := ⟨⟨⟨BadLabels_ga, BadLabels_gt, BadLabels_b, BadLabels_hd, BadLabels_ca, B_cn, B_ct, BadLabels_cm⟩, PySem.W.exm_ref S_b S_hd S_t BadLabels_s⟩, kk cBadLabels⟩
  have hu_set_places : ∀ p ∈ Tbs.T, p.1 = t_set_places → p.2 = "_set_places.<locals>.<lambda>" := fun p hp hq => by
    rcases List.mem_cons.mp hp with rfl | hp
    · exact rfl
    rcases List.mem_cons.mp hp with rfl | hp
    · exact absurd (show (t_set_places == t_ring_places) = true from beq_iff_eq.mpr (hq.symm)) (by rw [ne_set_places_ring_places]; decide)
    rw [List.mem_singleton.mp hp] at hq ⊢
    exact absurd (show (t_set_places == twith_atoms) = true from beq_iff_eq.mpr (hq.symm)) (by rw [ne_set_placeswith_atoms]; decide)
  have hm_set_places : (t_set_places, ("_set_places.<locals>.<lambda>" : Str)) ∈ Tbs.T := List.mem_cons_self
  have hu_ring_places : ∀ p ∈ Tbs.T, p.1 = t_ring_places → p.2 = "_ring_places.<locals>.<lambda>" := fun p hp hq => by
    rcases List.mem_cons.mp hp with rfl | hp
    · exact absurd (show (t_set_places == t_ring_places) = true from beq_iff_eq.mpr (hq)) (by rw [ne_set_places_ring_places]; decide)
    rcases List.mem_cons.mp hp with rfl | hp
    · exact rfl
    rw [List.mem_singleton.mp hp] at hq ⊢
    exact absurd (show (t_ring_places == twith_atoms) = true from beq_iff_eq.mpr (hq.symm)) (by rw [ne_ring_placeswith_atoms]; decide)
  have hm_ring_places : (t_ring_places, ("_ring_places.<locals>.<lambda>" : Str)) ∈ Tbs.T := (List.mem_cons_of_mem _ List.mem_cons_self)
  have huwith_atoms : ∀ p ∈ Tbs.T, p.1 = twith_atoms → p.2 = "with_atoms.<locals>.<lambda>" := fun p hp hq => by
    rcases List.mem_cons.mp hp with rfl | hp
    · exact absurd (show (t_set_places == twith_atoms) = true from beq_iff_eq.mpr (hq)) (by rw [ne_set_placeswith_atoms]; decide)
    rcases List.mem_cons.mp hp with rfl | hp
    · exact absurd (show (t_ring_places == twith_atoms) = true from beq_iff_eq.mpr (hq)) (by rw [ne_ring_placeswith_atoms]; decide)
    rw [List.mem_singleton.mp hp]
  have hmwith_atoms : (twith_atoms, ("with_atoms.<locals>.<lambda>" : Str)) ∈ Tbs.T := (List.mem_cons_of_mem _ (List.mem_cons_of_mem _ List.mem_cons_self))
  refine ⟨PySem.W.fnOf "law" "law" (defArgs s_law) (defBody s_law) (defScope s_law) .none kV40 dc40 pm40 an40 cd40 ct40, [(k_set_places, t_set_places), (k_ring_places, t_ring_places), (kwith_atoms, twith_atoms)], spW K (relR r_law), fun p hp => by
    rcases List.mem_cons.mp hp with rfl | hp
    · exact hT_set_places
    rcases List.mem_cons.mp hp with rfl | hp
    · exact hT_ring_places
    rw [List.mem_singleton.mp hp]; exact hTwith_atoms, fun p hp => by
    rcases List.mem_cons.mp hp with rfl | hp
    · exact nT_set_places
    rcases List.mem_cons.mp hp with rfl | hp
    · exact nT_ring_places
    rw [List.mem_singleton.mp hp]; exact nTwith_atoms, fun p hp => by
    rcases List.mem_cons.mp hp with rfl | hp
    · exact PySem.W.codeHd_of_K X hC_set_places
    rcases List.mem_cons.mp hp with rfl | hp
    · exact PySem.W.codeHd_of_K X hC_ring_places
    rw [List.mem_singleton.mp hp]; exact PySem.W.codeHd_of_K X hCwith_atoms, fun s v => .of_eq rfl, fun H a ns hl _ hT hS => ?_, fun base _ _ TB => ?_⟩
  · refine law_start hl (fun p hp => by
    rcases List.mem_cons.mp hp with rfl | hp
    · exact LamX.TabS.nil (hT (k_set_places, t_set_places) (by simp))
    rcases List.mem_cons.mp hp with rfl | hp
    · exact LamX.TabS.nil (hT (k_ring_places, t_ring_places) (by simp))
    rw [List.mem_singleton.mp hp]; exact LamX.TabS.nil (hT (kwith_atoms, twith_atoms) (by simp))) hS
  have LM_set_places : LamD mg base k_set_places t_set_places "_set_places.<locals>.<lambda>" := ⟨TB (k_set_places, t_set_places) (by simp), hm_set_places, hu_set_places⟩
  have LM_ring_places : LamD mg base k_ring_places t_ring_places "_ring_places.<locals>.<lambda>" := ⟨TB (k_ring_places, t_ring_places) (by simp), hm_ring_places, hu_ring_places⟩
  have LMwith_atoms : LamD mg base kwith_atoms twith_atoms "with_atoms.<locals>.<lambda>" := ⟨TB (kwith_atoms, twith_atoms) (by simp), hmwith_atoms, huwith_atoms⟩
  have C__law_menu := ok__law_menu (P := l.prog) (w := w) (base := base) T D27
  have C__law_spec := ok__law_spec (P := l.prog) (w := w) (base := base) T D28 C__law_menu
  have C__law_parts := ok__law_parts (P := l.prog) (w := w) (base := base) T D30
  have C__law_size := size_all (P := l.prog) (w := w) (base := base) ⟨D30, D31, D32, D33, D37, D38, D39, D34, D29⟩ T 260
  have C__law_made := made_all (P := l.prog) (w := w) (base := base) ⟨D30, D31, D32, D33, D37, D38, D39, D34, D29⟩ T 258
  have C__law_mixed := ok__law_mixed (P := l.prog) (w := w) (base := base) T D25
  have C__law_digits := ok__law_digits (P := l.prog) (w := w) (base := base) T D26 C__law_mixed
  have C__law_drawn := ok__law_drawn (P := l.prog) (w := w) (base := base) T D36 C__law_made C__law_digits
  have C__law_cell := ok__law_cell (P := l.prog) (w := w) (base := base) T D24
  have C__law_with := ok__law_with (P := l.prog) (w := w) (base := base) T D31
  have C__law_labels := labels_all (P := l.prog) (w := w) (base := base) ⟨D30, D31, D32, D33, D37, D38, D39, D34, D29⟩ T 260
  have C__law_weight := weight_all (P := l.prog) (w := w) (base := base) ⟨D30, D31, D32, D33, D37, D38, D39, D34, D29⟩ T 260
  have C__law_key := key_all (P := l.prog) (w := w) (base := base) ⟨D30, D31, D32, D33, D37, D38, D39, D34, D29⟩ T 260
  have C__law_form := form_all (P := l.prog) (w := w) (base := base) ⟨D30, D31, D32, D33, D37, D38, D39, D34, D29⟩ T 260
  have C_inner_parts := ok_inner_parts (P := l.prog) (w := w) (base := base) T D1
  have C__are_labelled := ok__are_labelled (P := l.prog) (w := w) (base := base) T D17
  have C_flat := ok_flat (P := l.prog) (w := w) (base := base) T D6
  have C__set_places := ok__set_places (P := l.prog) (w := w) (base := base) T D15 LM_set_places C__are_labelled C_flat
  have C_with_parts := ok_with_parts (P := l.prog) (w := w) (base := base) T D2
  have C__weight_of := ok__weight_of (P := l.prog) (w := w) (base := base) T D11
  have C__key_of_part := ok__key_of_part (P := l.prog) (w := w) (base := base) T D12
  have C__pair_of := ok__pair_of (P := l.prog) (w := w) (base := base) T D10 C__weight_of C__key_of_part
  have C__ranks := ok__ranks (P := l.prog) (w := w) (base := base) T D18
  have C__ring_places := ok__ring_places (P := l.prog) (w := w) (base := base) T D16 LM_ring_places C__are_labelled C__ranks C_flat
  have C__formed := ok__formed (P := l.prog) (w := w) (base := base) T D14 C__set_places C_with_parts C__pair_of C__ring_places
  have C_folded := ok_folded (P := l.prog) (w := w) (base := base) T D4 C_inner_parts C__formed
  have C_one_form := ok_one_form (P := l.prog) (w := w) (base := base) T D13 C_folded
  have C_atoms_of := ok_atoms_of (P := l.prog) (w := w) (base := base) T D3 C_inner_parts
  have C_with_atoms := ok_with_atoms (P := l.prog) (w := w) (base := base) T D5 LMwith_atoms D4 C_inner_parts C_with_parts
  have C__with_labels := ok__with_labels (P := l.prog) (w := w) (base := base) T D23 C_with_atoms
  have C_labelled_from := ok_labelled_from (P := l.prog) (w := w) (base := base) T D21 C_one_form C_atoms_of C__with_labels
  have C_erased := ok_erased (P := l.prog) (w := w) (base := base) T D20 C_one_form C_with_atoms C_atoms_of
  have C__law_numbered := numbered_all (P := l.prog) (w := w) (base := base) ⟨D30, D31, D32, D33, D37, D38, D39, D34, D29⟩ T 260
  have C_labels_of := ok_labels_of (P := l.prog) (w := w) (base := base) T D8 C_atoms_of
  have C_size_of := ok_size_of (P := l.prog) (w := w) (base := base) T D7 C_atoms_of
  have C_is_standard := ok_is_standard (P := l.prog) (w := w) (base := base) T D9 C_labels_of C_size_of
  have C__labels_in_place := ok__labels_in_place (P := l.prog) (w := w) (base := base) T D22 C_atoms_of
  have C_is_whole := ok_is_whole (P := l.prog) (w := w) (base := base) T D0
  have C_renamed := ok_renamed (P := l.prog) (w := w) (base := base) T D19 C__labels_in_place C_one_form C__with_labels C_is_whole
  have C__law_order := ok__law_order (P := l.prog) (w := w) (base := base) T D35 C__law_digits
  exact (ok_law T F40 C__law_spec C__law_drawn C__law_cell C__law_size C__law_form C_labelled_from C_erased C__law_numbered C_is_standard C_renamed C__law_order).fn (by decide) (by decide)
theorem walk {l : PySem.W.OpenLaw} {q : Program} {loose : List Str} {XP : (Str → Option Value) → Heap → Prop} {YP : World → Heap → Prop} {d : DefRec} {K : Params → PySem.W.Frag} (hn : l.most = some 63) (hdf : d.params.defaults = [])
    (hY : ∀ (w : World) (h : Heap), YP w h → (K w.params).In h)
    (F : ∀ (w : World) (mg : Str → Option Value) (fa : Addr) (h : Heap), YP w h → (K w.params).In h → h.Ns mainGlobals mg → mg d.name = some (.ref fa) → LamX.LawAtS l w (K w.params) CX0 230 63 "script" mg fa h) :
    PySem.W.WalkO q loose XP YP l.row.toRowW d [] (fun f vs => PySem.call f vs) :=
  LamX.walk_ofTs (n := 63) (k := 230) (x := "script") (CX := fun _ => CX0) hn (by decide) hdf ⟨rfl, by decide, by decide⟩ hY F fun _ _ _ _ _ z => z
end DL

open PySem PySem.W PyProof.Rows
set_option maxRecDepth 100000 in
set_option maxHeartbeats 0 in
theorem PySem.Challenge.cw_speciesmill_k14_labels_left_out_holds : PySem.Challenge.rw_speciesmill_k14_labels_left_out.Holds := by
  w_on; o_law; km_head; (case hw => w_witness2)
  k_fill
  refine DL.walk (l := PySem.Challenge.rw_speciesmill_k14_labels_left_out) rfl rfl (fun w h Y => PySem.W.km_in_of Y) ?F
  case F =>
    intro w mg fa h Y KX G hmg
    have hTb0 := PySem.W.km_tabs_of Y _ (List.Mem.head _)
    have hTb1 := PySem.W.km_tabs_of Y _ (List.Mem.tail _ (List.Mem.head _))
    have hTb2 := PySem.W.km_tabs_of Y _ (List.Mem.tail _ (List.Mem.tail _ (List.Mem.head _)))
    refine' DL.all_mk KX G hmg hTb2 hTb1 hTb0 ?a0 ?l0 ?c0 ?k0 ?a1 ?l1 ?c1 ?k1 ?a2 ?l2 ?c2 ?k2 ?a3 ?l3 ?c3 ?k3 ?a4 ?l4 ?c4 ?k4 ?a5 ?l5 ?c5 ?k5 ?a6 ?l6 ?c6 ?k6 ?a7 ?l7 ?c7 ?k7 ?a8 ?l8 ?c8 ?k8 ?a9 ?l9 ?c9 ?k9 ?a10 ?l10 ?c10 ?k10 ?a11 ?l11 ?c11 ?k11 ?a12 ?l12 ?c12 ?k12 ?a13 ?l13 ?c13 ?k13 ?a14 ?l14 ?c14 ?k14 ?a15 ?l15 ?c15 ?k15 ?a16 ?l16 ?c16 ?k16 ?a17 ?l17 ?c17 ?k17 ?a18 ?l18 ?c18 ?k18 ?a19 ?l19 ?c19 ?k19 ?a20 ?l20 ?c20 ?k20 ?a21 ?l21 ?c21 ?k21 ?a22 ?l22 ?c22 ?k22 ?a23 ?l23 ?c23 ?k23 ?a24 ?l24 ?c24 ?k24 ?a25 ?l25 ?c25 ?k25 ?a26 ?l26 ?c26 ?k26 ?a27 ?l27 ?c27 ?k27 ?a28 ?l28 ?c28 ?k28 ?a29 ?l29 ?c29 ?k29 ?a30 ?l30 ?c30 ?k30 ?a31 ?l31 ?c31 ?k31 ?a32 ?l32 ?c32 ?k32 ?a33 ?l33 ?c33 ?k33 ?a34 ?l34 ?c34 ?k34 ?a35 ?l35 ?c35 ?k35 ?a36 ?l36 ?c36 ?k36 ?a37 ?l37 ?c37 ?k37 ?a38 ?l38 ?c38 ?k38 ?a39 ?l39 ?c39 ?k39 ?a40 ?l40 ?c40 ?k40 ?g_SpeciesError ?g_BadLabels ?n_isinstance ?n_int ?n_bool ?n_tuple ?n_reversed ?n_len ?n_sorted ?n_range ?n_sum ?n_list ?n_min ?n_any ?n_dict ?n_set ?tMEMBER_WORDS_n ?tMEMBER_WORDS_l ?tMEMBER_WORDS_v ?g__END ?g__BEGIN ?g__NUMBERS ?BadLabels_x ?BadLabels_k ?BadLabels_b ?BadLabels_t ?BadLabels_ga ?BadLabels_gt ?BadLabels_hd ?BadLabels_ca ?BadLabels_cm ?BadLabels_s ?BadLabels_e ?BadLabels_i ?B_cn ?B_ct ?S_b ?S_hd ?S_t ?nT_set_places ?hC_set_places ?nT_ring_places ?hC_ring_places ?nTwith_atoms ?hCwith_atoms ?ne_set_places_ring_places ?ne_set_placeswith_atoms ?ne_ring_placeswith_atoms
    (case g_SpeciesError => k_is); (case g_BadLabels => k_is); (case tMEMBER_WORDS_n => k_is); (case a0 => k_is); (case l0 => k_is); (case c0 => k_is); (case k0 => k_is); (case a1 => k_is)
    (case l1 => k_is); (case c1 => k_is); (case k1 => k_is); (case a2 => k_is); (case l2 => k_is); (case c2 => k_is); (case k2 => k_is); (case a3 => k_is)
    (case l3 => k_is); (case c3 => k_is); (case k3 => k_is); (case a4 => k_is); (case l4 => k_is); (case c4 => k_is); (case k4 => k_is); (case a5 => k_is)
    (case l5 => k_is); (case c5 => k_is); (case k5 => k_is); (case a6 => k_is); (case l6 => k_is); (case c6 => k_is); (case k6 => k_is); (case a7 => k_is)
    (case l7 => k_is); (case c7 => k_is); (case k7 => k_is); (case a8 => k_is); (case l8 => k_is); (case c8 => k_is); (case k8 => k_is); (case a9 => k_is)
    (case l9 => k_is); (case c9 => k_is); (case k9 => k_is); (case a10 => k_is); (case l10 => k_is); (case c10 => k_is); (case k10 => k_is); (case a11 => k_is)
    (case l11 => k_is); (case c11 => k_is); (case k11 => k_is); (case a12 => k_is); (case l12 => k_is); (case c12 => k_is); (case k12 => k_is); (case a13 => k_is)
    (case l13 => k_is); (case c13 => k_is); (case k13 => k_is); (case a14 => k_is); (case l14 => k_is); (case c14 => k_is); (case k14 => k_is); (case a15 => k_is)
    (case l15 => k_is); (case c15 => k_is); (case k15 => k_is); (case a16 => k_is); (case l16 => k_is); (case c16 => k_is); (case k16 => k_is); (case a17 => k_is)
    (case l17 => k_is); (case c17 => k_is); (case k17 => k_is); (case a18 => k_is); (case l18 => k_is); (case c18 => k_is); (case k18 => k_is); (case a19 => k_is)
    (case l19 => k_is); (case c19 => k_is); (case k19 => k_is); (case a20 => k_is); (case l20 => k_is); (case c20 => k_is); (case k20 => k_is); (case a21 => k_is)
    (case l21 => k_is); (case c21 => k_is); (case k21 => k_is); (case a22 => k_is); (case l22 => k_is); (case c22 => k_is); (case k22 => k_is); (case a23 => k_is)
    (case l23 => k_is); (case c23 => k_is); (case k23 => k_is); (case a24 => k_is); (case l24 => k_is); (case c24 => k_is); (case k24 => k_is); (case a25 => k_is)
    (case l25 => k_is); (case c25 => k_is); (case k25 => k_is); (case a26 => k_is); (case l26 => k_is); (case c26 => k_is); (case k26 => k_is); (case a27 => k_is)
    (case l27 => k_is); (case c27 => k_is); (case k27 => k_is); (case a28 => k_is); (case l28 => k_is); (case c28 => k_is); (case k28 => k_is); (case a29 => k_is)
    (case l29 => k_is); (case c29 => k_is); (case k29 => k_is); (case a30 => k_is); (case l30 => k_is); (case c30 => k_is); (case k30 => k_is); (case a31 => k_is)
    (case l31 => k_is); (case c31 => k_is); (case k31 => k_is); (case a32 => k_is); (case l32 => k_is); (case c32 => k_is); (case k32 => k_is); (case a33 => k_is)
    (case l33 => k_is); (case c33 => k_is); (case k33 => k_is); (case a34 => k_is); (case l34 => k_is); (case c34 => k_is); (case k34 => k_is); (case a35 => k_is)
    (case l35 => k_is); (case c35 => k_is); (case k35 => k_is); (case a36 => k_is); (case l36 => k_is); (case c36 => k_is); (case k36 => k_is); (case a37 => k_is)
    (case l37 => k_is); (case c37 => k_is); (case k37 => k_is); (case a38 => k_is); (case l38 => k_is); (case c38 => k_is); (case k38 => k_is); (case a39 => k_is)
    (case l39 => k_is); (case c39 => k_is); (case k39 => k_is); (case a40 => k_is); (case l40 => k_is); (case c40 => k_is); (case k40 => k_is); (case n_isinstance => k_is)
    (case n_int => k_is); (case n_bool => k_is); (case n_tuple => k_is); (case n_reversed => k_is); (case n_len => k_is); (case n_sorted => k_is); (case n_range => k_is); (case n_sum => k_is)
    (case n_list => k_is); (case n_min => k_is); (case n_any => k_is); (case n_dict => k_is); (case n_set => k_is); (case tMEMBER_WORDS_l => k_is); (case tMEMBER_WORDS_v => exact .cons ⟨_, rfl⟩ (.cons ⟨_, rfl⟩ (.cons ⟨_, rfl⟩ .nil))); (case g__END => k_is)
    (case g__BEGIN => k_is); (case g__NUMBERS => k_is); (case BadLabels_x => k_exc); (case BadLabels_k => k_is); (case BadLabels_b => k_is); (case BadLabels_t => k_is); (case BadLabels_ga => k_is); (case BadLabels_gt => k_is)
    (case BadLabels_hd => k_is); (case BadLabels_ca => k_is); (case BadLabels_cm => k_is); (case BadLabels_s => first | k_is | rfl); (case BadLabels_e => first | k_is | rfl); (case BadLabels_i => k_is); (case B_cn => k_is); (case B_ct => k_is)
    (case S_b => k_is); (case S_hd => k_is); (case S_t => k_is); (case nT_set_places => kernel_rfl); (case hC_set_places => kernel_rfl); (case nT_ring_places => kernel_rfl); (case hC_ring_places => kernel_rfl); (case nTwith_atoms => kernel_rfl)
    (case hCwith_atoms => kernel_rfl); (case ne_set_places_ring_places => first | rfl | decide); (case ne_set_placeswith_atoms => first | rfl | decide); (case ne_ring_placeswith_atoms => first | rfl | decide)
#print axioms PySem.Challenge.cw_speciesmill_k14_labels_left_out_holds

