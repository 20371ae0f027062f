import PyProof.Rows.All
import Wide.All
import OpenK.AllK
import Wide.FinOn
import HandS.ForExc
import HandS.Comp
import HandS.Iter
import HandS.Gcd
import HandS.IsInst
import HandS.ExcIs
import HandS.Flow
import HandS.Wide
import KE.KMathGC
import PySem.Challenge.RW_speciesmill_k21_counts_refused
set_option Elab.async false
set_option linter.all false
set_option maxRecDepth 100000
set_option maxHeartbeats 4000000
namespace SM
open PySem L2
def topS (i : Nat) : Stmt := PySem.Challenge.pw_speciesmill_k21_counts_refused.main.body.getD i (.Pass ⟨0, 0, 0, 0⟩)
abbrev s__wall : Stmt := topS 1
theorem sc__wall : FnScope ["k"] ["k"] (defScope s__wall) := ⟨rfl, rfl, rfl, by decide +kernel, rfl, by decide +kernel, by decide +kernel⟩
abbrev s_is_whole : Stmt := topS 7
theorem sc_is_whole : FnScope ["value"] ["value"] (defScope s_is_whole) := ⟨rfl, rfl, rfl, by decide +kernel, rfl, by decide +kernel, by decide +kernel⟩
abbrev s_are_bounds : Stmt := topS 8
theorem sc_are_bounds : FnScope ["word", "least", "most", "lowest"] ["word", "least", "most"] (defScope s_are_bounds) := ⟨rfl, rfl, rfl, by decide +kernel, rfl, by decide +kernel, by decide +kernel⟩
abbrev s_more_than_one : Stmt := topS 9
theorem sc_more_than_one : FnScope ["most"] ["most"] (defScope s_more_than_one) := ⟨rfl, rfl, rfl, by decide +kernel, rfl, by decide +kernel, by decide +kernel⟩
abbrev s_divisors : Stmt := topS 10
theorem sc_divisors : FnScope ["number", "part"] ["number"] (defScope s_divisors) := ⟨rfl, rfl, rfl, by decide +kernel, rfl, by decide +kernel, by decide +kernel⟩
abbrev s_totient : Stmt := topS 11
theorem sc_totient : FnScope ["number", "part"] ["number"] (defScope s_totient) := ⟨rfl, rfl, rfl, by decide +kernel, rfl, by decide +kernel, by decide +kernel⟩
abbrev s_moebius : Stmt := topS 12
theorem sc_moebius : FnScope ["number", "sign", "rest", "prime"] ["number"] (defScope s_moebius) := ⟨rfl, rfl, rfl, by decide +kernel, rfl, by decide +kernel, by decide +kernel⟩
abbrev s_mode_of : Stmt := topS 18
theorem sc_mode_of : FnScope ["labelled"] ["labelled"] (defScope s_mode_of) := ⟨rfl, rfl, rfl, by decide +kernel, rfl, by decide +kernel, by decide +kernel⟩
abbrev s_ways_to_share : Stmt := topS 19
theorem sc_ways_to_share : FnScope ["first", "size", "mode"] ["first", "size", "mode"] (defScope s_ways_to_share) := ⟨rfl, rfl, rfl, by decide +kernel, rfl, by decide +kernel, by decide +kernel⟩
abbrev s_pair_item : Stmt := topS 20
theorem sc_pair_item : FnScope ["first", "second", "size", "mode", "total", "at"] ["first", "second", "size", "mode"] (defScope s_pair_item) := ⟨rfl, rfl, rfl, by decide +kernel, rfl, by decide +kernel, by decide +kernel⟩
abbrev s_Members_init : Stmt := inClass (topS 21) 0
theorem sc_Members_init : FnScope ["self", "word", "most", "counts", "mode"] ["self", "word", "most", "counts", "mode"] (defScope s_Members_init) := ⟨rfl, rfl, rfl, by decide +kernel, rfl, by decide +kernel, by decide +kernel⟩
abbrev s_Members_grow : Stmt := inClass (topS 21) 1
theorem sc_Members_grow : FnScope ["self", "size", "limit", "shared", "members"] ["self"] (defScope s_Members_grow) := ⟨rfl, rfl, rfl, by decide +kernel, rfl, by decide +kernel, by decide +kernel⟩
abbrev s_Members_shared_counts : Stmt := inClass (topS 21) 2
theorem sc_Members_shared_counts : FnScope ["self", "size", "at"] ["self", "size"] (defScope s_Members_shared_counts) := ⟨rfl, rfl, rfl, by decide +kernel, rfl, by decide +kernel, by decide +kernel⟩
abbrev s_Members_next_rows : Stmt := inClass (topS 21) 3
theorem sc_Members_next_rows : FnScope ["self", "shared", "members", "size", "others", "at"] ["self", "shared", "members", "size"] (defScope s_Members_next_rows) := ⟨rfl, rfl, rfl, by decide +kernel, rfl, by decide +kernel, by decide +kernel⟩
abbrev s_Members_next_sets : Stmt := inClass (topS 21) 4
theorem sc_Members_next_sets : FnScope ["self", "members", "size", "total", "equal", "others", "last", "ways", "at"] ["self", "members", "size"] (defScope s_Members_next_sets) := ⟨rfl, rfl, rfl, by decide +kernel, rfl, by decide +kernel, by decide +kernel⟩
abbrev s_Members_rests : Stmt := inClass (topS 21) 5
theorem sc_Members_rests : FnScope ["self", "placed", "least", "size"] ["self", "placed", "least", "size"] (defScope s_Members_rests) := ⟨rfl, rfl, rfl, by decide +kernel, rfl, by decide +kernel, by decide +kernel⟩
abbrev s_Members_exactly : Stmt := inClass (topS 21) 6
theorem sc_Members_exactly : FnScope ["self", "members", "size"] ["self", "members", "size"] (defScope s_Members_exactly) := ⟨rfl, rfl, rfl, by decide +kernel, rfl, by decide +kernel, by decide +kernel⟩
abbrev s_Members_rings : Stmt := inClass (topS 21) 7
theorem sc_Members_rings : FnScope ["self", "members", "size", "total", "times", "factor"] ["self", "members", "size"] (defScope s_Members_rings) := ⟨rfl, rfl, rfl, by decide +kernel, rfl, by decide +kernel, by decide +kernel⟩
abbrev s_Members_within : Stmt := inClass (topS 21) 8
theorem sc_Members_within : FnScope ["self", "least", "most", "size", "greatest", "last", "members"] ["self", "least", "most", "size"] (defScope s_Members_within) := ⟨rfl, rfl, rfl, by decide +kernel, rfl, by decide +kernel, by decide +kernel⟩
abbrev s_check_counts : Stmt := topS 24
theorem sc_check_counts : FnScope ["counts", "item"] ["counts"] (defScope s_check_counts) := ⟨rfl, rfl, rfl, by decide +kernel, rfl, by decide +kernel, by decide +kernel⟩
abbrev s_pairs : Stmt := topS 25
theorem sc_pairs : FnScope ["first", "second", "labelled", "size"] ["first", "second", "labelled"] (defScope s_pairs) := ⟨rfl, rfl, rfl, by decide +kernel, rfl, by decide +kernel, by decide +kernel⟩
abbrev s_rows : Stmt := topS 26
theorem sc_rows : FnScope ["counts", "least", "most", "labelled"] ["counts", "least", "most", "labelled"] (defScope s_rows) := ⟨rfl, rfl, rfl, by decide +kernel, rfl, by decide +kernel, by decide +kernel⟩
abbrev s_sets : Stmt := topS 27
theorem sc_sets : FnScope ["counts", "least", "most", "labelled"] ["counts", "least", "most", "labelled"] (defScope s_sets) := ⟨rfl, rfl, rfl, by decide +kernel, rfl, by decide +kernel, by decide +kernel⟩
abbrev s_rings : Stmt := topS 28
theorem sc_rings : FnScope ["counts", "least", "most", "labelled"] ["counts", "least", "most", "labelled"] (defScope s_rings) := ⟨rfl, rfl, rfl, by decide +kernel, rfl, by decide +kernel, by decide +kernel⟩
abbrev s_by_members : Stmt := topS 29
theorem sc_by_members : FnScope ["counts", "word", "members", "labelled"] ["counts", "word", "members", "labelled"] (defScope s_by_members) := ⟨rfl, rfl, rfl, by decide +kernel, rfl, by decide +kernel, by decide +kernel⟩
abbrev s__counts_within : Stmt := topS 30
theorem sc__counts_within : FnScope ["word", "counts", "least", "most", "labelled", "told", "made", "size"] ["word", "counts", "least", "most", "labelled"] (defScope s__counts_within) := ⟨rfl, rfl, rfl, by decide +kernel, rfl, by decide +kernel, by decide +kernel⟩
abbrev s_sets_undone : Stmt := topS 31
theorem sc_sets_undone : FnScope ["counts", "labelled"] ["counts", "labelled"] (defScope s_sets_undone) := ⟨rfl, rfl, rfl, by decide +kernel, rfl, by decide +kernel, by decide +kernel⟩
abbrev s__labelled_undone : Stmt := topS 32
theorem sc__labelled_undone : FnScope ["counts", "members", "size", "beside", "at"] ["counts"] (defScope s__labelled_undone) := ⟨rfl, rfl, rfl, by decide +kernel, rfl, by decide +kernel, by decide +kernel⟩
abbrev s__unlabelled_undone : Stmt := topS 33
theorem sc__unlabelled_undone : FnScope ["counts", "members", "weights", "size", "weight", "smaller", "at"] ["counts"] (defScope s__unlabelled_undone) := ⟨rfl, rfl, rfl, by decide +kernel, rfl, by decide +kernel, by decide +kernel⟩
abbrev s__law_draws : Stmt := topS 35
theorem sc__law_draws : FnScope ["script", "many", "draws", "seed", "cell", "number", "k"] ["script", "many"] (defScope s__law_draws) := ⟨rfl, rfl, rfl, by decide +kernel, rfl, by decide +kernel, by decide +kernel⟩
abbrev s__law_asked : Stmt := topS 36
theorem sc__law_asked : FnScope ["word", "counts", "least", "most", "labelled"] ["word", "counts", "least", "most", "labelled"] (defScope s__law_asked) := ⟨rfl, rfl, rfl, by decide +kernel, rfl, by decide +kernel, by decide +kernel⟩
abbrev s__law_refused : Stmt := topS 37
theorem sc__law_refused : FnScope ["word", "counts", "least", "most", "labelled", "e"] ["word", "counts", "least", "most", "labelled"] (defScope s__law_refused) := ⟨rfl, rfl, rfl, by decide +kernel, rfl, by decide +kernel, by decide +kernel⟩
abbrev s_law : Stmt := topS 38
theorem sc_law : FnScope ["script", "draws", "labelled", "size", "counts", "at", "wrong", "bad", "word", "bounds", "full", "j"] ["script"] (defScope s_law) := ⟨rfl, rfl, rfl, by decide +kernel, rfl, by decide +kernel, by decide +kernel⟩
end SM

namespace SM
open PySem L2
/-! ### calls: what stands at a name and what it promises -/
structure Cal (P : Program) (w : World) (K : PySem.W.Frag) (mg : Str → Option Value) (base : Heap) (CX : CXT) (k : Nat) (x : Str) (ps : List Str) (sp : Sp) : Prop where
  ex : ∃ (f : Addr) (fd : FuncData), mg x = some (.ref f) ∧ PySem.W.keepIn K (.ref f) = true ∧ Binds K fd ps [] ∧ FnOk P w K mg base CX k f fd ps sp
def Df (K : PySem.W.Frag) (mg : Str → Option Value) (x : Str) (st : Stmt) (ps : List Str) : Prop :=
  ∃ (f : Addr) (fd : FuncData), mg x = some (.ref f) ∧ Fun K x x st f fd ∧ Binds K fd ps []
/-- a method of the class at C -/
structure CalM (P : Program) (w : World) (K : PySem.W.Frag) (mg : Str → Option Value) (base : Heap) (CX : CXT) (k : Nat) (C : Addr) (m : Str) (ps : List Str) (sp : Sp) : Prop where
  ex : ∃ (f : Addr) (fd : FuncData), Meth K C m f ∧ Binds K fd ps [] ∧ FnOk P w K mg base CX k f fd ps sp
def DfM (K : PySem.W.Frag) (C : Addr) (m qual : Str) (st : Stmt) (ps : List Str) : Prop :=
  ∃ (f : Addr) (fd : FuncData), Meth K C m f ∧ Fun K m qual st f fd ∧ Binds K fd ps []
/-- an own error class without more -/
structure Exc (K : PySem.W.Frag) (mg : Str → Option Value) (x : Str) (C : Addr) : Prop where
  g : mg x = some (.ref C)
  x : PySem.W.excIn K C [.type "ValueError", .type "Exception", .type "BaseException", .type "object"] "ValueError.__new__" = true
  k : PySem.W.keepIn K (.ref C) = true
  b : PySem.W.subIn K (.ref C) (.type "BaseException") = some true
  t : PySem.W.typeIn K (.ref C) = some (.type "type")
/-! ### more calls of built-in functions -/
section
variable {X : Cx}
def rComb : List V → Hp → VK → Prop := fun vs H Q => ∃ a b : Int, vs = [.int a, .int b] ∧ 0 ≤ a ∧ 0 ≤ b ∧ a < 18000 ∧ (PySem.W.McComb a b (PySem.W.mcComb a b) → Q (.int (PySem.W.mcComb a b)) H)
theorem cr_comb : CallR X (.builtin "math.comb") rComb := by
  intro pins s σ H vs us Q I r h
  obtain ⟨a, b, rfl, h1, h2, h3, q⟩ := h
  obtain ⟨t, u, rfl⟩ := Vals.int2 r
  exact PySem.W.mc_comb h1 h2 (by omega) (.inr (by omega)) fun z => ⟨.int _, H, I.tok _, ⟨_, rfl⟩, q z⟩
def rFact : List V → Hp → VK → Prop := fun vs H Q => ∃ a : Int, vs = [.int a] ∧ 0 ≤ a ∧ a ≤ 20000 ∧ Q (.int ((Builtin.Math.factorialNat a.toNat : Nat) : Int)) H
theorem cr_factorial : CallR X (.builtin "math.factorial") rFact := by
  intro pins s σ H vs us Q I r h
  obtain ⟨a, rfl, h1, h2, q⟩ := h
  obtain ⟨u, rfl, t, rfl⟩ := vals1 r
  exact PySem.W.mc_factorial h1 h2 fun z => ⟨.int _, H, I.tok _, ⟨_, rfl⟩, q⟩
end
theorem ix_listB {X : Cx} {K : PySem.W.Frag} (h : X.K = K) : IxR X (rIxL K) := by
  subst h
  exact ix_list
theorem call_lenB {X : Cx} {K : PySem.W.Frag} (h : X.K = K) : CallR X (.builtin "len") (fun xs H Q => ∃ p ys, xs = [.ref p] ∧ (SqL K H p ys ∨ SqT K H p ys) ∧ Q (.int ys.length) H) := by
  subst h
  exact call_len_seq
theorem cr_sumB {X : Cx} {K : PySem.W.Frag} (h : X.K = K) (hc : X.calm = true) : CallR X (.builtin "sum") (rSum K) := by
  subst h
  exact cr_sum hc
theorem pe_fldB {X : Cx} {K : PySem.W.Frag} {e : Expr} {ta : TE} {f : Str} {pos : Pos} (h : X.K = K) (he : PE X e ta) (hb : attributeBase e f X.env (eval e X.env) = eval e X.env) : PE X (.Attribute e f pos) (tFld K ta f) := by
  subst h
  exact pe_fld he hb
/-- an expression that is never reached -/
theorem pe_never {X : Cx} {e : Expr} : PE X e (fun _ _ _ => False) := ⟨fun _ _ _ _ _ _ h => h.elim⟩
/-! ### heaps -/
theorem same_upd {H : Hp} {p : Addr} {o : HO} (h : H p = none) : Same H (upd H p o) := fun b x e => by
  rw [upd_ne (ne_of_none e h)]
  exact e
theorem same_upd' {H H' : Hp} {p : Addr} {o : HO} (e : Same H H') (h : H p = none) : Same H (upd H' p o) := fun b x q => by
  rw [upd_ne (ne_of_none q h)]
  exact e b x q
theorem sq_of {K : PySem.W.Frag} {H : Hp} {a : Addr} {xs : List V} (h : H a = some (.lst xs)) : SqL K H a xs := .inl (.inl h)
theorem st_of {K : PySem.W.Frag} {H : Hp} {a : Addr} {xs : List V} (h : H a = some (.tup xs)) : SqT K H a xs := .inl (.inl h)
theorem same_t {K : PySem.W.Frag} {H H' : Hp} {a : Addr} {xs : List V} (e : Same H H') (h : SqT K H a xs) : SqT K H' a xs := by
  rcases h with (h | ⟨o, h⟩) | h
  · exact .inl (.inl (e _ _ h))
  · exact .inl (.inr ⟨o, e _ _ h⟩)
  · exact .inr h
theorem sz (n : Nat) (h : n ≤ 100000) : n ≤ sizeLine := Nat.le_trans h (by decide)
theorem szl (n : Nat) (h : n < 100000) : n < sizeLine := Nat.lt_of_lt_of_le h (by decide)
/-! ### None or an int -/
def oV : Option Int → V
  | none => .non
  | some i => .int i
theorem ints_of {ns : List Int} {i : Nat} {y : V} (h : (ns.map V.int)[i]? = some y) : ∃ z, ns[i]? = some z ∧ y = V.int z := by
  rw [List.getElem?_map] at h
  cases e : ns[i]? with
  | none => rw [e] at h; cases h
  | some z => rw [e] at h; exact ⟨z, rfl, (Option.some.inj h).symm⟩
theorem ints_at {ns : List Int} {i : Nat} (h : i < ns.length) : (ns.map V.int)[i]? = some (.int ns[i]) := by
  rw [List.getElem?_map, List.getElem?_eq_getElem h]; rfl
theorem take_more {α : Type} {l : List α} {i : Nat} {x : α} (h : l[i]? = some x) : l.take (i + 1) = l.take i ++ [x] := by
  rw [List.take_add_one, h]; rfl
end SM

namespace SM
open PySem L2
structure Ad where
  cMembers : Addr
  cBadCounts : Addr
  cSpeciesError : Addr
  cBadSpec : Addr
  aMW : Addr
  vLAB : Value
  vUNL : Value
  vRIG : Value
  vMOST : Value
structure Tx (K : PySem.W.Frag) (mg : Str → Option Value) (W : Ad) : Prop where
  n_isinstance : mg "isinstance" = none
  n_int : mg "int" = none
  n_bool : mg "bool" = none
  n_list : mg "list" = none
  n_len : mg "len" = none
  n_abs : mg "abs" = none
  n_any : mg "any" = none
  n_sum : mg "sum" = none
  n_range : mg "range" = none
  n_max : mg "max" = none
  n_min : mg "min" = none
  n_ValueError : mg "ValueError" = none
  m_comb : mg "comb" = some (.builtin "math.comb")
  m_factorial : mg "factorial" = some (.builtin "math.factorial")
  m_gcd : mg "gcd" = some (.builtin "math.gcd")
  g_LABELLED : mg "LABELLED" = some W.vLAB
  r_LABELLED : RelV (.str "labelled") W.vLAB
  g_UNLABELLED : mg "UNLABELLED" = some W.vUNL
  r_UNLABELLED : RelV (.str "unlabelled") W.vUNL
  g_RIGID : mg "RIGID" = some W.vRIG
  r_RIGID : RelV (.str "rigid") W.vRIG
  g_MOST_ITEMS : mg "MOST_ITEMS" = some W.vMOST
  r_MOST_ITEMS : RelV (.int 61) W.vMOST
  g_MEMBER_WORDS : mg "MEMBER_WORDS" = some (.ref W.aMW)
  r_MEMBER_WORDS : RelV (.ref W.aMW) (.ref W.aMW)
  s_MW : ∀ H, SqT K H W.aMW [.str "row", .str "set", .str "ring"]
  e_BadCounts : Exc K mg "BadCounts" W.cBadCounts
  g_Members : mg "Members" = some (.ref W.cMembers)
  cl_Members : Cls K W.cMembers
  f_word : NoAttr K W.cMembers "word"
  f_most : NoAttr K W.cMembers "most"
  f_counts : NoAttr K W.cMembers "counts"
  f_mode : NoAttr K W.cMembers "mode"
  f_table : NoAttr K W.cMembers "table"
section
variable {P : Program} {w : World} {K : PySem.W.Frag} {mg : Str → Option Value} {base : Heap} {W : Ad}
/-! ### is_whole -/
def spWhole : Sp := fun vs H Q _ => ∃ x, vs = [x] ∧ ((∃ i, x = .int i ∧ Q (.bl true) H) ∨ (∃ b, x = .bl b ∧ Q (.bl false) H))
theorem ok_is_whole (T : Tx K mg W) (D : Df K mg "is_whole" s_is_whole ["value"]) : Cal P w K mg base CX0 1 "is_whole" ["value"] spWhole := by
  obtain ⟨f, fd, g, F, b⟩ := D
  refine ⟨f, fd, g, F.kp, b, F.ok sc_is_whole (fun vs H Q E h => ?_) (fun cdv A outer s H vs Q E hr h => ?_)⟩
  · obtain ⟨x, rfl, _⟩ := h
    rfl
  · obtain ⟨x, rfl, h⟩ := h
    refine ⟨_, (pss_one (ps_ret (pe_and (pe_callB call_isi (by rfl) T.n_isinstance (by decide +kernel) (pa_cons (pv 0) (pa_cons (pe_bltn (v := .ty "int") (by rfl) T.n_int (by decide +kernel) rfl) pa_nil))) (pe_one (pe_not (pe_callB call_isi (by rfl) T.n_isinstance (by decide +kernel) (pa_cons (pv 0) (pa_cons (pe_bltn (v := .ty "bool") (by rfl) T.n_bool (by decide +kernel) rfl) pa_nil)))))))), ?_⟩
    rcases h with ⟨i, rfl, q⟩ | ⟨c, rfl, q⟩
    · refine ⟨_, rfl, _, _, _, _, true, rfl, .ty "int", .base (.int i), kit_ty (by decide +kernel), _, rfl, iteT ?_⟩
      refine ⟨_, rfl, _, _, _, _, false, rfl, .ty "bool", .base (.int i), kit_ty (by decide +kernel), _, rfl, ?_⟩
      exact q
    · refine ⟨_, rfl, _, _, _, _, true, rfl, .ty "int", .base (.bl c), kit_ty (by decide +kernel), _, rfl, iteT ?_⟩
      refine ⟨_, rfl, _, _, _, _, true, rfl, .ty "bool", .base (.bl c), kit_ty (by decide +kernel), _, rfl, ?_⟩
      exact q
/-! ### are_bounds -/
def lowB (w : Str) : Int := if w = "ring" then 1 else 0
def upB (l : Int) : Option Int → Bool
  | none => true
  | some m => decide (l ≤ m)
def areB (w : Str) (l : Int) (m : Option Int) : Bool := decide (lowB w ≤ l) && upB l m
theorem areB_low {w : Str} {l : Int} {m : Option Int} (h : l < lowB w) : areB w l m = false := by
  unfold areB
  rw [decide_eq_false (by omega), Bool.false_and]
theorem areB_up {w : Str} {l : Int} {m : Option Int} (h : ¬ l < lowB w) : areB w l m = upB l m := by
  unfold areB
  rw [decide_eq_true (by omega), Bool.true_and]
def spBounds : Sp := fun vs H Q _ => ∃ (w : Str) (l : Int) (m : Option Int), vs = [.str w, .int l, oV m] ∧ Q (.bl (areB w l m)) H
theorem ok_are_bounds (T : Tx K mg W) (D : Df K mg "are_bounds" s_are_bounds ["word", "least", "most"]) (C1 : Cal P w K mg base CX0 1 "is_whole" ["value"] spWhole) :
    Cal P w K mg base CX0 2 "are_bounds" ["word", "least", "most"] spBounds := by
  obtain ⟨f, fd, g, F, b⟩ := D
  obtain ⟨f1, fd1, g_is_whole, k_is_whole, b_is_whole, G_is_whole⟩ := C1.ex
  refine ⟨f, fd, g, F.kp, b, F.ok sc_are_bounds (fun vs H Q E h => ?_) (fun cdv A outer s H vs Q E hr h => ?_)⟩
  · obtain ⟨w, l, m, rfl, _⟩ := h
    rfl
  · obtain ⟨wd, l, m, rfl, q⟩ := h
    refine ⟨_, (pss_cons (ps_set (i := 3) sc_are_bounds.nd rfl (.inl rfl) (pe_ifExp (pt_cmpR op_eq (pv 0) pe_str (nomark _)) pe_int pe_int))
  (pss_cons (ps_if (PW.pt (pw_or (pt_not (pt_val (pe_call G_is_whole (hr.mono (by decide)) (by rfl) g_is_whole k_is_whole b_is_whole .nil pass0 (pa_cons (pv 1) pa_nil)))) (pw_or1 (pt_cmpR op_lt (pv 1) (pv 3) (nomark _))))) (
    (pss_one (ps_ret pe_bl))) (pss_nil))
  (pss_one (ps_ret (pe_or (pe_cmp (pc_isN (pv 2)) rfl) (pe_one (pe_and (pe_call G_is_whole (hr.mono (by decide)) (by rfl) g_is_whole k_is_whole b_is_whole .nil pass0 (pa_cons (pv 2) pa_nil)) (pe_one (pe_cmpR op_ge (pv 2) (pv 1) (nomark _)))))))))), ?_⟩
    refine ⟨_, rfl, rfl, _, rfl, ?_⟩
    have step : ∀ lo : Int, lo = lowB wd → ∀ σ : St, σ = [some (.str wd), some (.int l), some (oV m), some (.int lo)] → 
      (tIfS (tOr (tNot (tB (tCall spWhole [] E0 (tCons (tVar 1) tNil)))) (tTest (tOp (rI0 fun i j => .bl (decide (i < j))) (tVar 1) (tVar 3)))) (tRet (tC (.bl false))) tNext)
        { nx := (tRet (tOrV (tIsN (tVar 2)) (tAndV (tCall spWhole [] E0 (tCons (tVar 2) tNil)) (tOp (rI0 fun i j => .bl (decide (j ≤ i))) (tVar 2) (tVar 1))))) { nx := fun _ H' => Q .non H', rt := Q }, rt := Q } σ H := by
      intro lo e σ es
      subst es e
      refine ⟨_, rfl, _, rfl, .inl ⟨l, rfl, _, rfl, iteF ?_⟩⟩
      refine ⟨_, rfl, _, rfl, _, _, rfl, rfl, _, rfl, ite2 (fun c => ?_) (fun c => ?_)⟩
      · have c' := of_decide_eq_true c
        have e := areB_low (m := m) c'
        rw [e] at q
        exact q
      · have c' : ¬ l < lowB wd := fun z => c (decide_eq_true z)
        have e1 := areB_up (m := m) c'
        rw [e1] at q
        cases m with
        | none => exact ⟨_, rfl, _, rfl, iteT q⟩
        | some m =>
          refine ⟨_, rfl, false, rfl, iteF ?_⟩
          exact ⟨_, rfl, _, rfl, .inl ⟨m, rfl, true, rfl, iteT ⟨_, rfl, _, rfl, _, _, rfl, rfl, q⟩⟩⟩
    refine ite2 (fun c => ?_) (fun c => ?_)
    · have c' : V.str wd = V.str "ring" := of_decide_eq_true c
      exact step 1 (by unfold lowB; rw [if_pos (V.str.inj c')]) _ rfl
    · have c' : ¬ wd = "ring" := fun z => c (decide_eq_true (by rw [z]))
      exact step 0 (by unfold lowB; rw [if_neg c']) _ rfl
/-! ### more_than_one, mode_of -/
def moreB : Option Int → Bool
  | none => true
  | some m => decide (1 < m)
def spMore : Sp := fun vs H Q _ => ∃ (m : Option Int), vs = [oV m] ∧ Q (.bl (moreB m)) H
theorem ok_more (T : Tx K mg W) (D : Df K mg "more_than_one" s_more_than_one ["most"]) : Cal P w K mg base CX0 1 "more_than_one" ["most"] spMore := by
  obtain ⟨f, fd, g, F, b⟩ := D
  refine ⟨f, fd, g, F.kp, b, F.ok sc_more_than_one (fun vs H Q E h => ?_) (fun cdv A outer s H vs Q E hr h => ?_)⟩
  · obtain ⟨m, rfl, _⟩ := h
    rfl
  · obtain ⟨m, rfl, q⟩ := h
    refine ⟨_, (pss_one (ps_ret (pe_or (pe_cmp (pc_isN (pv 0)) rfl) (pe_one (pe_cmpR op_gt (pv 0) pe_int (nomark _)))))), ?_⟩
    cases m with
    | none => exact ⟨_, rfl, true, rfl, iteT q⟩
    | some m => exact ⟨_, rfl, false, rfl, iteF ⟨_, rfl, _, _, rfl, rfl, q⟩⟩
def modeS (b : Bool) : Str := if b then "labelled" else "unlabelled"
def spMode : Sp := fun vs H Q _ => ∃ (b : Bool), vs = [.bl b] ∧ Q (.str (modeS b)) H
theorem ok_mode (T : Tx K mg W) (D : Df K mg "mode_of" s_mode_of ["labelled"]) : Cal P w K mg base CX0 1 "mode_of" ["labelled"] spMode := by
  obtain ⟨f, fd, g, F, b⟩ := D
  refine ⟨f, fd, g, F.kp, b, F.ok sc_mode_of (fun vs H Q E h => ?_) (fun cdv A outer s H vs Q E hr h => ?_)⟩
  · obtain ⟨m, rfl, _⟩ := h
    rfl
  · obtain ⟨m, rfl, q⟩ := h
    refine ⟨_, (pss_one (ps_ret (pe_ifExp (pt_val (pv 0)) (pe_glob (by rfl) T.g_LABELLED T.r_LABELLED) (pe_glob (by rfl) T.g_UNLABELLED T.r_UNLABELLED)))), ?_⟩
    cases m with
    | true => exact ⟨_, rfl, true, rfl, iteT q⟩
    | false => exact ⟨_, rfl, false, rfl, iteF q⟩
end
end SM

namespace SM
open PySem L2
section
variable {P : Program} {w : World} {K : PySem.W.Frag} {mg : Str → Option Value} {base : Heap} {W : Ad}
/-! ### check_counts -/
/-- an int or a bool -/
def IB (x : V) : Prop := (∃ i, x = .int i) ∨ (∃ b, x = .bl b)
def okItem : V → Bool
  | .int i => decide (0 ≤ i)
  | _ => false
def okCounts (xs : List V) : Bool := decide (1 ≤ xs.length) && (decide (xs.length ≤ 61) && xs.all okItem)
def spCheck (W : Ad) : Sp := fun vs H Q E => ∃ (a : Addr) (xs : List V), vs = [.ref a] ∧ H a = some (.lst xs) ∧ (∀ x ∈ xs, IB x) ∧ xs.length ≤ 1000 ∧
  (okCounts xs = true → ∀ H', Same H H' → Q .non H') ∧ (okCounts xs = false → ∀ H', Same H H' → E (.ref W.cBadCounts) none H')
theorem any_take {α : Type} {f : α → Bool} {g : V → Bool} : True := trivial
theorem ok_check (T : Tx K mg W) (D : Df K mg "check_counts" s_check_counts ["counts"]) (C1 : Cal P w K mg base CX0 1 "is_whole" ["value"] spWhole) :
    Cal P w K mg base (L2.CX P w) 2 "check_counts" ["counts"] (spCheck W) := by
  obtain ⟨f, fd, g, F, b⟩ := D
  obtain ⟨f1, fd1, g_is_whole, k_is_whole, b_is_whole, G_is_whole⟩ := C1.ex
  refine ⟨f, fd, g, F.kp, b, F.okX sc_check_counts (fun vs H Q E h => ?_) (fun cdv A outer s H vs Q E hr h => ?_)⟩
  · obtain ⟨a, xs, rfl, _⟩ := h
    rfl
  · obtain ⟨a, xs, rfl, hA, hib, hlen, kT, kF⟩ := h
    refine ⟨_, (pss_cons (ps_if (PW.pt (pw_or (pt_not (pt_val (pe_callB call_isi (by rfl) T.n_isinstance (by decide +kernel) (pa_cons (pv 0) (pa_cons (pe_bltn (v := .ty "list") (by rfl) T.n_list (by decide +kernel) rfl) pa_nil))))) (pw_or1 (pt_not (pt_chain op_le op_le pe_int (pe_callB call_len_seq (by rfl) T.n_len (by decide +kernel) (pa_cons (pv 0) pa_nil)) (pe_glob (by rfl) T.g_MOST_ITEMS T.r_MOST_ITEMS)))))) (
    (pss_one (ps_raise rfl (takes_of rfl rfl rfl rfl) (pmk_own PySem.F.excBase_ValueError T.e_BadCounts.x T.e_BadCounts.g T.e_BadCounts.k (raises_own T.e_BadCounts.b T.e_BadCounts.t) rfl)))) (pss_nil))
  (pss_one (ps_if (pt_val (pe_callB (cr_any rfl) (by rfl) T.n_any (by decide +kernel) (pa_cons (pe_lc (own := [("item", 1)]) rfl sc_check_counts.nd (pi_list (pv 0)) (blkOk_by (own := [("item", 1)]) (N := ["counts", "item"]) (sc := defScope s_check_counts) (by decide +kernel)) (fun _ _ _ _ _ => (pg_name (i := 1) sc_check_counts.nd rfl (.inl rfl))) (fun _ _ _ _ _ => pts_nil) (fun _ _ _ _ _ => (pe_or (pe_not (pe_call G_is_whole (hr.mono (by decide)) (by rfl) g_is_whole k_is_whole b_is_whole .nil pass0 (pa_cons (pv 1) pa_nil))) (pe_one (pe_cmpR op_lt (pv 1) pe_int (nomark _)))))) pa_nil))) (
    (pss_one (ps_raise rfl (takes_of rfl rfl rfl rfl) (pmk_own PySem.F.excBase_ValueError T.e_BadCounts.x T.e_BadCounts.g T.e_BadCounts.k (raises_own T.e_BadCounts.b T.e_BadCounts.t) rfl)))) (pss_nil)))), ?_⟩
    refine ⟨_, rfl, _, _, _, _, true, rfl, .ty "list", .base (.lst hA), kit_ty (by decide +kernel), _, rfl, iteF ?_⟩
    refine ⟨_, rfl, a, xs, rfl, .inl (sq_of hA), _, _, rfl, rfl, _, rfl, ?_⟩
    refine ite2 (fun c1 => ?_) (fun c1 => ?_)
    · refine ⟨_, _, rfl, rfl, _, rfl, ite2 (fun c2 => ?_) (fun c2 => ?_)⟩
      · -- too long
        refine kF ?_ H (.refl H)
        unfold okCounts
        have c2' : ¬ ((xs.length : Int) ≤ 61) := by simpa using c2
        rw [decide_eq_false (p := xs.length ≤ 61) (by omega)]
        simp
      · have c1' : (1 : Int) ≤ xs.length := of_decide_eq_true c1
        have c2' : ((xs.length : Int) ≤ 61) := by simpa using c2
        have e0 : okCounts xs = xs.all okItem := by
          unfold okCounts
          rw [decide_eq_true (p := 1 ≤ xs.length) (by omega), decide_eq_true (p := xs.length ≤ 61) (by omega)]
          simp
        refine ⟨_, rfl, a, rfl, ⟨_, sq_of hA⟩, fun Dn hD => lc_list (K := K) (a := a) (xs := xs) (fun i H' => Same H H' ∧ H' Dn = some (.lst ((xs.take i).map fun x => V.bl (!okItem x)))) ⟨same_upd hD, upd_same⟩ (fun i H' _ h => sq_of (h.1 _ _ hA)) ?_ ?_⟩
        · rintro i x H' hi ⟨sm, hd⟩
          have hm := take_more hi
          have hx : IB x := hib x (List.mem_of_getElem? hi)
          have fin : ∀ b, b = !okItem x → ∃ acc, H' Dn = some (.lst acc) ∧ acc.length < sizeLine ∧ (Same H (upd H' Dn (.lst (acc ++ [.bl b]))) ∧ (upd H' Dn (.lst (acc ++ [.bl b]))) Dn = some (.lst ((xs.take (i + 1)).map fun x => V.bl (!okItem x)))) := by
            intro b eb
            refine ⟨_, hd, szl _ ?_, same_upd' sm hD, ?_⟩
            · rw [List.length_map, List.length_take]; omega
            · rw [upd_same, hm, List.map_append, eb]; rfl
          refine ⟨rfl, ?_⟩
          rw [tYes, if_pos rfl]
          rcases hx with ⟨z, rfl⟩ | ⟨z, rfl⟩
          · refine ⟨_, rfl, _, rfl, .inl ⟨z, rfl, true, rfl, false, rfl, iteF ?_⟩⟩
            refine ⟨_, rfl, _, _, rfl, rfl, fin _ ?_⟩
            show decide (z < 0) = !decide (0 ≤ z)
            by_cases h : z < 0
            · rw [decide_eq_true h, decide_eq_false (by omega)]; rfl
            · rw [decide_eq_false h, decide_eq_true (by omega)]; rfl
          · exact ⟨_, rfl, _, rfl, .inr ⟨z, rfl, false, rfl, true, rfl, iteT (fin _ rfl)⟩⟩
        · rintro H' ⟨sm, hd⟩
          rw [List.take_length] at hd
          refine ⟨Dn, xs.map fun x => !okItem x, rfl, sq_of (by rw [List.map_map]; exact hd), _, rfl, ?_⟩
          have ea : (List.any (xs.map fun x => !okItem x) id) = !xs.all okItem := by
            induction xs with
            | nil => rfl
            | cons x r ih => simp [List.not_all_eq_any_not]
          rw [ea]
          cases h : xs.all okItem with
          | true => exact iteF (kT (e0.trans h) H' sm)
          | false => exact iteT (kF (e0.trans h) H' sm)
    · refine ⟨false, rfl, ?_⟩
      show (if true = true then _ else _)
      rw [if_pos rfl]
      refine kF ?_ H (.refl H)
      have c1' : ¬ (1 : Int) ≤ xs.length := fun z => c1 (decide_eq_true z)
      unfold okCounts
      rw [decide_eq_false (p := 1 ≤ xs.length) (by omega)]
      rfl
end
end SM

namespace SM
open PySem L2
/-! ### comprehensions over a range: what is made, nothing else changed -/
theorem wipe1 (σ : St) (j : Nat) (v : Option V) : wipe ((wipe σ [j]).set j v) [j] = wipe σ [j] := by
  show ((σ.set j none).set j v).set j none = σ.set j none
  rw [List.set_set, List.set_set]
theorem lc_rangeF {lo : Int} {n : Nat} {j : Nat} {tt : TT} {te : TE} {σ : St} {H1 : Hp} {D : Addr} {Qd : Hp → Prop} (c : Nat → Bool) (f : Nat → V) (hn : n ≤ 100000 - 1) (hD : H1 D = none)
    (ht : ∀ i, i < n → ∀ H, Same H1 H → ∀ R : Bool → Hp → Prop, (∀ H', Same H H' → R (c i) H') → tt ((wipe σ [j]).set j (some (.int (lo + i)))) H R)
    (he : ∀ i, i < n → c i = true → ∀ H, Same H1 H → ∀ R : VK, (∀ H', Same H H' → R (f i) H') → te ((wipe σ [j]).set j (some (.int (lo + i)))) H R)
    (hd : ∀ H, Same H1 H → H D = some (.lst (((List.range n).filter c).map f)) → Qd H) :
    ∃ W : Nat → Nat → Hp → Prop, (∃ m, W 0 m (upd H1 D (.lst []))) ∧ ∀ i m H, W i m H →
      ((Itr lo n).stop i H ∧ Qd H) ∨ ((Itr lo n).go i H ∧ ∃ Nx : Hp → Prop, (∀ H', Nx H' → ∃ m', m' < m ∧ W (i + 1) m' H') ∧ ∀ x H', (Itr lo n).yld i H x H' → gName j x (wipe σ [j]) H' fun σ2 H2 => wipe σ2 [j] = wipe σ [j] ∧ tt σ2 H2 fun b H3 =>
        if b = true then te σ2 H3 fun y H4 => ∃ acc, H4 D = some (.lst acc) ∧ acc.length < sizeLine ∧ Nx (upd H4 D (.lst (acc ++ [y]))) else Nx H3) := by
  refine lc_range (fun i H => Same H1 H ∧ H D = some (.lst (((List.range i).filter c).map f))) ⟨same_upd hD, upd_same⟩ ?_ (fun H h => hd H h.1 h.2)
  rintro i H hi ⟨sm, hd'⟩
  refine ⟨wipe1 σ j _, ?_⟩
  refine ht i hi H sm _ fun H' s' => ?_
  have hd1 := s' _ _ hd'
  have sm1 : Same H1 H' := sm.trans s'
  cases e : c i with
  | false =>
    refine iteF ?_
    refine ⟨sm1, ?_⟩
    rw [List.range_succ, List.filter_append, List.map_append]
    simp [e, hd1]
  | true =>
    refine iteT ?_
    refine he i hi e H' sm1 _ fun H2 s2 => ⟨_, s2 _ _ hd1, szl _ ?_, same_upd' (sm1.trans s2) hD, ?_⟩
    · rw [List.length_map]
      have := List.length_filter_le c (List.range i)
      rw [List.length_range] at this
      omega
    · rw [upd_same, List.range_succ, List.filter_append, List.map_append]
      simp [e]
theorem lc_rangeM {lo : Int} {n : Nat} {j : Nat} {te : TE} {σ : St} {H1 : Hp} {D : Addr} {Qd : Hp → Prop} (f : Nat → V) (hn : n ≤ 100000 - 1) (hD : H1 D = none)
    (he : ∀ i, i < n → ∀ H, Same H1 H → ∀ R : VK, (∀ H', Same H H' → R (f i) H') → te ((wipe σ [j]).set j (some (.int (lo + i)))) H R)
    (hd : ∀ H, Same H1 H → H D = some (.lst ((List.range n).map f)) → Qd H) :
    ∃ W : Nat → Nat → Hp → Prop, (∃ m, W 0 m (upd H1 D (.lst []))) ∧ ∀ i m H, W i m H →
      ((Itr lo n).stop i H ∧ Qd H) ∨ ((Itr lo n).go i H ∧ ∃ Nx : Hp → Prop, (∀ H', Nx H' → ∃ m', m' < m ∧ W (i + 1) m' H') ∧ ∀ x H', (Itr lo n).yld i H x H' → gName j x (wipe σ [j]) H' fun σ2 H2 => wipe σ2 [j] = wipe σ [j] ∧ tYes σ2 H2 fun b H3 =>
        if b = true then te σ2 H3 fun y H4 => ∃ acc, H4 D = some (.lst acc) ∧ acc.length < sizeLine ∧ Nx (upd H4 D (.lst (acc ++ [y]))) else Nx H3) :=
  lc_rangeF (tt := tYes) (fun _ => true) f hn hD (fun i _ H _ R k => k H (.refl H)) (fun i hi _ => he i hi) (fun H s h => hd H s (by rw [h, List.filter_eq_self.mpr (fun _ _ => rfl)]))
section
variable {P : Program} {w : World} {K : PySem.W.Frag} {mg : Str → Option Value} {base : Heap} {W : Ad}
/-! ### divisors, totient -/
def divs (n : Nat) : List Int := ((List.range n).filter fun i => decide (n % (i + 1) = 0)).map fun i : Nat => ((i : Int) + 1)
def spDivs : Sp := fun vs H Q _ => ∃ n : Nat, vs = [.int n] ∧ n ≤ 10000 ∧ ∀ p H', Same H H' → H p = none → H' p = some (.lst ((divs n).map V.int)) → Q (.ref p) H'
theorem emod_nat (n i : Nat) : decide (V.int ((n : Int) % (1 + (i : Int))) = V.int 0) = decide (n % (i + 1) = 0) := by
  have e : ((n : Int) % (1 + (i : Int))) = ((n % (i + 1) : Nat) : Int) := by
    rw [show (1 + (i : Int)) = ((i + 1 : Nat) : Int) by omega]; rfl
  rw [e]
  by_cases h : n % (i + 1) = 0
  · rw [h]; simp
  · rw [decide_eq_false h]
    refine decide_eq_false fun z => h ?_
    have := V.int.inj z
    omega
theorem ok_divisors (T : Tx K mg W) (D : Df K mg "divisors" s_divisors ["number"]) : Cal P w K mg base CX0 1 "divisors" ["number"] spDivs := by
  obtain ⟨f, fd, g, F, b⟩ := D
  refine ⟨f, fd, g, F.kp, b, F.ok sc_divisors (fun vs H Q E h => ?_) (fun cdv A outer s H vs Q E hr h => ?_)⟩
  · obtain ⟨n, rfl, _⟩ := h
    rfl
  · obtain ⟨n, rfl, hn, q⟩ := h
    refine ⟨_, (pss_one (ps_ret (pe_lc (own := [("part", 1)]) rfl sc_divisors.nd (pi_range2 (by rfl) T.n_range (pa_cons pe_int (pa_cons (pe_op op_add (pv 0) pe_int) pa_nil))) (blkOk_by (own := [("part", 1)]) (N := ["number", "part"]) (sc := defScope s_divisors) (by decide +kernel)) (fun _ _ _ _ _ => (pg_name (i := 1) sc_divisors.nd rfl (.inl rfl))) (fun _ _ _ _ _ => pts_one (pt_cmpR op_eq (pe_op op_mod (pv 0) (pv 1)) pe_int (nomark _))) (fun _ _ _ _ _ => (pv 1))))), ?_⟩
    refine ⟨_, rfl, _, _, rfl, rfl, _, _, rfl, ⟨by omega, by omega, by omega, by omega⟩, fun Dn hD => ?_⟩
    have en : ((n : Int) + 1 - 1).toNat = n := by omega
    rw [en]
    refine lc_rangeF (lo := 1) (j := 1) (fun i => decide (n % (i + 1) = 0)) (fun i => V.int ((i : Int) + 1)) (by omega) hD (fun i hi H1 s1 R k => ?_) (fun i hi _ H1 s1 R k => ?_) (fun H1 s1 h1 => ?_)
    · refine ⟨_, rfl, _, rfl, _, _, rfl, rfl, (by show (0 : Int) < 1 + i; omega), rfl, _, rfl, ?_⟩
      have := k H1 (.refl H1)
      rw [← emod_nat] at this
      exact this
    · refine ⟨_, rfl, ?_⟩
      have := k H1 (.refl H1)
      rw [Int.add_comm] at this
      exact this
    · refine q Dn H1 s1 hD ?_
      rw [h1]
      unfold divs
      rw [List.map_map]
      rfl
def phi (n : Nat) : Int := (((List.range n).filter fun i => (Nat.gcd (i + 1) n == 1)).length : Int)
def spPhi : Sp := fun vs H Q _ => ∃ n : Nat, vs = [.int n] ∧ n ≤ 10000 ∧ ∀ H', Same H H' → Q (.int (phi n)) H'
theorem ok_totient (T : Tx K mg W) (D : Df K mg "totient" s_totient ["number"]) : Cal P w K mg base CX0 1 "totient" ["number"] spPhi := by
  obtain ⟨f, fd, g, F, b⟩ := D
  refine ⟨f, fd, g, F.kp, b, F.ok sc_totient (fun vs H Q E h => ?_) (fun cdv A outer s H vs Q E hr h => ?_)⟩
  · obtain ⟨n, rfl, _⟩ := h
    rfl
  · obtain ⟨n, rfl, hn, q⟩ := h
    refine ⟨_, (pss_one (ps_ret (pe_callB call_len_seq (by rfl) T.n_len (by decide +kernel) (pa_cons (pe_lc (own := [("part", 1)]) rfl sc_totient.nd (pi_range2 (by rfl) T.n_range (pa_cons pe_int (pa_cons (pe_op op_add (pv 0) pe_int) pa_nil))) (blkOk_by (own := [("part", 1)]) (N := ["number", "part"]) (sc := defScope s_totient) (by decide +kernel)) (fun _ _ _ _ _ => (pg_name (i := 1) sc_totient.nd rfl (.inl rfl))) (fun _ _ _ _ _ => pts_one (pt_cmpR op_eq (pe_callBfun cr_gcd (by rfl) T.m_gcd (pa_cons (pv 1) (pa_cons (pv 0) pa_nil))) pe_int (nomark _))) (fun _ _ _ _ _ => (pv 1))) pa_nil)))), ?_⟩
    refine ⟨_, rfl, _, _, rfl, rfl, _, _, rfl, ⟨by omega, by omega, by omega, by omega⟩, fun Dn hD => ?_⟩
    have en : ((n : Int) + 1 - 1).toNat = n := by omega
    rw [en]
    refine lc_rangeF (lo := 1) (j := 1) (fun i => (Nat.gcd (i + 1) n == 1)) (fun i => V.int ((i : Int) + 1)) (by omega) hD (fun i hi H1 s1 R k => ?_) (fun i hi _ H1 s1 R k => ?_) (fun H1 s1 h1 => ?_)
    · refine ⟨_, rfl, _, rfl, _, _, rfl, rfl, _, rfl, ?_⟩
      have := k H1 (.refl H1)
      have e : decide (V.int ((Nat.gcd (Int.natAbs (1 + (i : Int))) (Int.natAbs (n : Int)) : Nat) : Int) = V.int 1) = (Nat.gcd (i + 1) n == 1) := by
        rw [show Int.natAbs (1 + (i : Int)) = i + 1 by omega, Int.natAbs_natCast]
        by_cases h : Nat.gcd (i + 1) n = 1
        · rw [h]; rfl
        · rw [beq_eq_false_iff_ne.mpr h]
          refine decide_eq_false fun z => h ?_
          have := V.int.inj z
          omega
      rw [← e] at this
      exact this
    · refine ⟨_, rfl, ?_⟩
      have := k H1 (.refl H1)
      rw [Int.add_comm] at this
      exact this
    · refine ⟨Dn, _, rfl, .inl (sq_of h1), ?_⟩
      rw [List.length_map]
      exact q H1 s1
end
end SM

namespace SM
open PySem L2
/-! ### the mirror of the table -/
def shr (md : Str) (n i : Int) : Int := if md = "labelled" then PySem.W.mcComb n i else 1
def tab (md : Str) (cs : List Int) : Nat → Nat → Int
  | 0, n => if n = 0 then 1 else 0
  | 1, n => cs.getD n 0
  | m + 2, n => ((List.range (n - (m + 1))).map fun i : Nat => shr md n ((i : Int) + 1) * cs.getD (i + 1) 0 * tab md cs (m + 1) (n - (i + 1))).sum
def rowT (md : Str) (cs : List Int) (m k : Nat) : List Int := (List.range k).map fun n => tab md cs m n
theorem rowT_get {md : Str} {cs : List Int} {m k n : Nat} (h : n < k) : (rowT md cs m k)[n]? = some (tab md cs m n) := by
  unfold rowT
  rw [List.getElem?_map, List.getElem?_range h]; rfl
theorem rowT_succ (md : Str) (cs : List Int) (m k : Nat) : rowT md cs m (k + 1) = rowT md cs m k ++ [tab md cs m k] := by
  unfold rowT
  rw [List.range_succ, List.map_append]; rfl
theorem rowT_len (md : Str) (cs : List Int) (m k : Nat) : (rowT md cs m k).length = k := by
  unfold rowT; rw [List.length_map, List.length_range]
theorem tab_small {md : Str} {cs : List Int} {m n : Nat} (h : n < m + 2) : tab md cs (m + 2) n = 0 := by
  rw [tab, show n - (m + 1) = 0 by omega]; rfl
theorem rowT_zero {md : Str} {cs : List Int} {m k : Nat} (h : k ≤ m + 2) : rowT md cs (m + 2) k = List.replicate k 0 := by
  unfold rowT
  rw [List.eq_replicate_iff]
  refine ⟨by rw [List.length_map, List.length_range], fun x hx => ?_⟩
  obtain ⟨n, hn, rfl⟩ := List.mem_map.mp hx
  have := List.mem_range.mp hn
  exact tab_small (by omega)
/-- the numbers of first members -/
def shl (md : Str) (cs : List Int) (k : Nat) : List Int := 0 :: (List.range (k - 1)).map fun i : Nat => shr md k ((i : Int) + 1) * cs.getD (i + 1) 0
theorem shl_get {md : Str} {cs : List Int} {k i : Nat} (h : i + 1 < k) : (shl md cs k)[i + 1]? = some (shr md k ((i : Int) + 1) * cs.getD (i + 1) 0) := by
  unfold shl
  rw [List.getElem?_cons_succ, List.getElem?_map, List.getElem?_range (by omega)]; rfl
/-- small counts -/
def Smc (cs : List Int) : Prop := ∀ x ∈ cs, 0 ≤ x ∧ x < 16
theorem Smc.get {cs : List Int} (h : Smc cs) (i : Nat) : 0 ≤ cs.getD i 0 ∧ cs.getD i 0 < 16 := by
  rw [List.getD_eq_getElem?_getD]
  cases e : cs[i]? with
  | none => exact ⟨Int.le_refl 0, by decide⟩
  | some x => exact h x (List.mem_of_getElem? e)
def combOk : Bool := (List.range 62).all fun n => (List.range (n + 1)).all fun i => decide (0 ≤ PySem.W.mcComb n i) && decide (PySem.W.mcComb n i < 1152921504606846976)
theorem combOk_t : combOk = true := by decide +kernel
theorem shr_ok {md : Str} {n i : Nat} (hn : n ≤ 61) (hi : i ≤ n) : 0 ≤ shr md n i ∧ shr md n i < 1152921504606846976 := by
  unfold shr
  split
  · have h := combOk_t
    unfold combOk at h
    rw [List.all_eq_true] at h
    have h1 := h n (List.mem_range.mpr (by omega))
    rw [List.all_eq_true] at h1
    have h2 := h1 i (List.mem_range.mpr (by omega))
    rw [Bool.and_eq_true, decide_eq_true_eq, decide_eq_true_eq] at h2
    exact h2
  · exact ⟨by decide, by decide⟩
theorem shr_mul {md : Str} {n i : Nat} {cs : List Int} (hn : n ≤ 61) (hi : i ≤ n) (h : Smc cs) : -(2 ^ 64) < shr md n i * cs.getD i 0 ∧ shr md n i * cs.getD i 0 < 2 ^ 64 := by
  obtain ⟨a, b⟩ := shr_ok (md := md) hn hi
  obtain ⟨c, d⟩ := h.get i
  have h0 : 0 ≤ shr md n i * cs.getD i 0 := Int.mul_nonneg a c
  have h1 : shr md n i * cs.getD i 0 ≤ 1152921504606846975 * 15 := Int.mul_le_mul (by omega) (by omega) c (by decide)
  omega
/-! ### the object -/
def flds (w : Str) (m : Option Int) (c : Addr) (md : Str) (t : Addr) : List (Str × V) :=
  putF "table" (.ref t) (putF "mode" (.str md) (putF "counts" (.ref c) (putF "most" (oV m) (putF "word" (.str w) []))))
section
variable {w md : Str} {m : Option Int} {c t : Addr}
theorem flds_lookup (x : Str) : (flds w m c md t).lookup x = if x = "table" then some (.ref t) else if x = "mode" then some (.str md) else if x = "counts" then some (.ref c) else if x = "most" then some (oV m) else if x = "word" then some (.str w) else none := by
  unfold flds
  rw [lookup_putF, lookup_putF, lookup_putF, lookup_putF, lookup_putF]
  rfl
theorem l_word : (flds w m c md t).lookup ("word" : Str) = some (.str w) := by
  rw [flds_lookup, if_neg (by decide +kernel), if_neg (by decide +kernel), if_neg (by decide +kernel), if_neg (by decide +kernel), if_pos rfl]
theorem l_most : (flds w m c md t).lookup ("most" : Str) = some (oV m) := by
  rw [flds_lookup, if_neg (by decide +kernel), if_neg (by decide +kernel), if_neg (by decide +kernel), if_pos rfl]
theorem l_counts : (flds w m c md t).lookup ("counts" : Str) = some (.ref c) := by
  rw [flds_lookup, if_neg (by decide +kernel), if_neg (by decide +kernel), if_pos rfl]
theorem l_mode : (flds w m c md t).lookup ("mode" : Str) = some (.str md) := by
  rw [flds_lookup, if_neg (by decide +kernel), if_pos rfl]
theorem l_table : (flds w m c md t).lookup ("table" : Str) = some (.ref t) := by
  rw [flds_lookup, if_pos rfl]
theorem l_no {x : Str} (h1 : ¬ x = "table") (h2 : ¬ x = "mode") (h3 : ¬ x = "counts") (h4 : ¬ x = "most") (h5 : ¬ x = "word") : (flds w m c md t).lookup x = none := by
  rw [flds_lookup, if_neg h1, if_neg h2, if_neg h3, if_neg h4, if_neg h5]
end
theorem nodup_at {α : Type} : ∀ {l : List α} {i j : Nat}, l.Nodup → (hi : i < l.length) → (hj : j < l.length) → l[i] = l[j] → i = j
  | [], _, _, _, hi, _, _ => absurd hi (Nat.not_lt_zero _)
  | x :: r, 0, 0, _, _, _, _ => rfl
  | x :: r, 0, j + 1, nd, _, hj, e => by
    have := (List.nodup_cons.mp nd).1
    simp only [List.getElem_cons_zero, List.getElem_cons_succ] at e
    exact absurd (e ▸ List.getElem_mem (by simpa using hj)) this
  | x :: r, i + 1, 0, nd, hi, _, e => by
    have := (List.nodup_cons.mp nd).1
    simp only [List.getElem_cons_zero, List.getElem_cons_succ] at e
    exact absurd (e ▸ List.getElem_mem (by simpa using hi)) this
  | x :: r, i + 1, j + 1, nd, hi, hj, e => by
    simp only [List.getElem_cons_succ] at e
    exact congrArg (· + 1) (nodup_at (List.nodup_cons.mp nd).2 (by simpa using hi) (by simpa using hj) e)
structure TabAt (C : Addr) (H0 H : Hp) (p dx t l0 c : Addr) (ls : List Addr) (r0 : List Int) (rs : List (List Int)) (w : Str) (m : Option Int) (md : Str) : Prop where
  sm : Same H0 H
  hp : H p = some (.ins C dx (flds w m c md t))
  ht : H t = some (.lst (.ref l0 :: .ref c :: ls.map V.ref))
  h0 : H l0 = some (.lst (r0.map V.int))
  hl : ls.length = rs.length
  hr : ∀ (j : Nat) (l : Addr) (r : List Int), ls[j]? = some l → rs[j]? = some r → H l = some (.lst (r.map V.int))
  nd : (p :: t :: l0 :: ls).Nodup
  fr : ∀ a ∈ p :: t :: l0 :: ls, H0 a = none
section
variable {C : Addr} {H0 H H' : Hp} {p dx t l0 c : Addr} {ls : List Addr} {r0 : List Int} {rs : List (List Int)} {w md : Str} {m : Option Int}
theorem TabAt.mono (S : TabAt C H0 H p dx t l0 c ls r0 rs w m md) (s : Same H H') : TabAt C H0 H' p dx t l0 c ls r0 rs w m md :=
  ⟨S.sm.trans s, s _ _ S.hp, s _ _ S.ht, s _ _ S.h0, S.hl, fun j l r a b => s _ _ (S.hr j l r a b), S.nd, S.fr⟩
theorem TabAt.app0 (S : TabAt C H0 H p dx t l0 c ls r0 rs w m md) (x : Int) : TabAt C H0 (upd H l0 (.lst (r0.map V.int ++ [.int x]))) p dx t l0 c ls (r0 ++ [x]) rs w m md := by
  have nd := S.nd
  simp only [List.nodup_cons, List.mem_cons, not_or] at nd
  obtain ⟨⟨n1, n2, n3⟩, ⟨n4, n5⟩, n6, n7⟩ := nd
  refine ⟨same_upd' S.sm (S.fr l0 (by simp)), by rw [upd_ne n2]; exact S.hp, by rw [upd_ne n4]; exact S.ht, by rw [upd_same, List.map_append]; rfl, S.hl, fun j l r a b => ?_, S.nd, S.fr⟩
  have : l ≠ l0 := fun e => n6 (e ▸ List.mem_of_getElem? a)
  rw [upd_ne this]
  exact S.hr j l r a b
theorem TabAt.appT (S : TabAt C H0 H p dx t l0 c ls r0 rs w m md) {n : Addr} {r : List Int} (hn : H n = some (.lst (r.map V.int))) (nn : n ∉ p :: t :: l0 :: ls) (h0n : H0 n = none) :
    TabAt C H0 (upd H t (.lst ((.ref l0 :: .ref c :: ls.map V.ref) ++ [.ref n]))) p dx t l0 c (ls ++ [n]) r0 (rs ++ [r]) w m md := by
  have nd := S.nd
  simp only [List.nodup_cons, List.mem_cons, not_or] at nd
  obtain ⟨⟨n1, n2, n3⟩, ⟨n4, n5⟩, n6, n7⟩ := nd
  simp only [List.mem_cons, not_or] at nn
  obtain ⟨m1, m2, m3, m4⟩ := nn
  refine ⟨same_upd' S.sm (S.fr t (by simp)), by rw [upd_ne n1]; exact S.hp, ?_, ?_, by rw [List.length_append, List.length_append, S.hl]; rfl, fun j l r' a b => ?_, ?_, ?_⟩
  · rw [upd_same, List.map_append]; rfl
  · rw [upd_ne (Ne.symm n4)]; exact S.h0
  · by_cases hj : j < ls.length
    · rw [List.getElem?_append_left hj] at a
      rw [List.getElem?_append_left (by rw [← S.hl]; exact hj)] at b
      have : l ≠ t := fun e => n5 (e ▸ List.mem_of_getElem? a)
      rw [upd_ne this]
      exact S.hr j l r' a b
    · have hj' : j = ls.length := by
        have := (List.getElem?_eq_some_iff.mp a).1
        rw [List.length_append] at this
        simp at this
        omega
      subst hj'
      rw [List.getElem?_append_right (Nat.le_refl _)] at a
      rw [S.hl, List.getElem?_append_right (Nat.le_refl _)] at b
      simp at a b
      subst a b
      rw [upd_ne m2]
      exact hn
  · simp only [List.nodup_cons, List.mem_cons, List.mem_append, List.mem_nil_iff, or_false, not_or]
    refine ⟨⟨n1, n2, n3, Ne.symm m1⟩, ⟨n4, n5, Ne.symm m2⟩, ⟨n6, Ne.symm m3⟩, ?_⟩
    rw [List.nodup_append]
    exact ⟨n7, by simp, fun x hx y hy e => by simp at hy; subst hy e; exact m4 hx⟩
  · intro a ha
    simp only [List.mem_cons, List.mem_append, List.mem_nil_iff, or_false] at ha
    rcases ha with h | h | h | h | h
    · exact S.fr a (by simp [h])
    · exact S.fr a (by simp [h])
    · exact S.fr a (by simp [h])
    · exact S.fr a (by simp [h])
    · rw [h]; exact h0n
theorem TabAt.appL (S : TabAt C H0 H p dx t l0 c ls r0 rs w m md) {j : Nat} {l : Addr} {r : List Int} (x : Int) (hl : ls[j]? = some l) (hr : rs[j]? = some r) :
    TabAt C H0 (upd H l (.lst (r.map V.int ++ [.int x]))) p dx t l0 c ls r0 (rs.set j (r ++ [x])) w m md := by
  have nd := S.nd
  simp only [List.nodup_cons, List.mem_cons, not_or] at nd
  obtain ⟨⟨n1, n2, n3⟩, ⟨n4, n5⟩, n6, n7⟩ := nd
  have lm := List.mem_of_getElem? hl
  refine ⟨same_upd' S.sm (S.fr l (by simp [lm])), by rw [upd_ne (show p ≠ l from fun e => n3 (by rw [e]; exact lm))]; exact S.hp, by rw [upd_ne (show t ≠ l from fun e => n5 (by rw [e]; exact lm))]; exact S.ht, by rw [upd_ne (show l0 ≠ l from fun e => n6 (by rw [e]; exact lm))]; exact S.h0, by rw [List.length_set]; exact S.hl, fun i l' r' a b => ?_, S.nd, S.fr⟩
  by_cases e : i = j
  · subst e
    rw [hl] at a
    cases a
    rw [List.getElem?_set_self (List.getElem?_eq_some_iff.mp hr).1] at b
    cases b
    rw [upd_same, List.map_append]; rfl
  · rw [List.getElem?_set_ne (Ne.symm e)] at b
    have : l' ≠ l := fun z => by
      subst z
      obtain ⟨h1, e1⟩ := List.getElem?_eq_some_iff.mp a
      obtain ⟨h2, e2⟩ := List.getElem?_eq_some_iff.mp hl
      exact e (nodup_at n7 h1 h2 (e1.trans e2.symm))
    rw [upd_ne this]
    exact S.hr i l' r' a b
end
end SM

namespace SM
open PySem L2
theorem atI_of {α : Type} {xs : List α} {z : Int} {j : Nat} {v : α} (e : z = (j : Int)) (h : xs[j]? = some v) : atI xs z = some v := by
  subst e; exact atI_nat h
theorem getD_at {cs : List Int} {j : Nat} (h : j < cs.length) : (cs.map V.int)[j]? = some (.int (cs.getD j 0)) := by
  rw [ints_at h, List.getD_eq_getElem?_getD, List.getElem?_eq_getElem h]; rfl
section
variable {P : Program} {w : World} {K : PySem.W.Frag} {mg : Str → Option Value} {base : Heap} {W : Ad}
/-! ### ways_to_share -/
def spShare : Sp := fun vs H Q _ => ∃ (a n : Int) (md : Str), vs = [.int a, .int n, .str md] ∧ 0 ≤ a ∧ 0 ≤ n ∧ n < 18000 ∧ Q (.int (shr md n a)) H
theorem ok_share (T : Tx K mg W) (D : Df K mg "ways_to_share" s_ways_to_share ["first", "size", "mode"]) : Cal P w K mg base CX0 1 "ways_to_share" ["first", "size", "mode"] spShare := by
  obtain ⟨f, fd, g, F, b⟩ := D
  refine ⟨f, fd, g, F.kp, b, F.ok sc_ways_to_share (fun vs H Q E h => ?_) (fun cdv A outer s H vs Q E hr h => ?_)⟩
  · obtain ⟨a, n, md, rfl, _⟩ := h
    rfl
  · obtain ⟨a, n, md, rfl, h0, h1, h2, q⟩ := h
    refine ⟨_, (pss_one (ps_ret (pe_ifExp (pt_cmpR op_eq (pv 2) (pe_glob (by rfl) T.g_LABELLED T.r_LABELLED) (nomark _)) (pe_callBfun cr_comb (by rfl) T.m_comb (pa_cons (pv 1) (pa_cons (pv 0) pa_nil))) pe_int))), ?_⟩
    refine ⟨_, rfl, rfl, _, rfl, ite2 (fun e => ?_) (fun e => ?_)⟩
    · have e' : md = "labelled" := V.str.inj (of_decide_eq_true e)
      refine ⟨_, rfl, _, rfl, _, _, rfl, h1, h0, h2, fun _ => ?_⟩
      unfold shr at q
      rw [if_pos e'] at q
      exact q
    · have e' : ¬ md = "labelled" := fun z => e (decide_eq_true (by rw [z]))
      unfold shr at q
      rw [if_neg e'] at q
      exact q
/-! ### Members.__init__ -/
def spInit (C : Addr) : Sp := fun vs H Q _ => ∃ (p dx c : Addr) (wd md : Str) (m : Option Int), vs = [.ref p, .str wd, oV m, .ref c, .str md] ∧ H p = some (.ins C dx []) ∧
  ∀ (t l0 : Addr) (H' : Hp), H t = none → H l0 = none → t ≠ l0 → H' p = some (.ins C dx (flds wd m c md t)) → H' t = some (.lst [.ref l0, .ref c]) → H' l0 = some (.lst []) → (∀ b o, H b = some o → b ≠ p → H' b = some o) → Q .non H'
theorem ok_init (T : Tx K mg W) (D : DfM K W.cMembers "__init__" "Members.__init__" s_Members_init ["self", "word", "most", "counts", "mode"]) :
    CalM P w K mg base CX0 1 W.cMembers "__init__" ["self", "word", "most", "counts", "mode"] (spInit W.cMembers) := by
  obtain ⟨f, fd, mt, F, b⟩ := D
  refine ⟨f, fd, mt, b, F.ok sc_Members_init (fun vs H Q E h => ?_) (fun cdv A outer s H vs Q E hr h => ?_)⟩
  · obtain ⟨p, dx, c, wd, md, m, rfl, _⟩ := h
    rfl
  · obtain ⟨p, dx, c, wd, md, m, rfl, hp, q⟩ := h
    refine ⟨_, (pss_cons (ps_fld (pv 0) (pv 1) rfl)
  (pss_cons (ps_fld (pv 0) (pv 2) rfl)
  (pss_cons (ps_fld (pv 0) (pv 3) rfl)
  (pss_cons (ps_fld (pv 0) (pv 4) rfl)
  (pss_one (ps_fld (pv 0) (pe_lst (pa_cons (pe_lst pa_nil) (pa_cons (pv 3) pa_nil))) rfl)))))), ?_⟩
    refine ⟨_, rfl, _, rfl, p, _, dx, _, rfl, hp, T.cl_Members, T.f_word, by decide, ?_⟩
    refine ⟨_, rfl, _, rfl, p, _, dx, _, rfl, upd_same, T.cl_Members, T.f_most, by show 1 < 1000; decide, ?_⟩
    refine ⟨_, rfl, _, rfl, p, _, dx, _, rfl, upd_same, T.cl_Members, T.f_counts, ?_, ?_⟩
    · have : ∀ (f g : Str) (v : V) (fs : List (Str × V)), (putF f v fs).length ≤ fs.length + 1 := by
        intro f g v fs
        induction fs with
        | nil => exact Nat.le_refl _
        | cons x r ih =>
          obtain ⟨a, b⟩ := x
          show (if a = f then (a, v) :: r else (a, b) :: putF f v r).length ≤ r.length + 1 + 1
          split
          · exact Nat.le_succ _
          · exact Nat.succ_le_succ ih
      have h1 := this "most" "most" (oV m) (putF "word" (.str wd) [])
      have h2 := this "word" "word" (.str wd) []
      simp only [List.length_nil] at h2
      omega
    refine ⟨_, rfl, _, rfl, p, _, dx, _, rfl, upd_same, T.cl_Members, T.f_mode, ?_, ?_⟩
    · have : ∀ (f : Str) (v : V) (fs : List (Str × V)), (putF f v fs).length ≤ fs.length + 1 := by
        intro f v fs
        induction fs with
        | nil => exact Nat.le_refl _
        | cons x r ih =>
          obtain ⟨a, b⟩ := x
          show (if a = f then (a, v) :: r else (a, b) :: putF f v r).length ≤ r.length + 1 + 1
          split
          · exact Nat.le_succ _
          · exact Nat.succ_le_succ ih
      have h1 := this "most" (oV m) (putF "word" (.str wd) [])
      have h2 := this "word" (.str wd) []
      have h3 := this "counts" (.ref c) (putF "most" (oV m) (putF "word" (.str wd) []))
      simp only [List.length_nil] at h2
      omega
    refine ⟨Nat.zero_le _, fun l0 n0 => ⟨_, rfl, sz _ (by show 2 ≤ 100000; decide), fun t nt => ?_⟩⟩
    rw [upd_upd, upd_upd, upd_upd] at n0 nt ⊢
    have hp0 : l0 ≠ p := fun e => by rw [e, upd_same] at n0; cases n0
    have ht0 : t ≠ l0 := fun e => by rw [e, upd_same] at nt; cases nt
    rw [upd_ne ht0] at nt
    have htp : t ≠ p := fun e => by rw [e, upd_same] at nt; cases nt
    rw [upd_ne htp] at nt
    rw [upd_ne hp0] at n0
    refine ⟨_, rfl, p, _, dx, _, rfl, by rw [upd_ne htp.symm, upd_ne hp0.symm]; exact upd_same, T.cl_Members, T.f_table, ?_, ?_⟩
    · have : ∀ (f : Str) (v : V) (fs : List (Str × V)), (putF f v fs).length ≤ fs.length + 1 := by
        intro f v fs
        induction fs with
        | nil => exact Nat.le_refl _
        | cons x r ih =>
          obtain ⟨a, b⟩ := x
          show (if a = f then (a, v) :: r else (a, b) :: putF f v r).length ≤ r.length + 1 + 1
          split
          · exact Nat.le_succ _
          · exact Nat.succ_le_succ ih
      have h1 := this "most" (oV m) (putF "word" (.str wd) [])
      have h2 := this "word" (.str wd) []
      have h3 := this "counts" (.ref c) (putF "most" (oV m) (putF "word" (.str wd) []))
      have h4 := this "mode" (.str md) (putF "counts" (.ref c) (putF "most" (oV m) (putF "word" (.str wd) [])))
      simp only [List.length_nil] at h2
      omega
    refine q t l0 _ nt n0 ht0 upd_same ?_ ?_ fun b o hb nb => ?_
    · rw [upd_ne htp, upd_same]
    · rw [upd_ne hp0, upd_ne ht0.symm, upd_same]
    · rw [upd_ne nb, upd_ne (ne_of_none hb nt), upd_ne (ne_of_none hb n0), upd_ne nb]
      exact hb
/-! ### Members.shared_counts -/
/-- the state of a Members object ahead of a call: what all its methods ask -/
def spShared (K : PySem.W.Frag) (C : Addr) : Sp := fun vs H Q _ => ∃ (H0 : Hp) (p dx t l0 c : Addr) (ls : List Addr) (r0 : List Int) (rs : List (List Int)) (wd md : Str) (m : Option Int) (cs : List Int) (k : Nat),
  vs = [.ref p, .int k] ∧ TabAt C H0 H p dx t l0 c ls r0 rs wd m md ∧ SqL K H c (cs.map V.int) ∧ Smc cs ∧ k ≤ 61 ∧ k ≤ cs.length ∧
  ∀ (q : Addr) (H' : Hp), Same H H' → H q = none → H' q = some (.lst ((shl md cs k).map V.int)) → Q (.ref q) H'
theorem ok_shared (T : Tx K mg W) (D : DfM K W.cMembers "shared_counts" "Members.shared_counts" s_Members_shared_counts ["self", "size"]) (C1 : Cal P w K mg base CX0 1 "ways_to_share" ["first", "size", "mode"] spShare) :
    CalM P w K mg base CX0 2 W.cMembers "shared_counts" ["self", "size"] (spShared K W.cMembers) := by
  obtain ⟨f, fd, mt, F, b⟩ := D
  obtain ⟨f1, fd1, g_ways_to_share, k_ways_to_share, b_ways_to_share, G_ways_to_share⟩ := C1.ex
  refine ⟨f, fd, mt, b, F.ok sc_Members_shared_counts (fun vs H Q E h => ?_) (fun cdv A outer s H vs Q E hr h => ?_)⟩
  · obtain ⟨_, _, _, _, _, _, _, _, _, _, _, _, _, _, rfl, _⟩ := h
    rfl
  · obtain ⟨H0, p, dx, t, l0, c, ls, r0, rs, wd, md, m, cs, k, rfl, S, hc, hsm, hk, hkl, q⟩ := h
    refine ⟨_, (pss_one (ps_ret (pe_op op_cat (pe_lst (pa_cons pe_int pa_nil)) (pe_lc (own := [("at", 2)]) rfl sc_Members_shared_counts.nd (pi_range2 (by rfl) T.n_range (pa_cons pe_int (pa_cons (pv 1) pa_nil))) (blkOk_by (own := [("at", 2)]) (N := ["self", "size", "at"]) (sc := defScope s_Members_shared_counts) (by decide +kernel)) (fun _ _ _ _ _ => (pg_name (i := 2) sc_Members_shared_counts.nd rfl (.inl rfl))) (fun _ _ _ _ _ => pts_nil) (fun _ _ _ _ _ => (pe_op op_mul (pe_call G_ways_to_share (hr.mono (by decide)) (by rfl) g_ways_to_share k_ways_to_share b_ways_to_share .nil pass0 (pa_cons (pv 2) (pa_cons (pv 1) (pa_cons (pe_fldB (K := K) rfl (pv 0) (by rfl)) pa_nil)))) (pe_ix (ix_listB (K := K) rfl) (pe_fldB (K := K) rfl (pv 0) (by rfl)) (pv 2) (fun _ _ => rfl)))))))), ?_⟩
    refine ⟨sz _ (by show 1 ≤ 100000; decide), fun l hl => ⟨_, rfl, _, _, rfl, ⟨by omega, by omega, by omega, by omega⟩, fun Dn hD => ?_⟩⟩
    have s1 : Same H (upd H l (.lst [.int 0])) := same_upd hl
    have en : ((k : Int) - 1).toNat = k - 1 := by omega
    rw [en]
    refine lc_rangeM (lo := 1) (j := 2) (fun i => V.int (shr md k (1 + (i : Int)) * cs.getD (i + 1) 0)) (by omega) hD (fun i hi H1 s2 R kk => ?_) (fun H1 s2 h1 => ?_)
    · have S1 := S.mono (s1.trans s2)
      have hc1 := (s1.trans s2).seq hc
      have hlt : i + 1 < cs.length := by omega
      refine ⟨_, rfl, _, rfl, _, rfl, p, _, dx, _, _, rfl, S1.hp, T.cl_Members, T.f_mode, l_mode, _, _, _, rfl, by omega, by omega, by omega, ?_⟩
      refine ⟨_, rfl, p, _, dx, _, _, rfl, S1.hp, T.cl_Members, T.f_counts, l_counts, _, rfl, c, _, _, _, rfl, rfl, hc1, atI_of (j := i + 1) (by omega) (getD_at hlt), _, _, rfl, rfl, .inr ?_, kk H1 (.refl H1)⟩
      have := hsm.get (i + 1)
      omega
    · have s3 := s2 l _ upd_same
      refine ⟨l, Dn, _, _, rfl, rfl, s3, h1, sz _ ?_, fun r hr1 => ?_⟩
      · rw [List.length_map, List.length_range]; simp; omega
      · refine q r _ ((s1.trans s2).trans (same_upd hr1)) ((s1.trans s2).free hr1) ?_
        rw [upd_same]
        unfold shl
        rw [List.map_cons, List.map_map]
        congr 2
        show V.int 0 :: _ = _
        congr 1
        refine List.map_congr_left fun i _ => ?_
        show V.int (shr md k (1 + (i : Int)) * cs.getD (i + 1) 0) = V.int (shr md k ((i : Int) + 1) * cs.getD (i + 1) 0)
        rw [Int.add_comm]
end
end SM

namespace SM
open PySem L2
section
variable {P : Program} {w : World} {K : PySem.W.Frag} {mg : Str → Option Value} {base : Heap} {W : Ad}
/-! ### Members.next_rows -/
def spNextRows (K : PySem.W.Frag) (C : Addr) : Sp := fun vs H Q _ => ∃ (H0 : Hp) (p dx t l0 c : Addr) (ls : List Addr) (r0 : List Int) (rs : List (List Int)) (wd md : Str) (m : Option Int) (cs : List Int) (k j : Nat) (sh o : Addr) (ol : List Int),
  vs = [.ref p, .ref sh, .int ((j : Int) + 2), .int k] ∧ TabAt C H0 H p dx t l0 c ls r0 rs wd m md ∧ SqL K H sh ((shl md cs k).map V.int) ∧ Smc cs ∧ k ≤ 61 ∧ j + 2 ≤ k ∧
  (c :: ls)[j]? = some o ∧ SqL K H o (ol.map V.int) ∧ (∀ n, n < k → ol[n]? = some (tab md cs (j + 1) n)) ∧
  ∀ H', Same H H' → Q (.int (tab md cs (j + 2) k)) H'
theorem ok_nextRows (T : Tx K mg W) (D : DfM K W.cMembers "next_rows" "Members.next_rows" s_Members_next_rows ["self", "shared", "members", "size"]) :
    CalM P w K mg base CX0 1 W.cMembers "next_rows" ["self", "shared", "members", "size"] (spNextRows K W.cMembers) := by
  obtain ⟨f, fd, mt, F, b⟩ := D
  refine ⟨f, fd, mt, b, F.ok sc_Members_next_rows (fun vs H Q E h => ?_) (fun cdv A outer s H vs Q E hr h => ?_)⟩
  · obtain ⟨_, _, _, _, _, _, _, _, _, _, _, _, _, _, _, _, _, _, rfl, _⟩ := h
    rfl
  · obtain ⟨H0, p, dx, t, l0, c, ls, r0, rs, wd, md, m, cs, k, j, sh, o, ol, rfl, S, hsh, hsm, hk, hjk, ho, hol, hget, q⟩ := h
    refine ⟨_, (pss_cons (ps_set (i := 4) sc_Members_next_rows.nd rfl (.inr rfl) (pe_ix ix_list (pe_fld (pv 0) rfl) (pe_op op_sub (pv 2) pe_int) (fun _ _ => rfl)))
  (pss_one (ps_ret (pe_callB (cr_sum rfl) (by rfl) T.n_sum (by decide +kernel) (pa_cons (pe_lc (own := [("at", 5)]) rfl sc_Members_next_rows.nd (pi_range2 (by rfl) T.n_range (pa_cons pe_int (pa_cons (pe_op op_add (pe_op op_sub (pv 3) (pv 2)) pe_int) pa_nil))) (blkOk_by (own := [("at", 5)]) (N := ["self", "shared", "members", "size", "others", "at"]) (sc := defScope s_Members_next_rows) (by decide +kernel)) (fun _ _ _ _ _ => (pg_name (i := 5) sc_Members_next_rows.nd rfl (.inl rfl))) (fun _ _ _ _ _ => pts_nil) (fun _ _ _ _ _ => (pe_op op_mul (pe_ix (ix_listB (K := K) rfl) (pv 1) (pv 5) (fun _ _ => rfl)) (pe_ix (ix_listB (K := K) rfl) (pv 4) (pe_op op_sub (pv 3) (pv 5)) (fun _ _ => rfl))))) pa_nil))))), ?_⟩
    refine ⟨_, rfl, p, _, dx, _, _, rfl, S.hp, T.cl_Members, T.f_table, l_table, _, rfl, _, _, rfl, rfl, t, _, _, .ref o, rfl, rfl, sq_of S.ht, atI_of (j := j + 1) (by omega) ?_, ?_⟩
    · rw [List.getElem?_cons_succ, ← List.map_cons (f := V.ref), List.getElem?_map, ho]; rfl
    refine ⟨_, rfl, _, rfl, _, _, rfl, rfl, _, _, rfl, rfl, _, _, rfl, ⟨by omega, by omega, by omega, by omega⟩, fun Dn hD => ?_⟩
    have en : ((k : Int) - ((j : Int) + 2) + 2 - 1).toNat = k - (j + 1) := by omega
    rw [en]
    refine lc_rangeM (lo := 1) (j := 5) (fun i => V.int (shr md k ((i : Int) + 1) * cs.getD (i + 1) 0 * tab md cs (j + 1) (k - (i + 1)))) (by omega) hD (fun i hi H1 s2 R kk => ?_) (fun H1 s2 h1 => ?_)
    · refine ⟨_, rfl, _, rfl, sh, _, _, .int (shr md k ((i : Int) + 1) * cs.getD (i + 1) 0), rfl, rfl, s2.seq hsh, atI_of (j := i + 1) (by omega) ?_, ?_⟩
      · rw [List.getElem?_map, shl_get (by omega)]; rfl
      refine ⟨_, rfl, _, rfl, _, rfl, _, _, rfl, rfl, o, _, _, .int (tab md cs (j + 1) (k - (i + 1))), rfl, rfl, s2.seq hol, atI_of (j := k - (i + 1)) (by omega) ?_, _, _, rfl, rfl, .inl ?_, kk H1 (.refl H1)⟩
      · rw [List.getElem?_map, hget _ (by omega)]; rfl
      · exact shr_mul (n := k) (i := i + 1) hk (by omega) hsm
    · refine ⟨Dn, (List.range (k - (j + 1))).map fun i : Nat => shr md k ((i : Int) + 1) * cs.getD (i + 1) 0 * tab md cs (j + 1) (k - (i + 1)), rfl, sq_of ?_, ?_⟩
      · rw [h1, List.map_map]; rfl
      · exact q H1 s2
end
end SM

namespace SM
open PySem L2
/-! ### the numbers of rows -/
def lim : Option Int → Nat → Nat
  | none, s => s
  | some i, s => min s i.toNat
def nl (m : Option Int) (k : Nat) : Nat := lim m (k - 1) - 1
def rsT (md : Str) (cs : List Int) (n k : Nat) : List (List Int) := (List.range n).map fun j => rowT md cs (j + 2) k
/-- the rows within grow: the first i are told -/
def rsAt (md : Str) (cs : List Int) (n k i : Nat) : List (List Int) := (List.range n).map fun j => if j < i then rowT md cs (j + 2) (k + 1) else rowT md cs (j + 2) k
section
variable {md : Str} {cs : List Int}
theorem rsAt_len {n k i : Nat} : (rsAt md cs n k i).length = n := by
  unfold rsAt
  rw [List.length_map, List.length_range]
theorem rsAt_get {n k i j : Nat} (h : j < n) : (rsAt md cs n k i)[j]? = some (if j < i then rowT md cs (j + 2) (k + 1) else rowT md cs (j + 2) k) := by
  unfold rsAt
  rw [List.getElem?_map, List.getElem?_range h]; rfl
theorem rsAt_more {n k i : Nat} (hi : i ≤ n) (hk : k ≤ n + 2) : rsAt md cs n k i ++ [List.replicate k 0] = rsAt md cs (n + 1) k i := by
  unfold rsAt
  rw [List.range_succ, List.map_append, List.map_singleton, if_neg (by omega), rowT_zero hk]
theorem rsAt_set {n k i : Nat} : (rsAt md cs n k i).set i (rowT md cs (i + 2) k ++ [tab md cs (i + 2) k]) = rsAt md cs n k (i + 1) := by
  apply List.ext_getElem?
  intro j
  by_cases hj : j < n
  · by_cases e : j = i
    · subst e
      rw [List.getElem?_set_self (by rw [rsAt_len]; exact hj), rsAt_get hj, if_pos (Nat.lt_succ_self _), rowT_succ]
    · rw [List.getElem?_set_ne (Ne.symm e), rsAt_get hj, rsAt_get hj]
      by_cases h1 : j < i
      · rw [if_pos h1, if_pos (by omega)]
      · rw [if_neg h1, if_neg (by omega)]
  · rw [List.getElem?_eq_none (by rw [List.length_set, rsAt_len]; omega), List.getElem?_eq_none (by rw [rsAt_len]; omega)]
theorem rsAt_0 {n k : Nat} : rsAt md cs n k 0 = rsT md cs n k := by
  unfold rsAt rsT
  refine List.map_congr_left fun j _ => ?_
  rw [if_neg (Nat.not_lt_zero _)]
theorem rsAt_all {n k i : Nat} (h : n ≤ i) : rsAt md cs n k i = rsT md cs n (k + 1) := by
  unfold rsAt rsT
  refine List.map_congr_left fun j hj => ?_
  have := List.mem_range.mp hj
  rw [if_pos (by omega)]
end
section
variable {P : Program} {w : World} {K : PySem.W.Frag} {mg : Str → Option Value} {base : Heap} {W : Ad}
theorem ite_tC {c : Prop} [Decidable c] {Q : VK} {a b v : V} {σ : St} {H : Hp} (e1 : c → a = v) (e2 : ¬ c → b = v) (h : Q v H) : if c then tC a σ H Q else tC b σ H Q := by
  by_cases hc : c
  · rw [if_pos hc, e1 hc]; exact h
  · rw [if_neg hc, e2 hc]; exact h
theorem rd_limit {C : Addr} {σ : St} {H : Hp} {Q : VK} {p dx t c : Addr} {wd md : Str} {m : Option Int} {k : Nat} (cl : Cls K C) (fm : NoAttr K C "most") (h0 : σ[0]? = some (some (.ref p))) (h1 : σ[1]? = some (some (.int k)))
    (hp : H p = some (.ins C dx (flds wd m c md t))) (hm : ∀ i, m = some i → 0 ≤ i) (q : Q (.int (lim m k : Nat)) H) :
    tIf (tB (tIsN (tFld K (tVar 0) "most"))) (tVar 1) (tCB (fun xs H Q => ∃ i j, xs = [.int i, .int j] ∧ Q (.int (if j < i then j else i)) H) (tCons (tVar 1) (tCons (tFld K (tVar 0) "most") tNil))) σ H Q := by
  cases m with
  | none => exact ⟨_, h0, p, C, dx, _, _, rfl, hp, cl, fm, l_most, true, rfl, iteT ⟨_, h1, q⟩⟩
  | some i =>
    have hi := hm i rfl
    refine ⟨_, h0, p, C, dx, _, _, rfl, hp, cl, fm, l_most, false, rfl, iteF ⟨_, h1, _, h0, p, C, dx, _, _, rfl, hp, cl, fm, l_most, _, _, rfl, ?_⟩⟩
    have e : (if i < (k : Int) then i else (k : Int)) = ((lim (some i) k : Nat) : Int) := by
      rw [show lim (some i) k = min k i.toNat from rfl]
      split <;> omega
    rw [e]
    exact q
/-- the test for sets without labels -/
theorem rd_unl {C : Addr} {σ : St} {H : Hp} {Q : Bool → Hp → Prop} {p dx t c : Addr} {wd md : Str} {m : Option Int} (cl : Cls K C) (fw : NoAttr K C "word") (fm : NoAttr K C "mode") (h0 : σ[0]? = some (some (.ref p)))
    (hp : H p = some (.ins C dx (flds wd m c md t))) (q : Q (decide (wd = "set") && !decide (md = "labelled")) H) :
    tAnd (tTest (tOp rEq (tFld K (tVar 0) "word") (tC (.str "set")))) (tTest (tOp rNe (tFld K (tVar 0) "mode") (tC (.str "labelled")))) σ H Q := by
  have e1 : ∀ a b : Str, decide (V.str a = V.str b) = decide (a = b) := fun a b => by
    by_cases h : a = b
    · rw [h]; simp
    · rw [decide_eq_false h, decide_eq_false (fun z => h (V.str.inj z))]
  refine ⟨_, h0, p, C, dx, _, _, rfl, hp, cl, fw, l_word, rfl, _, rfl, ?_⟩
  rw [e1]
  by_cases h : wd = "set"
  · rw [decide_eq_true h] at q ⊢
    refine iteT ⟨_, h0, p, C, dx, _, _, rfl, hp, cl, fm, l_mode, rfl, _, rfl, ?_⟩
    rw [e1]
    exact q
  · rw [decide_eq_false h] at q ⊢
    exact iteF q
/-! ### Members.grow -/
def spGrow (K : PySem.W.Frag) (C : Addr) : Sp := fun vs H Q _ => ∃ (H0 : Hp) (p dx t l0 c : Addr) (ls : List Addr) (wd md : Str) (m : Option Int) (cs : List Int) (k : Nat),
  vs = [.ref p] ∧ TabAt C H0 H p dx t l0 c ls (rowT md cs 0 k) (rsT md cs (nl m k) k) wd m md ∧ SqL K H0 c (cs.map V.int) ∧ Smc cs ∧ k < cs.length ∧ cs.length ≤ 61 ∧ (∀ i, m = some i → 0 ≤ i) ∧
  (nl m (k + 1) = 0 ∨ (decide (wd = "set") && !decide (md = "labelled")) = false) ∧
  ∀ (ls' : List Addr) (H' : Hp), TabAt C H0 H' p dx t l0 c ls' (rowT md cs 0 (k + 1)) (rsT md cs (nl m (k + 1)) (k + 1)) wd m md → (∀ b o, H b = some o → b ∉ t :: l0 :: ls → H' b = some o) → Q .non H'
theorem ok_grow (T : Tx K mg W) (D : DfM K W.cMembers "grow" "Members.grow" s_Members_grow ["self"]) (C1 : CalM P w K mg base CX0 2 W.cMembers "shared_counts" ["self", "size"] (spShared K W.cMembers))
    (C2 : CalM P w K mg base CX0 1 W.cMembers "next_rows" ["self", "shared", "members", "size"] (spNextRows K W.cMembers)) :
    CalM P w K mg base CX0 3 W.cMembers "grow" ["self"] (spGrow K W.cMembers) := by
  obtain ⟨f, fd, mt, F, b⟩ := D
  obtain ⟨f1, fd1, M_Members_shared_counts, B_Members_shared_counts, G_Members_shared_counts⟩ := C1.ex
  obtain ⟨f2, fd2, M_Members_next_rows, B_Members_next_rows, G_Members_next_rows⟩ := C2.ex
  refine ⟨f, fd, mt, b, F.ok sc_Members_grow (fun vs H Q E h => ?_) (fun cdv A outer s H vs Q E hr h => ?_)⟩
  · obtain ⟨_, _, _, _, _, _, _, _, _, _, _, _, rfl, _⟩ := h
    rfl
  · obtain ⟨H0, p, dx, t, l0, c, ls, wd, md, m, cs, k, rfl, S, hc0, hsm, hk, hcl, hm, hcond, q⟩ := h
    refine ⟨_, (pss_cons (ps_set (i := 1) sc_Members_grow.nd rfl (.inl rfl) (pe_callB call_len_seq (by rfl) T.n_len (by decide +kernel) (pa_cons (pe_ix ix_list (pe_fld (pv 0) rfl) pe_int (fun _ _ => rfl)) pa_nil)))
  (pss_cons (ps_expr (pe_bm PySem.F.plainAttrs_list PySem.F.slot_list_append PySem.F.type_list_append mt_append (pe_ix ix_list (pe_fld (pv 0) rfl) pe_int (fun _ _ => rfl)) (pa_cons (pe_ifExp (pt_cmpR op_eq (pv 1) pe_int (nomark _)) pe_int pe_int) pa_nil)))
  (pss_cons (ps_set (i := 2) sc_Members_grow.nd rfl (.inl rfl) (pe_ifExp (pt_cmp (pc_isN (pe_fld (pv 0) rfl)) rfl) (pv 1) (pe_callB (call_min2 rfl) (by rfl) T.n_min (by decide +kernel) (pa_cons (pv 1) (pa_cons (pe_fld (pv 0) rfl) pa_nil)))))
  (pss_cons (ps_set (i := 3) sc_Members_grow.nd rfl (.inl rfl) (pe_meth (pv 0) T.cl_Members M_Members_shared_counts G_Members_shared_counts (hr.mono (by decide)) B_Members_shared_counts .nil pass0 (pa_cons (pv 1) pa_nil)))
  (pss_one (ps_for PassesOwn.never rfl (pi_range2 (by rfl) T.n_range (pa_cons pe_int (pa_cons (pe_op op_add (pv 2) pe_int) pa_nil))) (pg_name (i := 4) sc_Members_grow.nd rfl (.inl rfl)) (
    (pss_cons (ps_if (pt_cmpR op_eq (pv 4) (pe_callB call_len_seq (by rfl) T.n_len (by decide +kernel) (pa_cons (pe_fld (pv 0) rfl) pa_nil)) (nomark _)) (
      (pss_one (ps_expr (pe_bm PySem.F.plainAttrs_list PySem.F.slot_list_append PySem.F.type_list_append mt_append (pe_fld (pv 0) rfl) (pa_cons (pe_op op_rep (pe_lst (pa_cons pe_int pa_nil)) (pv 1)) pa_nil))))) (pss_nil))
    (pss_one (ps_if (PW.pt (pw_and (pt_cmpR op_eq (pe_fld (pv 0) rfl) pe_str (nomark _)) (pw_and1 (pt_cmpR op_ne (pe_fld (pv 0) rfl) (pe_glob (by rfl) T.g_LABELLED T.r_LABELLED) (nomark _))))) (
      (pss_one (ps_never))) (
      (pss_one (ps_expr (pe_bm PySem.F.plainAttrs_list PySem.F.slot_list_append PySem.F.type_list_append mt_append (pe_ix ix_list (pe_fld (pv 0) rfl) (pv 4) (fun _ _ => rfl)) (pa_cons (pe_meth (pv 0) T.cl_Members M_Members_next_rows G_Members_next_rows (hr.mono (by decide)) B_Members_next_rows .nil pass0 (pa_cons (pv 3) (pa_cons (pv 4) (pa_cons (pv 1) pa_nil)))) pa_nil))))))))))))))), ?_⟩
    -- size = len(self.table[0])
    refine ⟨_, rfl, p, _, dx, _, _, rfl, S.hp, T.cl_Members, T.f_table, l_table, t, _, _, .ref l0, rfl, rfl, sq_of S.ht, atI_nat (j := 0) rfl, l0, _, rfl, .inl (sq_of S.h0), ?_⟩
    have ek : (((rowT md cs 0 k).map V.int).length : Int) = k := by rw [List.length_map, rowT_len]
    rw [ek]
    -- self.table[0].append(..)
    refine ⟨_, rfl, p, _, dx, _, _, rfl, S.hp, T.cl_Members, T.f_table, l_table, t, _, _, .ref l0, rfl, rfl, sq_of S.ht, atI_nat (j := 0) rfl, .inl ⟨rfl, _, sq_of S.h0⟩, _, rfl, rfl, _, rfl, ?_⟩
    refine ite_tC (v := .int (tab md cs 0 k)) (fun e => ?_) (fun e => ?_) ?_
    · have : (k : Int) = 0 := V.int.inj (of_decide_eq_true e)
      rw [tab, if_pos (by omega)]
    · have : ¬ k = 0 := fun z => e (decide_eq_true (by rw [z]; rfl))
      rw [tab, if_neg this]
    refine ⟨l0, _, _, rfl, rfl, S.h0, szl _ (by rw [List.length_map, rowT_len]; omega), ?_⟩
    have S1 := S.app0 (tab md cs 0 k)
    rw [← rowT_succ] at S1
    generalize hH1 : upd H l0 (.lst ((rowT md cs 0 k).map V.int ++ [.int (tab md cs 0 k)])) = H1 at S1 ⊢
    have fr1 : ∀ b o, H b = some o → b ∉ t :: l0 :: ls → H1 b = some o := fun b o hb nb => by
      rw [← hH1, upd_ne (fun e => nb (by simp [e]))]
      exact hb
    -- limit
    refine rd_limit T.cl_Members T.f_most rfl rfl S1.hp hm ?_
    -- shared = ..
    refine ⟨_, rfl, p, dx, _, rfl, S1.hp, l_no (by decide +kernel) (by decide +kernel) (by decide +kernel) (by decide +kernel) (by decide +kernel), _, rfl, H0, p, dx, t, l0, c, ls, _, _, wd, md, m, cs, k, rfl, S1, S1.sm.seq hc0, hsm, by omega, by omega, fun sh H2 s2 nsh hsh => ?_⟩
    have S2 := S1.mono s2
    have fr2 : ∀ b o, H b = some o → b ∉ t :: l0 :: ls → H2 b = some o := fun b o hb nb => s2 _ _ (fr1 b o hb nb)
    have hshr : sh ∉ t :: l0 :: ls := fun hm => by
      simp only [List.mem_cons] at hm
      rcases hm with e | e | e
      · rw [e, S1.ht] at nsh; cases nsh
      · rw [e, S1.h0] at nsh; cases nsh
      · obtain ⟨j, hj, ej⟩ := List.mem_iff_getElem.mp e
        have g1 : ls[j]? = some sh := by rw [List.getElem?_eq_getElem hj, ej]
        have g2 := List.getElem?_eq_getElem (l := rsT md cs (nl m k) k) (i := j) (by rw [← S1.hl]; exact hj)
        rw [S1.hr j sh _ g1 g2] at nsh; cases nsh
    -- for members in range(2, limit + 1)
    have hlim : lim m k ≤ k := by
      cases m with
      | none => exact Nat.le_refl _
      | some i => exact Nat.min_le_left _ _
    refine ⟨_, rfl, _, _, rfl, rfl, _, _, rfl, ⟨by omega, by omega, by omega, by omega⟩, ?_⟩
    have en : ((lim m k : Int) + 1 - 2).toNat = nl m (k + 1) := by
      unfold nl
      rw [Nat.add_sub_cancel]
      omega
    rw [en]
    have hab : nl m k ≤ nl m (k + 1) := by
      unfold nl
      cases m with
      | none => show k - 1 - 1 ≤ k - 1; omega
      | some i => show min (k - 1) i.toNat - 1 ≤ min k i.toNat - 1; omega
    have hz : ∀ i, i < nl m (k + 1) → nl m k ≤ i → k ≤ i + 2 ∧ i + 2 ≤ k := by
      intro i h1 h2
      unfold nl at h1 h2
      cases m with
      | none =>
        have h1 : i < k - 1 := h1
        have h2 : k - 1 - 1 ≤ i := h2
        omega
      | some qq =>
        have h1 : i < min k qq.toNat - 1 := h1
        have h2 : min (k - 1) qq.toNat - 1 ≤ i := h2
        omega
    have hik : ∀ i, i < nl m (k + 1) → i + 2 ≤ k := by
      intro i h1
      unfold nl at h1
      rw [Nat.add_sub_cancel] at h1
      omega
    refine for_range (lo := 2) (fun i σ H' => ∃ (y4 : Option V) (ls2 : List Addr), σ = [some (.ref p), some (.int k), some (.int (lim m k : Nat)), some (.ref sh), y4] ∧
      TabAt W.cMembers H0 H' p dx t l0 c ls2 (rowT md cs 0 (k + 1)) (rsAt md cs (max (nl m k) i) k i) wd m md ∧ H' sh = some (.lst ((shl md cs k).map V.int)) ∧ sh ∉ t :: l0 :: ls2 ∧
      (∀ l ∈ ls2, l ∈ ls ∨ H l = none) ∧ (∀ l ∈ ls, l ∈ ls2) ∧ (∀ b o, H b = some o → b ∉ t :: l0 :: ls → H' b = some o)) ⟨none, ls, rfl, ?_, hsh, hshr, fun l hl => .inl hl, fun l hl => hl, fr2⟩ ?_ ?_
    · rw [rsAt_0, Nat.max_eq_left (Nat.zero_le _)]
      exact S2
    · rintro i σ H3 hi ⟨y4, ls2, rfl, S3, h3, nsh3, new3, sub3, fr3⟩
      have hi2 := hik i hi
      -- the rest of the turn, once the row is there
      have rest : ∀ (ls3 : List Addr) (H4 : Hp), TabAt W.cMembers H0 H4 p dx t l0 c ls3 (rowT md cs 0 (k + 1)) (rsAt md cs (max (nl m k) (i + 1)) k i) wd m md → H4 sh = some (.lst ((shl md cs k).map V.int)) → sh ∉ t :: l0 :: ls3 →
          (∀ l ∈ ls3, l ∈ ls ∨ H l = none) → (∀ b o, H b = some o → b ∉ t :: l0 :: ls → H4 b = some o) →
          ∃ (l : Addr) (r : List Int) (o : Addr) (ol : List Int), ls3[i]? = some l ∧ H4 l = some (.lst (r.map V.int)) ∧ r.length = k ∧ (c :: ls3)[i]? = some o ∧ SqL K H4 o (ol.map V.int) ∧ (∀ n, n < k → ol[n]? = some (tab md cs (i + 1) n)) ∧
            ∀ H5, Same H4 H5 → (TabAt W.cMembers H0 (upd H5 l (.lst (r.map V.int ++ [.int (tab md cs (i + 2) k)]))) p dx t l0 c ls3 (rowT md cs 0 (k + 1)) (rsAt md cs (max (nl m k) (i + 1)) k (i + 1)) wd m md ∧
              (upd H5 l (.lst (r.map V.int ++ [.int (tab md cs (i + 2) k)]))) sh = some (.lst ((shl md cs k).map V.int)) ∧ (∀ b o, H b = some o → b ∉ t :: l0 :: ls → (upd H5 l (.lst (r.map V.int ++ [.int (tab md cs (i + 2) k)]))) b = some o)) := by
        intro ls3 H4 S4 h4 nsh4 new4 fr4
        have hlen : ls3.length = max (nl m k) (i + 1) := by rw [S4.hl, rsAt_len]
        have hil : i < ls3.length := by omega
        have gl : ls3[i]? = some ls3[i] := List.getElem?_eq_getElem hil
        have gr : (rsAt md cs (max (nl m k) (i + 1)) k i)[i]? = some (rowT md cs (i + 2) k) := by
          rw [rsAt_get (by omega), if_neg (Nat.lt_irrefl _)]
        have goal1 : ∀ H5, Same H4 H5 → (TabAt W.cMembers H0 (upd H5 ls3[i] (.lst ((rowT md cs (i + 2) k).map V.int ++ [.int (tab md cs (i + 2) k)]))) p dx t l0 c ls3 (rowT md cs 0 (k + 1)) (rsAt md cs (max (nl m k) (i + 1)) k (i + 1)) wd m md ∧
              (upd H5 ls3[i] (.lst ((rowT md cs (i + 2) k).map V.int ++ [.int (tab md cs (i + 2) k)]))) sh = some (.lst ((shl md cs k).map V.int)) ∧ (∀ b o, H b = some o → b ∉ t :: l0 :: ls → (upd H5 ls3[i] (.lst ((rowT md cs (i + 2) k).map V.int ++ [.int (tab md cs (i + 2) k)]))) b = some o)) := by
          intro H5 s5
          have S5 := (S4.mono s5).appL (tab md cs (i + 2) k) gl gr
          rw [rsAt_set] at S5
          have hmem : ls3[i] ∈ ls3 := List.getElem_mem hil
          refine ⟨S5, ?_, fun b o hb nb => ?_⟩
          · rw [upd_ne (fun e => nsh4 (by rw [e]; simp [hmem]))]
            exact s5 _ _ h4
          · have : b ≠ ls3[i] := fun e => by
              rcases new4 _ hmem with h | h
              · exact nb (by rw [e]; simp [h])
              · rw [← e, hb] at h; cases h
            rw [upd_ne this]
            exact s5 _ _ (fr4 b o hb nb)
        cases i with
        | zero =>
          refine ⟨_, _, c, cs, gl, S4.hr _ _ _ gl gr, rowT_len _ _ _ _, rfl, S4.sm.seq hc0, fun n hn => ?_, goal1⟩
          rw [List.getElem?_eq_getElem (by omega), tab, List.getD_eq_getElem?_getD, List.getElem?_eq_getElem (by omega)]; rfl
        | succ j =>
          have gl' : ls3[j]? = some ls3[j] := List.getElem?_eq_getElem (by omega)
          have gr' : (rsAt md cs (max (nl m k) (j + 1 + 1)) k (j + 1))[j]? = some (rowT md cs (j + 2) (k + 1)) := by
            rw [rsAt_get (by omega), if_pos (Nat.lt_succ_self _)]
          exact ⟨_, _, ls3[j], rowT md cs (j + 2) (k + 1), gl, S4.hr _ _ _ gl gr, rowT_len _ _ _ _, gl', sq_of (S4.hr _ _ _ gl' gr'), fun n hn => rowT_get (by omega), goal1⟩
      -- if members == len(self.table)
      refine ⟨_, rfl, _, rfl, p, _, dx, _, _, rfl, S3.hp, T.cl_Members, T.f_table, l_table, t, _, rfl, .inl (sq_of S3.ht), rfl, _, rfl, ?_⟩
      have hl3 : ls2.length = max (nl m k) i := by rw [S3.hl, rsAt_len]
      have elen : (((V.ref l0 :: V.ref c :: ls2.map V.ref).length : Nat) : Int) = (ls2.length : Int) + 2 := by
        simp only [List.length_cons, List.length_map]
        omega
      refine ite2 (fun e => ?_) (fun e => ?_)
      · have e' : (2 : Int) + i = (ls2.length : Int) + 2 := elen ▸ V.int.inj (of_decide_eq_true e)
        have ea : nl m k ≤ i := by omega
        obtain ⟨hz1, hz2⟩ := hz i hi ea
        refine ⟨_, rfl, p, _, dx, _, _, rfl, S3.hp, T.cl_Members, T.f_table, l_table, .inl ⟨rfl, _, sq_of S3.ht⟩, sz _ (by show 1 ≤ 100000; decide), fun z0 nz0 => ⟨_, rfl, z0, k, _, rfl, rfl, upd_same, by omega, by omega, sz _ (by simp; omega), fun n nn => ?_⟩⟩
        have s4 : Same H3 (upd H3 z0 (.lst [.int 0])) := same_upd nz0
        have s5 := s4.trans (same_upd (o := HO.lst (List.replicate (k : Int).toNat [V.int 0]).flatten) nn)
        have S5 := S3.mono s5
        have nn3 : H3 n = none := s4.free nn
        have rep : (List.replicate (k : Int).toNat [V.int 0]).flatten = (List.replicate k (0 : Int)).map V.int := by
          rw [Int.toNat_natCast, List.map_replicate]
          induction k with
          | zero => rfl
          | succ j ih => simp [List.replicate_succ]
        have nreg : n ∉ p :: t :: l0 :: ls2 := fun hm => by
          simp only [List.mem_cons] at hm
          rcases hm with e | e | e | e
          · rw [e, S3.hp] at nn3; cases nn3
          · rw [e, S3.ht] at nn3; cases nn3
          · rw [e, S3.h0] at nn3; cases nn3
          · obtain ⟨j, hj, ej⟩ := List.mem_iff_getElem.mp e
            have g1 : ls2[j]? = some n := by rw [List.getElem?_eq_getElem hj, ej]
            have g2 := List.getElem?_eq_getElem (l := rsAt md cs (max (nl m k) i) k i) (i := j) (by rw [← S3.hl]; exact hj)
            rw [S3.hr j n _ g1 g2] at nn3; cases nn3
        refine ⟨t, _, _, rfl, rfl, S5.ht, szl _ (by simp; omega), ?_⟩
        have S4 := S5.appT (n := n) (r := List.replicate k 0) (by rw [upd_same, rep]) nreg (S3.sm.free nn3)
        have hmx : max (nl m k) i = i := Nat.max_eq_right ea
        rw [hmx, rsAt_more (Nat.le_refl _) hz1] at S4
        have hmx' : max (nl m k) (i + 1) = i + 1 := Nat.max_eq_right (by omega)
        rw [← hmx'] at S4
        have nsn : sh ≠ n := fun e => by rw [e] at h3; rw [h3] at nn3; cases nn3
        have nst : sh ≠ t := fun e => nsh3 (by simp [e])
        have h4 : (upd (upd (upd H3 z0 (.lst [.int 0])) n (HO.lst (List.replicate (k : Int).toNat [V.int 0]).flatten)) t (HO.lst ((V.ref l0 :: V.ref c :: ls2.map V.ref) ++ [V.ref n]))) sh = some (.lst ((shl md cs k).map V.int)) := by
          rw [upd_ne nst]
          exact s5 _ _ h3
        have nHn : H n = none := by
          cases e1 : H n with
          | none => rfl
          | some o =>
            by_cases hb : n ∈ t :: l0 :: ls
            · simp only [List.mem_cons] at hb
              rcases hb with e2 | e2 | e2
              · exact absurd (by simp [e2]) nreg
              · exact absurd (by simp [e2]) nreg
              · exact absurd (e2 : n ∈ ls) fun e3 => by
                  -- the addresses of the older rows stay among the newer ones
                  exact nreg (by simp [sub3 n e3])
            · rw [fr3 n o e1 hb] at nn3; cases nn3
        have nsh4 : sh ∉ t :: l0 :: (ls2 ++ [n]) := fun hm => by
          simp only [List.mem_cons, List.mem_append, List.mem_nil_iff, or_false] at hm
          rcases hm with e | e | e | e
          · exact nsh3 (by simp [e])
          · exact nsh3 (by simp [e])
          · exact nsh3 (by simp [e])
          · exact nsn e
        have new4 : ∀ l ∈ ls2 ++ [n], l ∈ ls ∨ H l = none := fun l hl => by
          rcases List.mem_append.mp hl with h | h
          · exact new3 l h
          · simp at h
            rw [h]; exact .inr nHn
        have fr4 : ∀ b o, H b = some o → b ∉ t :: l0 :: ls → (upd (upd (upd H3 z0 (.lst [.int 0])) n (HO.lst (List.replicate (k : Int).toNat [V.int 0]).flatten)) t (HO.lst ((V.ref l0 :: V.ref c :: ls2.map V.ref) ++ [V.ref n]))) b = some o := fun b o hb nb => by
          rw [upd_ne (fun e => nb (by simp [e]))]
          exact s5 _ _ (fr3 b o hb nb)
        have sub4 : ∀ l ∈ ls, l ∈ ls2 ++ [n] := fun l hl => List.mem_append_left _ (sub3 l hl)
        generalize (upd (upd (upd H3 z0 (.lst [.int 0])) n (HO.lst (List.replicate (k : Int).toNat [V.int 0]).flatten)) t (HO.lst ((V.ref l0 :: V.ref c :: ls2.map V.ref) ++ [V.ref n]))) = H4 at S4 h4 fr4 ⊢
        generalize ls2 ++ [n] = ls3 at S4 nsh4 new4 sub4
        obtain ⟨l, r, o, ol, gl, hl4, hrl, go, hol, hget, fin⟩ := rest ls3 H4 S4 h4 nsh4 new4 fr4
        refine rd_unl T.cl_Members T.f_word T.f_mode rfl S4.hp ?_
        have ec : (decide (wd = "set") && !decide (md = "labelled")) = false := by
          rcases hcond with h | h
          · omega
          · exact h
        rw [ec]
        refine iteF ?_
        refine ⟨_, rfl, p, _, dx, _, _, rfl, S4.hp, T.cl_Members, T.f_table, l_table, _, rfl, t, _, _, .ref l, rfl, rfl, sq_of S4.ht, atI_of (j := i + 2) (by omega) ?_, .inl ⟨rfl, _, sq_of hl4⟩, ?_⟩
        · rw [List.getElem?_cons_succ, List.getElem?_cons_succ, List.getElem?_map, gl]; rfl
        refine ⟨_, rfl, p, dx, _, rfl, S4.hp, l_no (by decide +kernel) (by decide +kernel) (by decide +kernel) (by decide +kernel) (by decide +kernel), _, rfl, _, rfl, _, rfl, H0, p, dx, t, l0, c, ls3, _, _, wd, md, m, cs, k, i, sh, o, ol, by rw [Int.add_comm 2]; rfl, S4, sq_of h4, hsm, by omega, hi2, go, hol, hget, fun H5 s5 => ?_⟩
        obtain ⟨f1, f2, f3⟩ := fin H5 s5
        refine ⟨l, _, _, rfl, rfl, s5 _ _ hl4, szl _ (by rw [List.length_map, hrl]; omega), ?_⟩
        exact ⟨_, ls3, rfl, f1, f2, nsh4, new4, sub4, f3⟩
      · have e' : ¬ (2 : Int) + i = (ls2.length : Int) + 2 := fun z => e (decide_eq_true (by rw [elen, z]))
        have ea : i < nl m k := by omega
        have S4 := S3
        rw [Nat.max_eq_left (by omega), ← Nat.max_eq_left (show i + 1 ≤ nl m k by omega)] at S4
        have h4 := h3
        have nsh4 := nsh3
        have new4 := new3
        have fr4 := fr3
        have sub4 := sub3
        generalize H3 = H4 at S4 h4 fr4 ⊢
        generalize ls2 = ls3 at S4 nsh4 new4 sub4
        obtain ⟨l, r, o, ol, gl, hl4, hrl, go, hol, hget, fin⟩ := rest ls3 H4 S4 h4 nsh4 new4 fr4
        refine rd_unl T.cl_Members T.f_word T.f_mode rfl S4.hp ?_
        have ec : (decide (wd = "set") && !decide (md = "labelled")) = false := by
          rcases hcond with h | h
          · omega
          · exact h
        rw [ec]
        refine iteF ?_
        refine ⟨_, rfl, p, _, dx, _, _, rfl, S4.hp, T.cl_Members, T.f_table, l_table, _, rfl, t, _, _, .ref l, rfl, rfl, sq_of S4.ht, atI_of (j := i + 2) (by omega) ?_, .inl ⟨rfl, _, sq_of hl4⟩, ?_⟩
        · rw [List.getElem?_cons_succ, List.getElem?_cons_succ, List.getElem?_map, gl]; rfl
        refine ⟨_, rfl, p, dx, _, rfl, S4.hp, l_no (by decide +kernel) (by decide +kernel) (by decide +kernel) (by decide +kernel) (by decide +kernel), _, rfl, _, rfl, _, rfl, H0, p, dx, t, l0, c, ls3, _, _, wd, md, m, cs, k, i, sh, o, ol, by rw [Int.add_comm 2]; rfl, S4, sq_of h4, hsm, by omega, hi2, go, hol, hget, fun H5 s5 => ?_⟩
        obtain ⟨f1, f2, f3⟩ := fin H5 s5
        refine ⟨l, _, _, rfl, rfl, s5 _ _ hl4, szl _ (by rw [List.length_map, hrl]; omega), ?_⟩
        exact ⟨_, ls3, rfl, f1, f2, nsh4, new4, sub4, f3⟩
    · rintro σ H3 ⟨y4, ls2, rfl, S3, h3, nsh3, new3, sub3, fr3⟩
      rw [Nat.max_eq_right hab, rsAt_all (Nat.le_refl _)] at S3
      exact q ls2 H3 S3 fr3
end
end SM

namespace SM
open PySem L2
theorem dec_str (a b : Str) : decide (V.str a = V.str b) = decide (a = b) := by
  by_cases h : a = b
  · rw [h]; simp
  · rw [decide_eq_false h, decide_eq_false (fun z => h (V.str.inj z))]
theorem fdiv_one (v : Int) : v.fdiv 1 = v := by
  rw [Int.fdiv_eq_ediv_of_nonneg _ (by decide), Int.ediv_one]
theorem q_fdiv1 {R : VK} {v : Int} {H : Hp} (h : R (.int v) H) : R ((fun i j : Int => V.int (i.fdiv j)) v 1) H := by
  show R (.int (v.fdiv 1)) H
  rw [fdiv_one]
  exact h
section
variable {P : Program} {w : World} {K : PySem.W.Frag} {mg : Str → Option Value} {base : Heap} {W : Ad}
/-- a place of the table -/
def Cell (K : PySem.W.Frag) (H : Hp) (l0 c : Addr) (ls : List Addr) (j n : Nat) (v : Int) : Prop := ∃ (l : Addr) (ol : List Int), (l0 :: c :: ls)[j]? = some l ∧ SqL K H l (ol.map V.int) ∧ ol[n]? = some v
theorem Cell.mono {H H' : Hp} {l0 c : Addr} {ls : List Addr} {j n : Nat} {v : Int} (h : Cell K H l0 c ls j n v) (s : Same H H') : Cell K H' l0 c ls j n v := by
  obtain ⟨l, ol, a, b, d⟩ := h
  exact ⟨l, ol, a, s.seq b, d⟩
/-- self.table[a][b] -/
theorem rd_cell {C : Addr} {H0 H : Hp} {p dx t l0 c : Addr} {ls : List Addr} {r0 : List Int} {rs : List (List Int)} {wd md : Str} {m : Option Int} {j n : Nat} {v : Int} {σ : St} {Q : VK} {ta tb : TE}
    (S : TabAt C H0 H p dx t l0 c ls r0 rs wd m md) (cl : Cls K C) (ft : NoAttr K C "table") (hc : Cell K H l0 c ls j n v) (h0 : σ[0]? = some (some (.ref p)))
    (ha : ∀ R : VK, R (.int j) H → ta σ H R) (hb : ∀ R : VK, R (.int n) H → tb σ H R) (q : Q (.int v) H) :
    tOp (rIxL K) (tOp (rIxL K) (tFld K (tVar 0) "table") ta) tb σ H Q := by
  obtain ⟨l, ol, g1, g2, g3⟩ := hc
  refine ⟨_, h0, p, C, dx, _, _, rfl, S.hp, cl, ft, l_table, ha _ ⟨t, _, _, .ref l, rfl, rfl, sq_of S.ht, atI_nat (j := j) ?_, hb _ ⟨l, _, _, .int v, rfl, rfl, g2, atI_nat (j := n) ?_, q⟩⟩⟩
  · rw [← List.map_cons (f := V.ref), ← List.map_cons (f := V.ref), List.getElem?_map, g1]; rfl
  · rw [List.getElem?_map, g3]; rfl
/-! ### Members.rings of one member -/
def spRings1 (K : PySem.W.Frag) (C : Addr) : Sp := fun vs H Q _ => ∃ (H0 : Hp) (p dx t l0 c : Addr) (ls : List Addr) (r0 : List Int) (rs : List (List Int)) (wd md : Str) (m : Option Int) (n : Nat) (v : Int),
  vs = [.ref p, .int 1, .int n] ∧ TabAt C H0 H p dx t l0 c ls r0 rs wd m md ∧ Cell K H l0 c ls 1 n v ∧ md ≠ "rigid" ∧ n ≤ 1000 ∧ ∀ H', Same H H' → Q (.int v) H'
theorem divs_one : divs 1 = [1] := by decide
theorem phi_one : phi 1 = 1 := by decide
theorem ok_rings1 (T : Tx K mg W) (D : DfM K W.cMembers "rings" "Members.rings" s_Members_rings ["self", "members", "size"]) (C1 : Cal P w K mg base CX0 1 "divisors" ["number"] spDivs)
    (C2 : Cal P w K mg base CX0 1 "totient" ["number"] spPhi) : CalM P w K mg base CX0 2 W.cMembers "rings" ["self", "members", "size"] (spRings1 K W.cMembers) := by
  obtain ⟨f, fd, mt, F, b⟩ := D
  obtain ⟨f1, fd1, g_divisors, k_divisors, b_divisors, G_divisors⟩ := C1.ex
  obtain ⟨f2, fd2, g_totient, k_totient, b_totient, G_totient⟩ := C2.ex
  refine ⟨f, fd, mt, b, F.ok sc_Members_rings (fun vs H Q E h => ?_) (fun cdv A outer s H vs Q E hr h => ?_)⟩
  · obtain ⟨_, _, _, _, _, _, _, _, _, _, _, _, _, _, rfl, _⟩ := h
    rfl
  · obtain ⟨H0, p, dx, t, l0, c, ls, r0, rs, wd, md, m, n, v, rfl, S, hc, hmd, hn, q⟩ := h
    refine ⟨_, (pss_cons (ps_set (i := 3) sc_Members_rings.nd rfl (.inl rfl) pe_int)
  (pss_cons (ps_for PassesOwn.never rfl (pi_list (pe_call G_divisors (hr.mono (by decide)) (by rfl) g_divisors k_divisors b_divisors .nil pass0 (pa_cons (pe_callBfun cr_gcd (by rfl) T.m_gcd (pa_cons (pv 1) (pa_cons (pv 2) pa_nil))) pa_nil))) (pg_name (i := 4) sc_Members_rings.nd rfl (.inl rfl)) (
    (pss_cons (ps_set (i := 5) sc_Members_rings.nd rfl (.inl rfl) (pe_ifExp (pt_cmpR op_eq (pe_fld (pv 0) rfl) (pe_glob (by rfl) T.g_RIGID T.r_RIGID) (nomark _)) pe_never (pe_call G_totient (hr.mono (by decide)) (by rfl) g_totient k_totient b_totient .nil pass0 (pa_cons (pv 4) pa_nil))))
    (pss_one (ps_aug (i := 3) sc_Members_rings.nd rfl (.inl rfl) (pe_op op_mul (pv 5) (pe_ix ix_list (pe_ix ix_list (pe_fld (pv 0) rfl) (pe_op op_fdivN (pv 1) (pv 4)) (fun _ _ => rfl)) (pe_op op_fdivN (pv 2) (pv 4)) (fun _ _ => rfl))) ip_add)))))
  (pss_one (ps_ret (pe_op op_fdivN (pv 3) (pv 1)))))), ?_⟩
    refine ⟨_, rfl, _, rfl, _, _, rfl, 1, (by show [V.int ((Nat.gcd 1 ((n : Int).natAbs) : Nat) : Int)] = _; rw [Nat.gcd_one_left]), by decide, fun pd H1 s1 nd hd => ?_⟩
    rw [divs_one] at hd
    refine ⟨pd, rfl, ⟨_, sq_of hd⟩, for_list (K := K) (a := pd) (xs := [V.int 1]) (fun i σ H' => ∃ y4 y5, σ = [some (.ref p), some (.int 1), some (.int n), some (.int (if i = 0 then 0 else v)), y4, y5] ∧ Same H1 H') ⟨none, none, rfl, .refl _⟩ (fun i σ H' _ ⟨_, _, _, s⟩ => sq_of (s _ _ hd)) ?_ ?_⟩
    · rintro i x σ H' hi ⟨y4, y5, rfl, s2⟩
      have hi0 : i = 0 := by
        have := (List.getElem?_eq_some_iff.mp hi).1
        simp at this
        exact this
      subst hi0
      have ex : x = V.int 1 := (Option.some.inj hi).symm
      subst ex
      have S2 := S.mono (s1.trans s2)
      have hc2 := hc.mono (s1.trans s2)
      refine ⟨_, rfl, p, _, dx, _, _, rfl, S2.hp, T.cl_Members, T.f_mode, l_mode, rfl, _, rfl, ?_⟩
      rw [dec_str, decide_eq_false hmd]
      refine iteF ⟨_, rfl, 1, rfl, by decide, fun H3 s3 => ?_⟩
      rw [phi_one]
      refine ⟨_, rfl, _, rfl, ?_⟩
      refine rd_cell (S2.mono s3) T.cl_Members T.f_table (hc2.mono s3) rfl (j := 1) (n := n) (fun R k => ⟨_, rfl, _, rfl, _, _, rfl, rfl, ⟨by decide, by decide⟩, k⟩) (fun R k => ⟨_, rfl, _, rfl, _, _, rfl, rfl, ⟨by decide, by decide⟩, q_fdiv1 k⟩) ?_
      refine ⟨_, _, rfl, rfl, .inl ⟨by decide, by decide⟩, _, _, rfl, rfl, some (.int 1), some (.int 1), ?_, s2.trans s3⟩
      rw [if_pos rfl, if_neg (by decide)]
      show [some (V.ref p), some (V.int 1), some (V.int n), some (V.int (0 + 1 * v)), some (V.int 1), some (V.int 1)] = _
      rw [Int.zero_add, Int.one_mul]
    · rintro σ H' ⟨y4, y5, rfl, s2⟩
      refine ⟨_, rfl, _, rfl, _, _, rfl, rfl, ⟨by decide, by decide⟩, q_fdiv1 ?_⟩
      exact q H' (s1.trans s2)
/-! ### Members.exactly -/
def spExactly (K : PySem.W.Frag) (C : Addr) : Sp := fun vs H Q _ => ∃ (H0 : Hp) (p dx t l0 c : Addr) (ls : List Addr) (r0 : List Int) (rs : List (List Int)) (wd md : Str) (m : Option Int) (j n : Nat) (v : Int),
  vs = [.ref p, .int j, .int n] ∧ TabAt C H0 H p dx t l0 c ls r0 rs wd m md ∧ Cell K H l0 c ls j n v ∧ md ≠ "rigid" ∧ n ≤ 1000 ∧ (wd = "row" ∨ j = 1) ∧ ∀ H', Same H H' → Q (.int v) H'
theorem ok_exactly (T : Tx K mg W) (D : DfM K W.cMembers "exactly" "Members.exactly" s_Members_exactly ["self", "members", "size"])
    (C1 : CalM P w K mg base CX0 2 W.cMembers "rings" ["self", "members", "size"] (spRings1 K W.cMembers)) : CalM P w K mg base CX0 3 W.cMembers "exactly" ["self", "members", "size"] (spExactly K W.cMembers) := by
  obtain ⟨f, fd, mt, F, b⟩ := D
  obtain ⟨f1, fd1, M_Members_rings, B_Members_rings, G_Members_rings⟩ := C1.ex
  refine ⟨f, fd, mt, b, F.ok sc_Members_exactly (fun vs H Q E h => ?_) (fun cdv A outer s H vs Q E hr h => ?_)⟩
  · obtain ⟨_, _, _, _, _, _, _, _, _, _, _, _, _, _, _, rfl, _⟩ := h
    rfl
  · obtain ⟨H0, p, dx, t, l0, c, ls, r0, rs, wd, md, m, j, n, v, rfl, S, hc, hmd, hn, hj, q⟩ := h
    refine ⟨_, (pss_cons (ps_if (PW.pt (pw_or (pt_cmpR op_eq (pe_fld (pv 0) rfl) pe_str (nomark _)) (pw_or1 (PW.pt (pw_and (pt_cmpR op_eq (pe_fld (pv 0) rfl) pe_str (nomark _)) (pw_and1 (pt_cmpR op_ne (pe_fld (pv 0) rfl) (pe_glob (by rfl) T.g_LABELLED T.r_LABELLED) (nomark _)))))))) (
    (pss_one (ps_ret (pe_ix ix_list (pe_ix ix_list (pe_fld (pv 0) rfl) (pv 1) (fun _ _ => rfl)) (pv 2) (fun _ _ => rfl))))) (pss_nil))
  (pss_cons (ps_if (pt_cmpR op_eq (pe_fld (pv 0) rfl) pe_str (nomark _)) (
    (pss_one (ps_ret (pe_op op_fdivN (pe_ix ix_list (pe_ix ix_list (pe_fld (pv 0) rfl) (pv 1) (fun _ _ => rfl)) (pv 2) (fun _ _ => rfl)) (pe_callBfun cr_factorial (by rfl) T.m_factorial (pa_cons (pv 1) pa_nil)))))) (pss_nil))
  (pss_cons (ps_if (pt_cmpR op_eq (pe_fld (pv 0) rfl) (pe_glob (by rfl) T.g_LABELLED T.r_LABELLED) (nomark _)) (
    (pss_one (ps_ret (pe_op op_fdivN (pe_ix ix_list (pe_ix ix_list (pe_fld (pv 0) rfl) (pv 1) (fun _ _ => rfl)) (pv 2) (fun _ _ => rfl)) (pv 1))))) (pss_nil))
  (pss_one (ps_ret (pe_meth (pv 0) T.cl_Members M_Members_rings G_Members_rings (hr.mono (by decide)) B_Members_rings .nil pass0 (pa_cons (pv 1) (pa_cons (pv 2) pa_nil)))))))), ?_⟩
    refine ⟨_, rfl, p, _, dx, _, _, rfl, S.hp, T.cl_Members, T.f_word, l_word, rfl, _, rfl, ?_⟩
    rw [dec_str]
    by_cases h1 : wd = "row"
    · rw [decide_eq_true h1]
      refine iteT (iteT ?_)
      exact rd_cell S T.cl_Members T.f_table hc rfl (fun R k => ⟨_, rfl, k⟩) (fun R k => ⟨_, rfl, k⟩) (q H (.refl H))
    · have j1 : j = 1 := hj.resolve_left h1
      subst j1
      rw [decide_eq_false h1]
      refine iteF ?_
      refine rd_unl T.cl_Members T.f_word T.f_mode rfl S.hp ?_
      by_cases h2 : wd = "set"
      · by_cases h3 : md = "labelled"
        · rw [decide_eq_true h3, Bool.not_true, Bool.and_false]
          refine iteF ?_
          refine ⟨_, rfl, p, _, dx, _, _, rfl, S.hp, T.cl_Members, T.f_word, l_word, rfl, _, rfl, ?_⟩
          rw [dec_str, decide_eq_true h2]
          refine iteT ?_
          refine rd_cell S T.cl_Members T.f_table hc rfl (fun R k => ⟨_, rfl, k⟩) (fun R k => ⟨_, rfl, k⟩) ?_
          refine ⟨_, rfl, _, rfl, by decide, by decide, ⟨v, 1, rfl, rfl, ⟨by decide, by decide⟩, q_fdiv1 ?_⟩⟩
          exact q H (.refl H)
        · rw [decide_eq_true h2, decide_eq_false h3]
          refine iteT ?_
          exact rd_cell S T.cl_Members T.f_table hc rfl (fun R k => ⟨_, rfl, k⟩) (fun R k => ⟨_, rfl, k⟩) (q H (.refl H))
      · rw [decide_eq_false h2, Bool.false_and]
        refine iteF ?_
        refine ⟨_, rfl, p, _, dx, _, _, rfl, S.hp, T.cl_Members, T.f_word, l_word, rfl, _, rfl, ?_⟩
        rw [dec_str, decide_eq_false h2]
        refine iteF ?_
        refine ⟨_, rfl, p, _, dx, _, _, rfl, S.hp, T.cl_Members, T.f_mode, l_mode, rfl, _, rfl, ?_⟩
        rw [dec_str]
        by_cases h3 : md = "labelled"
        · rw [decide_eq_true h3]
          refine iteT ?_
          refine rd_cell S T.cl_Members T.f_table hc rfl (fun R k => ⟨_, rfl, k⟩) (fun R k => ⟨_, rfl, k⟩) ?_
          refine ⟨_, rfl, v, 1, rfl, rfl, ⟨by decide, by decide⟩, q_fdiv1 ?_⟩
          exact q H (.refl H)
        · rw [decide_eq_false h3]
          refine iteF ?_
          exact ⟨_, rfl, p, dx, _, rfl, S.hp, l_no (by decide +kernel) (by decide +kernel) (by decide +kernel) (by decide +kernel) (by decide +kernel), _, rfl, _, rfl, H0, p, dx, t, l0, c, ls, r0, rs, wd, md, m, n, v, rfl, S, hc, hmd, hn, q⟩
/-! ### Members.within -/
def spWithin (K : PySem.W.Frag) (C : Addr) : Sp := fun vs H Q _ => ∃ (H0 : Hp) (p dx t l0 c : Addr) (ls : List Addr) (r0 : List Int) (rs : List (List Int)) (wd md : Str) (m : Option Int) (lo n : Nat) (v : Nat → Int),
  vs = [.ref p, .int lo, oV m, .int n] ∧ TabAt C H0 H p dx t l0 c ls r0 rs wd m md ∧ md ≠ "rigid" ∧ n ≤ 1000 ∧ lo ≤ 1000 ∧ (∀ i, m = some i → 0 ≤ i) ∧
  (∀ j, lo ≤ j → j ≤ lim m (max n 1) → (wd = "row" ∨ j = 1) ∧ Cell K H l0 c ls j n (v j)) ∧
  ∀ H', Same H H' → Q (.int ((List.range (lim m (max n 1) + 1 - lo)).map fun i => v (lo + i)).sum) H'
theorem ok_within (T : Tx K mg W) (D : DfM K W.cMembers "within" "Members.within" s_Members_within ["self", "least", "most", "size"])
    (C1 : CalM P w K mg base CX0 3 W.cMembers "exactly" ["self", "members", "size"] (spExactly K W.cMembers)) : CalM P w K mg base CX0 4 W.cMembers "within" ["self", "least", "most", "size"] (spWithin K W.cMembers) := by
  obtain ⟨f, fd, mt, F, b⟩ := D
  obtain ⟨f1, fd1, M_Members_exactly, B_Members_exactly, G_Members_exactly⟩ := C1.ex
  refine ⟨f, fd, mt, b, F.ok sc_Members_within (fun vs H Q E h => ?_) (fun cdv A outer s H vs Q E hr h => ?_)⟩
  · obtain ⟨_, _, _, _, _, _, _, _, _, _, _, _, _, _, _, rfl, _⟩ := h
    rfl
  · obtain ⟨H0, p, dx, t, l0, c, ls, r0, rs, wd, md, m, lo, n, v, rfl, S, hmd, hn, hlo, hm, hcell, q⟩ := h
    refine ⟨_, (pss_cons (ps_set (i := 4) sc_Members_within.nd rfl (.inl rfl) (pe_callB (call_max2 rfl) (by rfl) T.n_max (by decide +kernel) (pa_cons (pv 3) (pa_cons pe_int pa_nil))))
  (pss_cons (ps_set (i := 5) sc_Members_within.nd rfl (.inl rfl) (pe_ifExp (pt_cmp (pc_isN (pv 2)) rfl) (pv 4) (pe_callB (call_min2 rfl) (by rfl) T.n_min (by decide +kernel) (pa_cons (pv 4) (pa_cons (pv 2) pa_nil)))))
  (pss_one (ps_ret (pe_callB (cr_sum rfl) (by rfl) T.n_sum (by decide +kernel) (pa_cons (pe_lc (own := [("members", 6)]) rfl sc_Members_within.nd (pi_range2 (by rfl) T.n_range (pa_cons (pv 1) (pa_cons (pe_op op_add (pv 5) pe_int) pa_nil))) (blkOk_by (own := [("members", 6)]) (N := ["self", "least", "most", "size", "greatest", "last", "members"]) (sc := defScope s_Members_within) (by decide +kernel)) (fun _ _ _ _ _ => (pg_name (i := 6) sc_Members_within.nd rfl (.inl rfl))) (fun _ _ _ _ _ => pts_nil) (fun _ _ _ _ _ => (pe_meth (pv 0) T.cl_Members M_Members_exactly G_Members_exactly (hr.mono (by decide)) B_Members_exactly .nil pass0 (pa_cons (pv 6) (pa_cons (pv 3) pa_nil))))) pa_nil)))))), ?_⟩
    refine ⟨_, rfl, _, _, rfl, ?_⟩
    have e1 : (if (1 : Int) > (n : Int) then (1 : Int) else (n : Int)) = ((max n 1 : Nat) : Int) := by
      split <;> omega
    rw [e1]
    have rd : ∀ (Q' : VK) (σ : St), σ[2]? = some (some (oV m)) → σ[4]? = some (some (.int ((max n 1 : Nat) : Int))) → Q' (.int (lim m (max n 1) : Nat)) H →
        tIf (tB (tIsN (tVar 2))) (tVar 4) (tCB (fun xs H Q => ∃ i j, xs = [.int i, .int j] ∧ Q (.int (if j < i then j else i)) H) (tCons (tVar 4) (tCons (tVar 2) tNil))) σ H Q' := by
      intro Q' σ h2 h4 q'
      cases m with
      | none => exact ⟨_, h2, true, rfl, iteT ⟨_, h4, q'⟩⟩
      | some i =>
        have hi := hm i rfl
        refine ⟨_, h2, false, rfl, iteF ⟨_, h4, _, h2, _, _, rfl, ?_⟩⟩
        have e : (if i < ((max n 1 : Nat) : Int) then i else ((max n 1 : Nat) : Int)) = ((lim (some i) (max n 1) : Nat) : Int) := by
          rw [show lim (some i) (max n 1) = min (max n 1) i.toNat from rfl]
          split <;> omega
        rw [e]
        exact q'
    refine rd _ _ rfl rfl ?_
    have hlim : lim m (max n 1) ≤ max n 1 := by
      cases m with
      | none => exact Nat.le_refl _
      | some i => exact Nat.min_le_left _ _
    generalize lim m (max n 1) = L at hcell q hlim ⊢
    refine ⟨_, rfl, _, rfl, _, _, rfl, rfl, _, _, rfl, ⟨by omega, by omega, by omega, by omega⟩, fun Dn hD => ?_⟩
    have en : ((L : Int) + 1 - (lo : Int)).toNat = L + 1 - lo := by omega
    rw [en]
    refine lc_rangeM (lo := (lo : Int)) (j := 6) (fun i => V.int (v (lo + i))) (by omega) hD (fun i hi H1 s2 R kk => ?_) (fun H1 s2 h1 => ?_)
    · obtain ⟨c1, c2⟩ := hcell (lo + i) (by omega) (by omega)
      have S1 := S.mono s2
      exact ⟨_, rfl, p, dx, _, rfl, S1.hp, l_no (by decide +kernel) (by decide +kernel) (by decide +kernel) (by decide +kernel) (by decide +kernel), _, rfl, _, rfl, H0, p, dx, t, l0, c, ls, r0, rs, wd, md, m, lo + i, n, v (lo + i), by rfl, S1, c2.mono s2, hmd, hn, c1, fun H' s' => kk H' s'⟩
    · refine ⟨Dn, (List.range (L + 1 - lo)).map fun i => v (lo + i), rfl, sq_of ?_, ?_⟩
      · rw [h1, List.map_map]; rfl
      · exact q H1 s2
end
end SM

namespace SM
open PySem L2
theorem TabAt.rebase {C : Addr} {B H : Hp} {q : Addr} {o o' : HO} {p dx t l0 c : Addr} {ls : List Addr} {r0 : List Int} {rs : List (List Int)} {w md : Str} {m : Option Int} (S : TabAt C (upd B q o) H p dx t l0 c ls r0 rs w m md) :
    TabAt C (upd B q o') (upd H q o') p dx t l0 c ls r0 rs w m md := by
  have nq : ∀ a ∈ p :: t :: l0 :: ls, a ≠ q := fun a ha e => by
    have := S.fr a ha
    rw [e, upd_same] at this
    cases this
  have hB : ∀ a ∈ p :: t :: l0 :: ls, B a = none := fun a ha => by
    have := S.fr a ha
    rw [upd_ne (nq a ha)] at this
    exact this
  refine ⟨fun b x e => ?_, ?_, ?_, ?_, S.hl, fun j l r a b => ?_, S.nd, fun a ha => ?_⟩
  · by_cases h : b = q
    · subst h
      rw [upd_same] at e ⊢
      exact e
    · rw [upd_ne h] at e ⊢
      exact S.sm b x (by rw [upd_ne h]; exact e)
  · rw [upd_ne (nq p (by simp))]; exact S.hp
  · rw [upd_ne (nq t (by simp))]; exact S.ht
  · rw [upd_ne (nq l0 (by simp))]; exact S.h0
  · have hm : l ∈ ls := List.mem_of_getElem? a
    rw [upd_ne (nq l (by simp [hm]))]
    exact S.hr j l r a b
  · rw [upd_ne (nq a ha)]
    exact hB a ha
/-! ### rows, sets, rings -/
def inW (wd : Str) : Bool := inV (.str wd) [.str "row", .str "set", .str "ring"]
def headPos (xs : List V) : Bool := match xs with
  | .int i :: _ => decide (0 < i)
  | _ => false
def good (wd : Str) (xs : List V) (l : Int) (m : Option Int) : Bool := okCounts xs && ((inW wd && areB wd l m) && !(headPos xs && moreB m))
def plainCW (wd : Str) (l : Int) (m : Option Int) : Prop := (l = 1 ∧ m = some 1) ∨ wd = "row"
def CWp (W : Ad) (wd : Str) (xs : List V) (l : Int) (m : Option Int) (H : Hp) (Q : VK) (E : XK) : Prop :=
  (∀ x ∈ xs, IB x) ∧ xs.length ≤ 1000 ∧ l ≤ 1000 ∧ (good wd xs l m = false → ∀ H', Same H H' → E (.ref W.cBadCounts) none H') ∧
  (good wd xs l m = true → ∃ cs : List Int, xs = cs.map V.int ∧ Smc cs ∧ plainCW wd l m ∧
    ∀ (p : Addr) (H' : Hp) (out : List Int), Same H H' → H p = none → H' p = some (.lst (out.map V.int)) → out.length = cs.length → (l = 1 → m = some 1 → out = cs) → Q (.ref p) H')
def spCW (W : Ad) : Sp := fun vs H Q E => ∃ (wd : Str) (a : Addr) (xs : List V) (l : Int) (m : Option Int) (lb : Bool), vs = [.str wd, .ref a, .int l, oV m, .bl lb] ∧ H a = some (.lst xs) ∧ CWp W wd xs l m H Q E
def outv (md : Str) (cs : List Int) (m : Option Int) (lo n : Nat) : Int := ((List.range (lim m (max n 1) + 1 - lo)).map fun i => tab md cs (lo + i) n).sum
theorem outv_one {md : Str} {cs : List Int} {n : Nat} : outv md cs (some 1) 1 n = cs.getD n 0 := by
  unfold outv
  rw [show lim (some 1) (max n 1) = 1 from by
    show min (max n 1) (Int.toNat 1) = 1
    rw [show Int.toNat 1 = 1 from rfl]
    omega]
  show (tab md cs (1 + 0) n + 0) = _
  rw [Int.add_zero]
  rfl
section
variable {P : Program} {w : World} {K : PySem.W.Frag} {mg : Str → Option Value} {base : Heap} {W : Ad}
theorem ok_CW (T : Tx K mg W) (D : Df K mg "_counts_within" s__counts_within ["word", "counts", "least", "most", "labelled"])
    (C1 : Cal P w K mg base (L2.CX P w) 2 "check_counts" ["counts"] (spCheck W)) (C2 : Cal P w K mg base CX0 2 "are_bounds" ["word", "least", "most"] spBounds) (C3 : Cal P w K mg base CX0 1 "more_than_one" ["most"] spMore)
    (C4 : Cal P w K mg base CX0 1 "mode_of" ["labelled"] spMode) (MKI : ∃ f, Mk K W.cMembers f ∧ ∃ fd, Binds K fd ["self", "word", "most", "counts", "mode"] [] ∧ FnOk P w K mg base CX0 1 f fd ["self", "word", "most", "counts", "mode"] (spInit W.cMembers))
    (C5 : CalM P w K mg base CX0 3 W.cMembers "grow" ["self"] (spGrow K W.cMembers)) (C6 : CalM P w K mg base CX0 4 W.cMembers "within" ["self", "least", "most", "size"] (spWithin K W.cMembers)) :
    Cal P w K mg base (L2.CX P w) 5 "_counts_within" ["word", "counts", "least", "most", "labelled"] (spCW W) := by
  obtain ⟨f, fd, g, F, b⟩ := D
  obtain ⟨f1, fd1, g_check_counts, k_check_counts, b_check_counts, G_check_counts⟩ := C1.ex
  obtain ⟨f2, fd2, g_are_bounds, k_are_bounds, b_are_bounds, G_are_bounds⟩ := C2.ex
  obtain ⟨f3, fd3, g_more_than_one, k_more_than_one, b_more_than_one, G_more_than_one⟩ := C3.ex
  obtain ⟨f4, fd4, g_mode_of, k_mode_of, b_mode_of, G_mode_of⟩ := C4.ex
  obtain ⟨fi, MK_Members, fdi, B_Members_init, G_Members_init⟩ := MKI
  obtain ⟨f5, fd5, M_Members_grow, B_Members_grow, G_Members_grow⟩ := C5.ex
  obtain ⟨f6, fd6, M_Members_within, B_Members_within, G_Members_within⟩ := C6.ex
  refine ⟨f, fd, g, F.kp, b, F.okX sc__counts_within (fun vs H Q E h => ?_) (fun cdv A outer s H vs Q E hr h => ?_)⟩
  · obtain ⟨_, _, _, _, _, _, rfl, _⟩ := h
    rfl
  · obtain ⟨wd, a, xs, l, m, lb, rfl, hA, hib, hlen, hl, kF, kT⟩ := h
    refine ⟨_, (pss_cons (ps_expr (pe_callS G_check_counts (hr.mono (by decide)) (by rfl) g_check_counts k_check_counts b_check_counts (fun σ => passAt (takes_of rfl rfl rfl rfl) σ) (pa_cons (pv 1) pa_nil)))
  (pss_cons (ps_if (PW.pt (pw_or (pt_cmpR op_notIn_seq (pv 0) (pe_glob (by rfl) T.g_MEMBER_WORDS T.r_MEMBER_WORDS) (by rfl)) (pw_or1 (pt_not (pt_val (pe_call G_are_bounds (hr.mono (by decide)) (by rfl) g_are_bounds k_are_bounds b_are_bounds .nil pass0 (pa_cons (pv 0) (pa_cons (pv 2) (pa_cons (pv 3) pa_nil))))))))) (
    (pss_one (ps_raise rfl (takes_of rfl rfl rfl rfl) (pmk_own PySem.F.excBase_ValueError T.e_BadCounts.x T.e_BadCounts.g T.e_BadCounts.k (raises_own T.e_BadCounts.b T.e_BadCounts.t) rfl)))) (pss_nil))
  (pss_cons (ps_if (PW.pt (pw_and (pt_cmpR op_gt (pe_ix ix_list (pv 1) pe_int (fun _ _ => rfl)) pe_int (nomark _)) (pw_and1 (pt_val (pe_call G_more_than_one (hr.mono (by decide)) (by rfl) g_more_than_one k_more_than_one b_more_than_one .nil pass0 (pa_cons (pv 3) pa_nil)))))) (
    (pss_one (ps_raise rfl (takes_of rfl rfl rfl rfl) (pmk_own PySem.F.excBase_ValueError T.e_BadCounts.x T.e_BadCounts.g T.e_BadCounts.k (raises_own T.e_BadCounts.b T.e_BadCounts.t) rfl)))) (pss_nil))
  (pss_cons (ps_set (i := 5) sc__counts_within.nd rfl (.inl rfl) (pe_make MK_Members G_Members_init (hr.mono (by decide)) (by rfl) T.g_Members B_Members_init .nil pass0 (pa_cons (pv 0) (pa_cons (pv 3) (pa_cons (pv 1) (pa_cons (pe_call G_mode_of (hr.mono (by decide)) (by rfl) g_mode_of k_mode_of b_mode_of .nil pass0 (pa_cons (pv 4) pa_nil)) pa_nil))))))
  (pss_cons (ps_set (i := 6) sc__counts_within.nd rfl (.inl rfl) (pe_lst pa_nil))
  (pss_cons (ps_for (passes_of rfl) rfl (pi_range1 (by rfl) T.n_range (pa_cons (pe_callB call_len_seq (by rfl) T.n_len (by decide +kernel) (pa_cons (pv 1) pa_nil)) pa_nil)) (pg_name (i := 7) sc__counts_within.nd rfl (.inl rfl)) (
    (pss_cons (ps_expr (pe_meth0 (pv 5) T.cl_Members M_Members_grow G_Members_grow (hr.mono (by decide)) B_Members_grow .nil pass0))
    (pss_one (ps_expr (pe_bm PySem.F.plainAttrs_list PySem.F.slot_list_append PySem.F.type_list_append mt_append (pv 6) (pa_cons (pe_meth (pv 5) T.cl_Members M_Members_within G_Members_within (hr.mono (by decide)) B_Members_within .nil pass0 (pa_cons (pv 2) (pa_cons (pv 3) (pa_cons (pv 7) pa_nil)))) pa_nil)))))))
  (pss_one (ps_ret (pv 6))))))))), ?_⟩
    refine ⟨_, rfl, a, xs, rfl, hA, hib, hlen, fun hok H1 s1 => ?_, fun hok H1 s1 => kF (by unfold good; rw [hok]; rfl) H1 s1⟩
    have hA1 := s1 _ _ hA
    refine ⟨_, rfl, W.aMW, _, rfl, .inr (T.s_MW _), rfl, rfl, _, rfl, ?_⟩
    cases hw : inW wd with
    | false =>
      have : (if (true : Bool) = true then !inV (V.str wd) [.str "row", .str "set", .str "ring"] else inV (V.str wd) [.str "row", .str "set", .str "ring"]) = true := by
        show (!inW wd) = true
        rw [hw]; rfl
      rw [this]
      refine iteT (iteT ?_)
      exact kF (by unfold good; rw [hw]; simp) H1 s1
    | true =>
      have : (if (true : Bool) = true then !inV (V.str wd) [.str "row", .str "set", .str "ring"] else inV (V.str wd) [.str "row", .str "set", .str "ring"]) = false := by
        show (!inW wd) = false
        rw [hw]; rfl
      rw [this]
      refine iteF ?_
      refine ⟨_, rfl, _, rfl, _, rfl, wd, l, m, rfl, _, rfl, ?_⟩
      cases hb : areB wd l m with
      | false => exact iteT (kF (by unfold good; rw [hw, hb]; simp) H1 s1)
      | true =>
        refine iteF ?_
        -- counts[0] > 0 and more_than_one(most)
        have hne : ∃ i r, xs = V.int i :: r ∧ 0 ≤ i := by
          unfold okCounts at hok
          simp only [Bool.and_eq_true, decide_eq_true_eq, List.all_eq_true] at hok
          obtain ⟨h1, _, h2⟩ := hok
          cases xs with
          | nil => simp at h1
          | cons x r =>
            have h3 := h2 x (by simp)
            cases x with
            | int i => exact ⟨i, r, rfl, of_decide_eq_true h3⟩
            | _ => cases h3
        obtain ⟨i0, r0, ex, hi0⟩ := hne
        have hhd : headPos xs = decide (0 < i0) := by rw [ex]; rfl
        refine ⟨_, rfl, a, _, _, .int i0, rfl, rfl, sq_of hA1, atI_nat (j := 0) (by rw [ex]; rfl), _, _, rfl, rfl, _, rfl, ?_⟩
        -- both ways out of the test
        have raise_ : headPos xs = true → moreB m = true → E (.ref W.cBadCounts) none H1 := fun h1 h2 => kF (by unfold good; rw [hok, hw, hb, h1, h2]; rfl) H1 s1
        have hgood : (headPos xs && moreB m) = false → good wd xs l m = true := fun h => by unfold good; rw [hok, hw, hb, h]; rfl
        refine ite2 (fun c1 => ?_) (fun c1 => ?_)
        · have hp : headPos xs = true := by rw [hhd]; exact c1
          refine ⟨_, rfl, m, rfl, _, rfl, ?_⟩
          cases hm : moreB m with
          | true => exact iteT (raise_ hp hm)
          | false =>
            refine iteF ?_
            have hg := hgood (by rw [hm, Bool.and_false])
            obtain ⟨cs, rfl, hsm, hpl, k⟩ := kT hg
            have hl0 : 0 ≤ l := by
              unfold areB lowB at hb
              simp only [Bool.and_eq_true, decide_eq_true_eq] at hb
              split at hb <;> omega
            obtain ⟨lo, rfl⟩ := Int.eq_ofNat_of_zero_le hl0
            have hcl : 1 ≤ cs.length ∧ cs.length ≤ 61 := by
              unfold okCounts at hok
              simp only [Bool.and_eq_true, decide_eq_true_eq, List.length_map] at hok
              omega
            have hm0 : ∀ i, m = some i → 0 ≤ i := by
              intro i e
              subst e
              unfold areB upB at hb
              simp only [Bool.and_eq_true, decide_eq_true_eq] at hb
              omega
            have hmd : modeS lb ≠ "rigid" := by cases lb <;> decide +kernel
            -- told = Members(..)
            refine ⟨_, rfl, _, rfl, _, rfl, _, rfl, lb, rfl, fun x dx nx ndx nne => ⟨x, dx, a, wd, modeS lb, m, rfl, upd_same, fun t l0 H2 nt nl0 tne hp2 ht2 h02 keep => ⟨rfl, ?_⟩⟩⟩
            have s2 : Same H1 H2 := fun b o e => keep b o (by rw [upd_ne (ne_of_none e nx), upd_ne (ne_of_none e ndx)]; exact e) (ne_of_none e nx)
            have ntx : t ≠ x := fun e => by rw [e, upd_same] at nt; cases nt
            have nlx : l0 ≠ x := fun e => by rw [e, upd_same] at nl0; cases nl0
            rw [upd_ne ntx] at nt
            rw [upd_ne nlx] at nl0
            have ntd : t ≠ dx := fun e => by rw [e, upd_same] at nt; cases nt
            have nld : l0 ≠ dx := fun e => by rw [e, upd_same] at nl0; cases nl0
            rw [upd_ne ntd] at nt
            rw [upd_ne nld] at nl0
            -- made = []
            refine ⟨Nat.zero_le _, fun q nq => ?_⟩
            have nqx : x ≠ q := fun e => by rw [← e, hp2] at nq; cases nq
            have nqt : t ≠ q := fun e => by rw [← e, ht2] at nq; cases nq
            have nql : l0 ≠ q := fun e => by rw [← e, h02] at nq; cases nq
            have hq1 : H1 q = none := s2.free nq
            have St : TabAt W.cMembers (upd H1 q (.lst [])) (upd H2 q (.lst [])) x dx t l0 a [] (rowT (modeS lb) cs 0 0) (rsT (modeS lb) cs (nl m 0) 0) wd m (modeS lb) := by
              have e0 : nl m 0 = 0 := by
                unfold nl
                have : lim m (0 - 1) ≤ 0 := by
                  cases m with
                  | none => exact Nat.le_refl _
                  | some i => exact Nat.min_le_left _ _
                omega
              rw [e0]
              refine ⟨fun b o e => ?_, by rw [upd_ne nqx]; exact hp2, by rw [upd_ne nqt]; exact ht2, by rw [upd_ne nql]; exact h02, rfl, fun j l r e => by simp at e, by simp [ntx.symm, nlx.symm, tne], fun b hb => ?_⟩
              · by_cases hbq : b = q
                · rw [hbq, upd_same] at e ⊢; exact e
                · rw [upd_ne hbq] at e ⊢; exact s2 _ _ e
              · simp only [List.mem_cons, List.mem_nil_iff, or_false] at hb
                rcases hb with e | e | e
                · rw [e, upd_ne nqx]; exact nx
                · rw [e, upd_ne nqt]; exact nt
                · rw [e, upd_ne nql]; exact nl0
            have hA2 : ∀ o, (upd H1 q o) a = some (.lst (cs.map V.int)) := fun o => by
              rw [upd_ne (ne_of_none hA1 hq1)]; exact hA1
            -- the loop
            refine ⟨_, rfl, a, _, rfl, .inl (sq_of (St.sm _ _ (hA2 _))), cs.length, by rw [List.length_map], by omega, by omega, ?_⟩
            rw [Int.toNat_natCast]
            refine for_range (lo := 0) (n := cs.length) (fun i σ H' => ∃ (y7 : Option V) (ls : List Addr), σ = [some (.str wd), some (.ref a), some (.int lo), some (oV m), some (.bl lb), some (.ref x), some (.ref q), y7] ∧
              TabAt W.cMembers (upd H1 q (.lst (((List.range i).map fun n => outv (modeS lb) cs m lo n).map V.int))) H' x dx t l0 a ls (rowT (modeS lb) cs 0 i) (rsT (modeS lb) cs (nl m i) i) wd m (modeS lb)) ⟨none, [], rfl, St⟩ ?_ ?_
            · rintro i σ H3 hi ⟨y7, ls, rfl, S3⟩
              have hc0 : SqL K (upd H1 q (.lst (((List.range i).map fun n => outv (modeS lb) cs m lo n).map V.int))) a (cs.map V.int) := sq_of (hA2 _)
              have hcond : nl m (i + 1) = 0 ∨ (decide (wd = "set") && !decide (modeS lb = "labelled")) = false := by
                rcases hpl with ⟨_, e⟩ | e
                · left
                  rw [e]
                  show min (i + 1 - 1) (Int.toNat 1) - 1 = 0
                  rw [show Int.toNat 1 = 1 from rfl]
                  omega
                · right
                  rw [e, decide_eq_false (by decide +kernel)]
                  rfl
              refine ⟨_, rfl, x, dx, _, rfl, S3.hp, l_no (by decide +kernel) (by decide +kernel) (by decide +kernel) (by decide +kernel) (by decide +kernel), _, x, dx, t, l0, a, ls, wd, modeS lb, m, cs, i, rfl, S3, hc0, hsm, hi, hcl.2, hm0, hcond, fun ls' H4 S4 _ => ?_⟩
              have hq4 : H4 q = some (.lst (((List.range i).map fun n => outv (modeS lb) cs m lo n).map V.int)) := S4.sm _ _ upd_same
              have hcell : ∀ j, lo ≤ j → j ≤ lim m (max i 1) → (wd = "row" ∨ j = 1) ∧ Cell K H4 l0 a ls' j i (tab (modeS lb) cs j i) := by
                intro j h1 h2
                refine ⟨?_, ?_⟩
                · rcases hpl with ⟨e1, e2⟩ | e
                  · right
                    rw [e2] at h2
                    have h2' : j ≤ min (max i 1) (Int.toNat 1) := h2
                    rw [show Int.toNat 1 = 1 from rfl] at h2'
                    omega
                  · exact .inl e
                · match j, h2 with
                  | 0, _ => exact ⟨l0, _, rfl, sq_of S4.h0, rowT_get (Nat.lt_succ_self _)⟩
                  | 1, _ =>
                    refine ⟨a, cs, rfl, S4.sm.seq hc0, ?_⟩
                    rw [List.getElem?_eq_getElem hi, tab, List.getD_eq_getElem?_getD, List.getElem?_eq_getElem hi]; rfl
                  | j' + 2, h2 =>
                    have hj : j' < nl m (i + 1) := by
                      unfold nl
                      rw [Nat.add_sub_cancel]
                      cases m with
                      | none =>
                        have h2' : j' + 2 ≤ max i 1 := h2
                        show j' < i - 1
                        omega
                      | some z =>
                        have h2' : j' + 2 ≤ min (max i 1) z.toNat := h2
                        show j' < min i z.toNat - 1
                        omega
                    have gl : ls'[j']? = some (ls'[j']'(by rw [S4.hl]; unfold rsT; simpa using hj)) := List.getElem?_eq_getElem _
                    have gr : (rsT (modeS lb) cs (nl m (i + 1)) (i + 1))[j']? = some (rowT (modeS lb) cs (j' + 2) (i + 1)) := by
                      unfold rsT
                      rw [List.getElem?_map, List.getElem?_range hj]; rfl
                    exact ⟨_, _, gl, sq_of (S4.hr _ _ _ gl gr), rowT_get (Nat.lt_succ_self _)⟩
              refine ⟨_, rfl, .inl ⟨rfl, _, sq_of hq4⟩, _, rfl, x, dx, _, rfl, S4.hp, l_no (by decide +kernel) (by decide +kernel) (by decide +kernel) (by decide +kernel) (by decide +kernel), _, rfl, _, rfl, _, rfl, _, x, dx, t, l0, a, ls', _, _, wd, modeS lb, m, lo, i, fun j => tab (modeS lb) cs j i, by rw [Int.zero_add]; rfl, S4, hmd, by omega, by omega, hm0, hcell, fun H5 s5 => ?_⟩
              refine ⟨q, _, _, rfl, rfl, s5 _ _ hq4, szl _ (by simp; omega), ?_⟩
              refine ⟨_, ls', rfl, ?_⟩
              have S6 := (S4.mono s5).rebase (o' := HO.lst ((((List.range i).map fun n => outv (modeS lb) cs m lo n).map V.int) ++ [V.int (outv (modeS lb) cs m lo i)]))
              rw [show (((List.range (i + 1)).map fun n => outv (modeS lb) cs m lo n).map V.int) = (((List.range i).map fun n => outv (modeS lb) cs m lo n).map V.int) ++ [V.int (outv (modeS lb) cs m lo i)] by
                rw [List.range_succ, List.map_append, List.map_append]; rfl]
              exact S6
            · rintro σ H3 ⟨y7, ls, rfl, S3⟩
              have hq3 := S3.sm _ _ (upd_same (H := H1) (a := q))
              have s13 : Same H1 H3 := fun b o e => S3.sm b o (by rw [upd_ne (ne_of_none e hq1)]; exact e)
              refine ⟨_, rfl, k q H3 ((List.range cs.length).map fun n => outv (modeS lb) cs m lo n) (s1.trans s13) (s1.free hq1) hq3 (by simp) fun e1 e2 => ?_⟩
              subst e2
              have e1' : lo = 1 := by omega
              subst e1'
              apply List.ext_getElem?
              intro n
              by_cases hn : n < cs.length
              · rw [List.getElem?_map, List.getElem?_range hn, List.getElem?_eq_getElem hn]
                show some (outv (modeS lb) cs (some 1) 1 n) = _
                rw [outv_one, List.getD_eq_getElem?_getD, List.getElem?_eq_getElem hn]; rfl
              · rw [List.getElem?_eq_none (by simpa using hn), List.getElem?_eq_none (by omega)]
        · refine iteF ?_
          have hp : headPos xs = false := by rw [hhd]; simpa using c1
          have hg := hgood (by rw [hp, Bool.false_and])
          obtain ⟨cs, rfl, hsm, hpl, k⟩ := kT hg
          have hl0 : 0 ≤ l := by
            unfold areB lowB at hb
            simp only [Bool.and_eq_true, decide_eq_true_eq] at hb
            split at hb <;> omega
          obtain ⟨lo, rfl⟩ := Int.eq_ofNat_of_zero_le hl0
          have hcl : 1 ≤ cs.length ∧ cs.length ≤ 61 := by
            unfold okCounts at hok
            simp only [Bool.and_eq_true, decide_eq_true_eq, List.length_map] at hok
            omega
          have hm0 : ∀ i, m = some i → 0 ≤ i := by
            intro i e
            subst e
            unfold areB upB at hb
            simp only [Bool.and_eq_true, decide_eq_true_eq] at hb
            omega
          have hmd : modeS lb ≠ "rigid" := by cases lb <;> decide +kernel
          -- told = Members(..)
          refine ⟨_, rfl, _, rfl, _, rfl, _, rfl, lb, rfl, fun x dx nx ndx nne => ⟨x, dx, a, wd, modeS lb, m, rfl, upd_same, fun t l0 H2 nt nl0 tne hp2 ht2 h02 keep => ⟨rfl, ?_⟩⟩⟩
          have s2 : Same H1 H2 := fun b o e => keep b o (by rw [upd_ne (ne_of_none e nx), upd_ne (ne_of_none e ndx)]; exact e) (ne_of_none e nx)
          have ntx : t ≠ x := fun e => by rw [e, upd_same] at nt; cases nt
          have nlx : l0 ≠ x := fun e => by rw [e, upd_same] at nl0; cases nl0
          rw [upd_ne ntx] at nt
          rw [upd_ne nlx] at nl0
          have ntd : t ≠ dx := fun e => by rw [e, upd_same] at nt; cases nt
          have nld : l0 ≠ dx := fun e => by rw [e, upd_same] at nl0; cases nl0
          rw [upd_ne ntd] at nt
          rw [upd_ne nld] at nl0
          -- made = []
          refine ⟨Nat.zero_le _, fun q nq => ?_⟩
          have nqx : x ≠ q := fun e => by rw [← e, hp2] at nq; cases nq
          have nqt : t ≠ q := fun e => by rw [← e, ht2] at nq; cases nq
          have nql : l0 ≠ q := fun e => by rw [← e, h02] at nq; cases nq
          have hq1 : H1 q = none := s2.free nq
          have St : TabAt W.cMembers (upd H1 q (.lst [])) (upd H2 q (.lst [])) x dx t l0 a [] (rowT (modeS lb) cs 0 0) (rsT (modeS lb) cs (nl m 0) 0) wd m (modeS lb) := by
            have e0 : nl m 0 = 0 := by
              unfold nl
              have : lim m (0 - 1) ≤ 0 := by
                cases m with
                | none => exact Nat.le_refl _
                | some i => exact Nat.min_le_left _ _
              omega
            rw [e0]
            refine ⟨fun b o e => ?_, by rw [upd_ne nqx]; exact hp2, by rw [upd_ne nqt]; exact ht2, by rw [upd_ne nql]; exact h02, rfl, fun j l r e => by simp at e, by simp [ntx.symm, nlx.symm, tne], fun b hb => ?_⟩
            · by_cases hbq : b = q
              · rw [hbq, upd_same] at e ⊢; exact e
              · rw [upd_ne hbq] at e ⊢; exact s2 _ _ e
            · simp only [List.mem_cons, List.mem_nil_iff, or_false] at hb
              rcases hb with e | e | e
              · rw [e, upd_ne nqx]; exact nx
              · rw [e, upd_ne nqt]; exact nt
              · rw [e, upd_ne nql]; exact nl0
          have hA2 : ∀ o, (upd H1 q o) a = some (.lst (cs.map V.int)) := fun o => by
            rw [upd_ne (ne_of_none hA1 hq1)]; exact hA1
          -- the loop
          refine ⟨_, rfl, a, _, rfl, .inl (sq_of (St.sm _ _ (hA2 _))), cs.length, by rw [List.length_map], by omega, by omega, ?_⟩
          rw [Int.toNat_natCast]
          refine for_range (lo := 0) (n := cs.length) (fun i σ H' => ∃ (y7 : Option V) (ls : List Addr), σ = [some (.str wd), some (.ref a), some (.int lo), some (oV m), some (.bl lb), some (.ref x), some (.ref q), y7] ∧
            TabAt W.cMembers (upd H1 q (.lst (((List.range i).map fun n => outv (modeS lb) cs m lo n).map V.int))) H' x dx t l0 a ls (rowT (modeS lb) cs 0 i) (rsT (modeS lb) cs (nl m i) i) wd m (modeS lb)) ⟨none, [], rfl, St⟩ ?_ ?_
          · rintro i σ H3 hi ⟨y7, ls, rfl, S3⟩
            have hc0 : SqL K (upd H1 q (.lst (((List.range i).map fun n => outv (modeS lb) cs m lo n).map V.int))) a (cs.map V.int) := sq_of (hA2 _)
            have hcond : nl m (i + 1) = 0 ∨ (decide (wd = "set") && !decide (modeS lb = "labelled")) = false := by
              rcases hpl with ⟨_, e⟩ | e
              · left
                rw [e]
                show min (i + 1 - 1) (Int.toNat 1) - 1 = 0
                rw [show Int.toNat 1 = 1 from rfl]
                omega
              · right
                rw [e, decide_eq_false (by decide +kernel)]
                rfl
            refine ⟨_, rfl, x, dx, _, rfl, S3.hp, l_no (by decide +kernel) (by decide +kernel) (by decide +kernel) (by decide +kernel) (by decide +kernel), _, x, dx, t, l0, a, ls, wd, modeS lb, m, cs, i, rfl, S3, hc0, hsm, hi, hcl.2, hm0, hcond, fun ls' H4 S4 _ => ?_⟩
            have hq4 : H4 q = some (.lst (((List.range i).map fun n => outv (modeS lb) cs m lo n).map V.int)) := S4.sm _ _ upd_same
            have hcell : ∀ j, lo ≤ j → j ≤ lim m (max i 1) → (wd = "row" ∨ j = 1) ∧ Cell K H4 l0 a ls' j i (tab (modeS lb) cs j i) := by
              intro j h1 h2
              refine ⟨?_, ?_⟩
              · rcases hpl with ⟨e1, e2⟩ | e
                · right
                  rw [e2] at h2
                  have h2' : j ≤ min (max i 1) (Int.toNat 1) := h2
                  rw [show Int.toNat 1 = 1 from rfl] at h2'
                  omega
                · exact .inl e
              · match j, h2 with
                | 0, _ => exact ⟨l0, _, rfl, sq_of S4.h0, rowT_get (Nat.lt_succ_self _)⟩
                | 1, _ =>
                  refine ⟨a, cs, rfl, S4.sm.seq hc0, ?_⟩
                  rw [List.getElem?_eq_getElem hi, tab, List.getD_eq_getElem?_getD, List.getElem?_eq_getElem hi]; rfl
                | j' + 2, h2 =>
                  have hj : j' < nl m (i + 1) := by
                    unfold nl
                    rw [Nat.add_sub_cancel]
                    cases m with
                    | none =>
                      have h2' : j' + 2 ≤ max i 1 := h2
                      show j' < i - 1
                      omega
                    | some z =>
                      have h2' : j' + 2 ≤ min (max i 1) z.toNat := h2
                      show j' < min i z.toNat - 1
                      omega
                  have gl : ls'[j']? = some (ls'[j']'(by rw [S4.hl]; unfold rsT; simpa using hj)) := List.getElem?_eq_getElem _
                  have gr : (rsT (modeS lb) cs (nl m (i + 1)) (i + 1))[j']? = some (rowT (modeS lb) cs (j' + 2) (i + 1)) := by
                    unfold rsT
                    rw [List.getElem?_map, List.getElem?_range hj]; rfl
                  exact ⟨_, _, gl, sq_of (S4.hr _ _ _ gl gr), rowT_get (Nat.lt_succ_self _)⟩
            refine ⟨_, rfl, .inl ⟨rfl, _, sq_of hq4⟩, _, rfl, x, dx, _, rfl, S4.hp, l_no (by decide +kernel) (by decide +kernel) (by decide +kernel) (by decide +kernel) (by decide +kernel), _, rfl, _, rfl, _, rfl, _, x, dx, t, l0, a, ls', _, _, wd, modeS lb, m, lo, i, fun j => tab (modeS lb) cs j i, by rw [Int.zero_add]; rfl, S4, hmd, by omega, by omega, hm0, hcell, fun H5 s5 => ?_⟩
            refine ⟨q, _, _, rfl, rfl, s5 _ _ hq4, szl _ (by simp; omega), ?_⟩
            refine ⟨_, ls', rfl, ?_⟩
            have S6 := (S4.mono s5).rebase (o' := HO.lst ((((List.range i).map fun n => outv (modeS lb) cs m lo n).map V.int) ++ [V.int (outv (modeS lb) cs m lo i)]))
            rw [show (((List.range (i + 1)).map fun n => outv (modeS lb) cs m lo n).map V.int) = (((List.range i).map fun n => outv (modeS lb) cs m lo n).map V.int) ++ [V.int (outv (modeS lb) cs m lo i)] by
              rw [List.range_succ, List.map_append, List.map_append]; rfl]
            exact S6
          · rintro σ H3 ⟨y7, ls, rfl, S3⟩
            have hq3 := S3.sm _ _ (upd_same (H := H1) (a := q))
            have s13 : Same H1 H3 := fun b o e => S3.sm b o (by rw [upd_ne (ne_of_none e hq1)]; exact e)
            refine ⟨_, rfl, k q H3 ((List.range cs.length).map fun n => outv (modeS lb) cs m lo n) (s1.trans s13) (s1.free hq1) hq3 (by simp) fun e1 e2 => ?_⟩
            subst e2
            have e1' : lo = 1 := by omega
            subst e1'
            apply List.ext_getElem?
            intro n
            by_cases hn : n < cs.length
            · rw [List.getElem?_map, List.getElem?_range hn, List.getElem?_eq_getElem hn]
              show some (outv (modeS lb) cs (some 1) 1 n) = _
              rw [outv_one, List.getD_eq_getElem?_getD, List.getElem?_eq_getElem hn]; rfl
            · rw [List.getElem?_eq_none (by simpa using hn), List.getElem?_eq_none (by omega)]
end
end SM

namespace SM
open PySem L2
section
variable {P : Program} {w : World} {K : PySem.W.Frag} {mg : Str → Option Value} {base : Heap} {W : Ad}
def spRows (W : Ad) (wd : Str) : Sp := fun vs H Q E => ∃ (a : Addr) (xs : List V) (l : Int) (m : Option Int) (lb : Bool), vs = [.ref a, .int l, oV m, .bl lb] ∧ H a = some (.lst xs) ∧ CWp W wd xs l m H Q E
theorem ok_rows (D : Df K mg "rows" s_rows ["counts", "least", "most", "labelled"]) (C1 : Cal P w K mg base (L2.CX P w) 5 "_counts_within" ["word", "counts", "least", "most", "labelled"] (spCW W)) :
    Cal P w K mg base (L2.CX P w) 6 "rows" ["counts", "least", "most", "labelled"] (spRows W "row") := by
  obtain ⟨f, fd, g, F, b⟩ := D
  obtain ⟨f1, fd1, g__counts_within, k__counts_within, b__counts_within, G__counts_within⟩ := C1.ex
  refine ⟨f, fd, g, F.kp, b, F.okX sc_rows (fun vs H Q E h => ?_) (fun cdv A outer s H vs Q E hr h => ?_)⟩
  · obtain ⟨_, _, _, _, _, rfl, _⟩ := h
    rfl
  · obtain ⟨a, xs, l, m, lb, rfl, hA, k⟩ := h
    refine ⟨_, (pss_one (ps_ret (pe_callS G__counts_within (hr.mono (by decide)) (by rfl) g__counts_within k__counts_within b__counts_within (fun σ => passAt (takes_of rfl rfl rfl rfl) σ) (pa_cons pe_str (pa_cons (pv 0) (pa_cons (pv 1) (pa_cons (pv 2) (pa_cons (pv 3) pa_nil)))))))), ?_⟩
    exact ⟨_, rfl, _, rfl, _, rfl, _, rfl, "row", a, xs, l, m, lb, rfl, hA, k⟩
theorem ok_sets (D : Df K mg "sets" s_sets ["counts", "least", "most", "labelled"]) (C1 : Cal P w K mg base (L2.CX P w) 5 "_counts_within" ["word", "counts", "least", "most", "labelled"] (spCW W)) :
    Cal P w K mg base (L2.CX P w) 6 "sets" ["counts", "least", "most", "labelled"] (spRows W "set") := by
  obtain ⟨f, fd, g, F, b⟩ := D
  obtain ⟨f1, fd1, g__counts_within, k__counts_within, b__counts_within, G__counts_within⟩ := C1.ex
  refine ⟨f, fd, g, F.kp, b, F.okX sc_sets (fun vs H Q E h => ?_) (fun cdv A outer s H vs Q E hr h => ?_)⟩
  · obtain ⟨_, _, _, _, _, rfl, _⟩ := h
    rfl
  · obtain ⟨a, xs, l, m, lb, rfl, hA, k⟩ := h
    refine ⟨_, (pss_one (ps_ret (pe_callS G__counts_within (hr.mono (by decide)) (by rfl) g__counts_within k__counts_within b__counts_within (fun σ => passAt (takes_of rfl rfl rfl rfl) σ) (pa_cons pe_str (pa_cons (pv 0) (pa_cons (pv 1) (pa_cons (pv 2) (pa_cons (pv 3) pa_nil)))))))), ?_⟩
    exact ⟨_, rfl, _, rfl, _, rfl, _, rfl, "set", a, xs, l, m, lb, rfl, hA, k⟩
theorem ok_rings (D : Df K mg "rings" s_rings ["counts", "least", "most", "labelled"]) (C1 : Cal P w K mg base (L2.CX P w) 5 "_counts_within" ["word", "counts", "least", "most", "labelled"] (spCW W)) :
    Cal P w K mg base (L2.CX P w) 6 "rings" ["counts", "least", "most", "labelled"] (spRows W "ring") := by
  obtain ⟨f, fd, g, F, b⟩ := D
  obtain ⟨f1, fd1, g__counts_within, k__counts_within, b__counts_within, G__counts_within⟩ := C1.ex
  refine ⟨f, fd, g, F.kp, b, F.okX sc_rings (fun vs H Q E h => ?_) (fun cdv A outer s H vs Q E hr h => ?_)⟩
  · obtain ⟨_, _, _, _, _, rfl, _⟩ := h
    rfl
  · obtain ⟨a, xs, l, m, lb, rfl, hA, k⟩ := h
    refine ⟨_, (pss_one (ps_ret (pe_callS G__counts_within (hr.mono (by decide)) (by rfl) g__counts_within k__counts_within b__counts_within (fun σ => passAt (takes_of rfl rfl rfl rfl) σ) (pa_cons pe_str (pa_cons (pv 0) (pa_cons (pv 1) (pa_cons (pv 2) (pa_cons (pv 3) pa_nil)))))))), ?_⟩
    exact ⟨_, rfl, _, rfl, _, rfl, _, rfl, "ring", a, xs, l, m, lb, rfl, hA, k⟩
def spBy (W : Ad) : Sp := fun vs H Q E => ∃ (a : Addr) (xs : List V) (wd : Str) (l : Int) (lb : Bool), vs = [.ref a, .str wd, .int l, .bl lb] ∧ H a = some (.lst xs) ∧ CWp W wd xs l (some l) H Q E
theorem ok_by (D : Df K mg "by_members" s_by_members ["counts", "word", "members", "labelled"]) (C1 : Cal P w K mg base (L2.CX P w) 5 "_counts_within" ["word", "counts", "least", "most", "labelled"] (spCW W)) :
    Cal P w K mg base (L2.CX P w) 6 "by_members" ["counts", "word", "members", "labelled"] (spBy W) := by
  obtain ⟨f, fd, g, F, b⟩ := D
  obtain ⟨f1, fd1, g__counts_within, k__counts_within, b__counts_within, G__counts_within⟩ := C1.ex
  refine ⟨f, fd, g, F.kp, b, F.okX sc_by_members (fun vs H Q E h => ?_) (fun cdv A outer s H vs Q E hr h => ?_)⟩
  · obtain ⟨_, _, _, _, _, rfl, _⟩ := h
    rfl
  · obtain ⟨a, xs, wd, l, lb, rfl, hA, k⟩ := h
    refine ⟨_, (pss_one (ps_ret (pe_callS G__counts_within (hr.mono (by decide)) (by rfl) g__counts_within k__counts_within b__counts_within (fun σ => passAt (takes_of rfl rfl rfl rfl) σ) (pa_cons (pv 1) (pa_cons (pv 0) (pa_cons (pv 2) (pa_cons (pv 2) (pa_cons (pv 3) pa_nil)))))))), ?_⟩
    exact ⟨_, rfl, _, rfl, _, rfl, _, rfl, _, rfl, wd, a, xs, l, some l, lb, rfl, hA, k⟩
/-! ### pairs, refused -/
def spPairs (W : Ad) : Sp := fun vs H Q E => ∃ (a b : Addr) (xs ys : List V) (lb : Bool), vs = [.ref a, .ref b, .bl lb] ∧ H a = some (.lst xs) ∧ H b = some (.lst ys) ∧ (∀ x ∈ xs, IB x) ∧ xs.length ≤ 1000 ∧ (∀ x ∈ ys, IB x) ∧ ys.length ≤ 1000 ∧
  (okCounts xs && okCounts ys && decide (xs.length = ys.length)) = false ∧ ∀ H', Same H H' → E (.ref W.cBadCounts) none H'
theorem ok_pairs (T : Tx K mg W) (D : Df K mg "pairs" s_pairs ["first", "second", "labelled"]) (C1 : Cal P w K mg base (L2.CX P w) 2 "check_counts" ["counts"] (spCheck W)) :
    Cal P w K mg base (L2.CX P w) 3 "pairs" ["first", "second", "labelled"] (spPairs W) := by
  obtain ⟨f, fd, g, F, b⟩ := D
  obtain ⟨f1, fd1, g_check_counts, k_check_counts, b_check_counts, G_check_counts⟩ := C1.ex
  refine ⟨f, fd, g, F.kp, b, F.okX sc_pairs (fun vs H Q E h => ?_) (fun cdv A outer s H vs Q E hr h => ?_)⟩
  · obtain ⟨_, _, _, _, _, rfl, _⟩ := h
    rfl
  · obtain ⟨a, b, xs, ys, lb, rfl, hA, hB, i1, n1, i2, n2, hbad, k⟩ := h
    refine ⟨_, (pss_cons (ps_expr (pe_callS G_check_counts (hr.mono (by decide)) (by rfl) g_check_counts k_check_counts b_check_counts (fun σ => passAt (takes_of rfl rfl rfl rfl) σ) (pa_cons (pv 0) pa_nil)))
  (pss_cons (ps_expr (pe_callS G_check_counts (hr.mono (by decide)) (by rfl) g_check_counts k_check_counts b_check_counts (fun σ => passAt (takes_of rfl rfl rfl rfl) σ) (pa_cons (pv 1) pa_nil)))
  (pss_cons (ps_if (pt_cmpR op_ne (pe_callB call_len_seq (by rfl) T.n_len (by decide +kernel) (pa_cons (pv 0) pa_nil)) (pe_callB call_len_seq (by rfl) T.n_len (by decide +kernel) (pa_cons (pv 1) pa_nil)) (nomark _)) (
    (pss_one (ps_raise rfl (takes_of rfl rfl rfl rfl) (pmk_own PySem.F.excBase_ValueError T.e_BadCounts.x T.e_BadCounts.g T.e_BadCounts.k (raises_own T.e_BadCounts.b T.e_BadCounts.t) rfl)))) (pss_nil))
  (pss_one (ps_never))))), ?_⟩
    refine ⟨_, rfl, a, xs, rfl, hA, i1, n1, fun ok1 H1 s1 => ?_, fun _ H1 s1 => k H1 s1⟩
    refine ⟨_, rfl, b, ys, rfl, s1 _ _ hB, i2, n2, fun ok2 H2 s2 => ?_, fun _ H2 s2 => k H2 (s1.trans s2)⟩
    rw [ok1, ok2] at hbad
    have hne : ¬ xs.length = ys.length := fun e => by rw [decide_eq_true e] at hbad; cases hbad
    refine ⟨_, rfl, a, xs, rfl, .inl (sq_of (s2 _ _ (s1 _ _ hA))), _, rfl, b, ys, rfl, .inl (sq_of (s2 _ _ (s1 _ _ hB))), rfl, _, rfl, ?_⟩
    rw [decide_eq_false (fun e => hne (by have := V.int.inj e; omega))]
    exact iteT (k H2 (s1.trans s2))
/-! ### sets_undone: refused, or of [1] -/
def spUndone1 : Sp := fun vs H Q _ => ∃ (a : Addr), vs = [.ref a] ∧ H a = some (.lst [.int 1]) ∧ ∀ H', Same H H' → ∀ v, Q v H'
theorem ok_lab1 (T : Tx K mg W) (D : Df K mg "_labelled_undone" s__labelled_undone ["counts"]) : Cal P w K mg base CX0 1 "_labelled_undone" ["counts"] spUndone1 := by
  obtain ⟨f, fd, g, F, b⟩ := D
  refine ⟨f, fd, g, F.kp, b, F.ok sc__labelled_undone (fun vs H Q E h => ?_) (fun cdv A outer s H vs Q E hr h => ?_)⟩
  · obtain ⟨_, rfl, _⟩ := h
    rfl
  · obtain ⟨a, rfl, hA, k⟩ := h
    refine ⟨_, (pss_cons (ps_set (i := 1) sc__labelled_undone.nd rfl (.inr rfl) (pe_lst (pa_cons pe_int pa_nil)))
  (pss_cons (ps_for PassesOwn.never rfl (pi_range2 (by rfl) T.n_range (pa_cons pe_int (pa_cons (pe_callB call_len_seq (by rfl) T.n_len (by decide +kernel) (pa_cons (pv 0) pa_nil)) pa_nil))) (pg_name (i := 2) sc__labelled_undone.nd rfl (.inr rfl)) (
    (pss_cons (ps_setLc (i := 3) (own := [("at", 4)]) rfl sc__labelled_undone.nd rfl rfl (sw_true rfl rfl rfl (by decide +kernel)) (pi_range2 (by rfl) T.n_range (pa_cons pe_int (pa_cons (pv 2) pa_nil))) (blkOk_by (own := [("at", 4)]) (N := ["counts", "members", "size", "beside", "at"]) (sc := defScope s__labelled_undone) (by decide +kernel)) (fun _ _ _ _ _ => (pg_name (i := 4) sc__labelled_undone.nd rfl (.inl rfl))) (fun _ _ _ _ _ => pts_nil) (fun _ _ _ _ _ => (pe_op op_mul (pe_op op_mul (pe_callBfun cr_comb (by rfl) T.m_comb (pa_cons (pe_op op_sub (pv 2) pe_int) (pa_cons (pe_op op_sub (pv 4) pe_int) pa_nil))) (pe_ix (ix_listB (K := K) rfl) (pv 1) (pv 4) (fun _ _ => rfl))) (pe_ix (ix_listB (K := K) rfl) (pv 0) (pe_op op_sub (pv 2) (pv 4)) (fun _ _ => rfl)))))
    (pss_one (ps_expr (pe_bm PySem.F.plainAttrs_list PySem.F.slot_list_append PySem.F.type_list_append mt_append (pv 1) (pa_cons (pe_op op_sub (pe_ix ix_list (pv 0) (pv 2) (fun _ _ => rfl)) (pe_callB (cr_sum rfl) (by rfl) T.n_sum (by decide +kernel) (pa_cons (pv 3) pa_nil))) pa_nil)))))))
  (pss_one (ps_ret (pv 1))))), ?_⟩
    refine ⟨sz _ (by show 1 ≤ 100000; decide), fun q nq => ?_⟩
    have s1 : Same H (upd H q (.lst [.int 0])) := same_upd nq
    refine ⟨_, rfl, a, _, rfl, .inl (sq_of (s1 _ _ hA)), _, _, rfl, ⟨by decide, by decide, by decide, by decide⟩, ?_⟩
    refine for_range (lo := 1) (n := 0) (fun i σ H' => i = 0 ∧ H' = upd H q (.lst [.int 0]) ∧ σ[1]? = some (some (.ref q))) ⟨rfl, rfl, rfl⟩ (fun i σ H' hi _ => absurd hi (Nat.not_lt_zero _)) ?_
    rintro σ H' ⟨_, rfl, e⟩
    exact ⟨_, e, k _ s1 _⟩
theorem ok_unl1 (T : Tx K mg W) (D : Df K mg "_unlabelled_undone" s__unlabelled_undone ["counts"]) : Cal P w K mg base CX0 1 "_unlabelled_undone" ["counts"] spUndone1 := by
  obtain ⟨f, fd, g, F, b⟩ := D
  refine ⟨f, fd, g, F.kp, b, F.ok sc__unlabelled_undone (fun vs H Q E h => ?_) (fun cdv A outer s H vs Q E hr h => ?_)⟩
  · obtain ⟨_, rfl, _⟩ := h
    rfl
  · obtain ⟨a, rfl, hA, k⟩ := h
    refine ⟨_, (pss_cons (ps_set (i := 1) sc__unlabelled_undone.nd rfl (.inr rfl) (pe_lst (pa_cons pe_int pa_nil)))
  (pss_cons (ps_set (i := 2) sc__unlabelled_undone.nd rfl (.inr rfl) (pe_lst (pa_cons pe_int pa_nil)))
  (pss_cons (ps_for PassesOwn.never rfl (pi_range2 (by rfl) T.n_range (pa_cons pe_int (pa_cons (pe_callB call_len_seq (by rfl) T.n_len (by decide +kernel) (pa_cons (pv 0) pa_nil)) pa_nil))) (pg_name (i := 3) sc__unlabelled_undone.nd rfl (.inr rfl)) (
    (pss_cons (ps_set (i := 4) sc__unlabelled_undone.nd rfl (.inl rfl) (pe_op op_sub (pe_op op_mul (pv 3) (pe_ix ix_list (pv 0) (pv 3) (fun _ _ => rfl))) (pe_callB (cr_sum rfl) (by rfl) T.n_sum (by decide +kernel) (pa_cons (pe_lc (own := [("at", 6)]) rfl sc__unlabelled_undone.nd (pi_range2 (by rfl) T.n_range (pa_cons pe_int (pa_cons (pv 3) pa_nil))) (blkOk_by (own := [("at", 6)]) (N := ["counts", "members", "weights", "size", "weight", "smaller", "at"]) (sc := defScope s__unlabelled_undone) (by decide +kernel)) (fun _ _ _ _ _ => (pg_name (i := 6) sc__unlabelled_undone.nd rfl (.inl rfl))) (fun _ _ _ _ _ => pts_nil) (fun _ _ _ _ _ => (pe_op op_mul (pe_ix (ix_listB (K := K) rfl) (pv 2) (pv 6) (fun _ _ => rfl)) (pe_ix (ix_listB (K := K) rfl) (pv 0) (pe_op op_sub (pv 3) (pv 6)) (fun _ _ => rfl))))) pa_nil))))
    (pss_cons (ps_set (i := 5) sc__unlabelled_undone.nd rfl (.inl rfl) (pe_callB (cr_sum rfl) (by rfl) T.n_sum (by decide +kernel) (pa_cons (pe_lc (own := [("at", 6)]) rfl sc__unlabelled_undone.nd (pi_list pe_never) (blkOk_by (own := [("at", 6)]) (N := ["counts", "members", "weights", "size", "weight", "smaller", "at"]) (sc := defScope s__unlabelled_undone) (by decide +kernel)) (fun _ _ _ _ _ => (pg_name (i := 6) sc__unlabelled_undone.nd rfl (.inl rfl))) (fun _ _ _ _ _ => pts_one (pt_cmpR op_lt (pv 6) (pv 3) (nomark _))) (fun _ _ _ _ _ => (pe_op op_mul (pv 6) (pe_ix (ix_listB (K := K) rfl) (pv 1) (pv 6) (fun _ _ => rfl))))) pa_nil)))
    (pss_cons (ps_expr (pe_bm PySem.F.plainAttrs_list PySem.F.slot_list_append PySem.F.type_list_append mt_append (pv 1) (pa_cons (pe_op op_fdivN (pe_op op_sub (pv 4) (pv 5)) (pv 3)) pa_nil)))
    (pss_one (ps_expr (pe_bm PySem.F.plainAttrs_list PySem.F.slot_list_append PySem.F.type_list_append mt_append (pv 2) (pa_cons (pv 4) pa_nil)))))))))
  (pss_one (ps_ret (pv 1)))))), ?_⟩
    refine ⟨sz _ (by show 1 ≤ 100000; decide), fun q nq => ⟨sz _ (by show 1 ≤ 100000; decide), fun q2 nq2 => ?_⟩⟩
    have s1 : Same H (upd H q (.lst [.int 0])) := same_upd nq
    have s2 := s1.trans (same_upd (o := HO.lst [.int 0]) nq2)
    refine ⟨_, rfl, a, _, rfl, .inl (sq_of (s2 _ _ hA)), _, _, rfl, ⟨by decide, by decide, by decide, by decide⟩, ?_⟩
    refine for_range (lo := 1) (n := 0) (fun i σ H' => i = 0 ∧ H' = upd (upd H q (.lst [.int 0])) q2 (.lst [.int 0]) ∧ σ[1]? = some (some (.ref q))) ⟨rfl, rfl, rfl⟩ (fun i σ H' hi _ => absurd hi (Nat.not_lt_zero _)) ?_
    rintro σ H' ⟨_, rfl, e⟩
    exact ⟨_, e, k _ s2 _⟩
def headOne (xs : List V) : Bool := match xs with
  | .int i :: _ => decide (i = 1)
  | _ => false
def spUndone (W : Ad) : Sp := fun vs H Q E => ∃ (a : Addr) (xs : List V) (lb : Bool), vs = [.ref a, .bl lb] ∧ H a = some (.lst xs) ∧ (∀ x ∈ xs, IB x) ∧ xs.length ≤ 1000 ∧
  ((okCounts xs && headOne xs) = false → ∀ H', Same H H' → E (.ref W.cBadCounts) none H') ∧ ((okCounts xs && headOne xs) = true → xs = [.int 1] ∧ ∀ H', Same H H' → ∀ v, Q v H')
theorem ok_undone (T : Tx K mg W) (D : Df K mg "sets_undone" s_sets_undone ["counts", "labelled"]) (C1 : Cal P w K mg base (L2.CX P w) 2 "check_counts" ["counts"] (spCheck W))
    (C2 : Cal P w K mg base CX0 1 "_labelled_undone" ["counts"] spUndone1) (C3 : Cal P w K mg base CX0 1 "_unlabelled_undone" ["counts"] spUndone1) : Cal P w K mg base (L2.CX P w) 3 "sets_undone" ["counts", "labelled"] (spUndone W) := by
  obtain ⟨f, fd, g, F, b⟩ := D
  obtain ⟨f1, fd1, g_check_counts, k_check_counts, b_check_counts, G_check_counts⟩ := C1.ex
  obtain ⟨f2, fd2, g__labelled_undone, k__labelled_undone, b__labelled_undone, G__labelled_undone⟩ := C2.ex
  obtain ⟨f3, fd3, g__unlabelled_undone, k__unlabelled_undone, b__unlabelled_undone, G__unlabelled_undone⟩ := C3.ex
  refine ⟨f, fd, g, F.kp, b, F.okX sc_sets_undone (fun vs H Q E h => ?_) (fun cdv A outer s H vs Q E hr h => ?_)⟩
  · obtain ⟨_, _, _, rfl, _⟩ := h
    rfl
  · obtain ⟨a, xs, lb, rfl, hA, hib, hlen, kF, kT⟩ := h
    refine ⟨_, (pss_cons (ps_expr (pe_callS G_check_counts (hr.mono (by decide)) (by rfl) g_check_counts k_check_counts b_check_counts (fun σ => passAt (takes_of rfl rfl rfl rfl) σ) (pa_cons (pv 0) pa_nil)))
  (pss_cons (ps_if (pt_cmpR op_ne (pe_ix ix_list (pv 0) pe_int (fun _ _ => rfl)) pe_int (nomark _)) (
    (pss_one (ps_raise rfl (takes_of rfl rfl rfl rfl) (pmk_own PySem.F.excBase_ValueError T.e_BadCounts.x T.e_BadCounts.g T.e_BadCounts.k (raises_own T.e_BadCounts.b T.e_BadCounts.t) rfl)))) (pss_nil))
  (pss_one (ps_ret (pe_ifExp (pt_val (pv 1)) (pe_call G__labelled_undone (hr.mono (by decide)) (by rfl) g__labelled_undone k__labelled_undone b__labelled_undone .nil pass0 (pa_cons (pv 0) pa_nil)) (pe_call G__unlabelled_undone (hr.mono (by decide)) (by rfl) g__unlabelled_undone k__unlabelled_undone b__unlabelled_undone .nil pass0 (pa_cons (pv 0) pa_nil))))))), ?_⟩
    refine ⟨_, rfl, a, xs, rfl, hA, hib, hlen, fun hok H1 s1 => ?_, fun hok H1 s1 => kF (by rw [hok]; rfl) H1 s1⟩
    rw [hok] at kF kT
    have hne : ∃ i r, xs = V.int i :: r := by
      unfold okCounts at hok
      simp only [Bool.and_eq_true, decide_eq_true_eq, List.all_eq_true] at hok
      obtain ⟨h1, _, h2⟩ := hok
      cases xs with
      | nil => simp at h1
      | cons x r =>
        have h3 := h2 x (by simp)
        cases x with
        | int i => exact ⟨i, r, rfl⟩
        | _ => cases h3
    obtain ⟨i0, r0, ex⟩ := hne
    refine ⟨_, rfl, a, _, _, .int i0, rfl, rfl, sq_of (s1 _ _ hA), atI_nat (j := 0) (by rw [ex]; rfl), rfl, _, rfl, ?_⟩
    by_cases h1 : i0 = 1
    · rw [decide_eq_true (by rw [h1])]
      refine iteF ?_
      obtain ⟨e1, k1⟩ := kT (by rw [ex, h1]; rfl)
      refine ⟨_, rfl, lb, rfl, ?_⟩
      cases lb with
      | true => exact iteT ⟨_, rfl, a, rfl, by rw [← e1]; exact s1 _ _ hA, fun H' s' v => k1 H' (s1.trans s') v⟩
      | false => exact iteF ⟨_, rfl, a, rfl, by rw [← e1]; exact s1 _ _ hA, fun H' s' v => k1 H' (s1.trans s') v⟩
    · rw [decide_eq_false (fun e => h1 (V.int.inj e))]
      exact iteT (kF (by rw [ex]; show (true && decide (i0 = 1)) = false; rw [decide_eq_false h1]; rfl) H1 s1)
end
end SM

namespace SM
open PySem L2
theorem cutV_ints (ns : List Int) (lo hi : Option Int) : ∃ ms : List Int, cutV (ns.map V.int) lo hi = ms.map V.int ∧ ms.length ≤ ns.length := by
  refine ⟨(ns.drop (HT.sIx (ns.map V.int).length 0 lo)).take (HT.sIx (ns.map V.int).length (ns.map V.int).length hi - HT.sIx (ns.map V.int).length 0 lo), ?_, ?_⟩
  · unfold cutV
    rw [List.map_take, List.map_drop]
  · rw [List.length_take, List.length_drop]
    omega
theorem cutV_to (xs : List V) (k : Nat) : cutV xs none (some (k : Int)) = xs.take k := by
  unfold cutV
  rw [HT.sIx_none, HT.sIx_nat, Nat.sub_zero, List.drop_zero]
  by_cases h : k ≤ xs.length
  · rw [Nat.min_eq_left h]
  · rw [Nat.min_eq_right (by omega), List.take_of_length_le (Nat.le_refl _), List.take_of_length_le (by omega)]
theorem cutV_from (xs : List V) (k : Nat) : cutV xs (some (k : Int)) none = xs.drop k := by
  unfold cutV
  rw [HT.sIx_none, HT.sIx_nat]
  by_cases h : k ≤ xs.length
  · rw [Nat.min_eq_left h]
    exact List.take_of_length_le (by rw [List.length_drop]; omega)
  · rw [Nat.min_eq_right (by omega), List.drop_of_length_le (Nat.le_refl _), List.drop_of_length_le (by omega), List.take_nil]
/-! ### the draws -/
def Dr (ds : List Int) : Prop := ∀ d ∈ ds, 0 ≤ d ∧ d < 65521
theorem Dr.nil : Dr [] := fun d hd => by cases hd
theorem Dr.app {ds : List Int} {x : Int} (h : Dr ds) (h0 : 0 ≤ x) (h1 : x < 65521) : Dr (ds ++ [x]) := fun d hd => by
  rcases List.mem_append.mp hd with e | e
  · exact h d e
  · simp at e
    rw [e]; exact ⟨h0, h1⟩
theorem Dr.take {ds : List Int} (h : Dr ds) (k : Nat) : Dr (ds.take k) := fun d hd => h d (List.mem_of_mem_take hd)
section
variable {P : Program} {w : World} {K : PySem.W.Frag} {mg : Str → Option Value} {base : Heap} {W : Ad}
def spDraws (K : PySem.W.Frag) : Sp := fun vs H Q _ => ∃ (a : Addr) (ns : List Int) (many : Nat), vs = [.ref a, .int many] ∧ SqL K H a (ns.map V.int) ∧ ns.length ≤ 63 ∧ many ≤ 1000 ∧
  ∀ (p : Addr) (H' : Hp) (ds : List Int), Same H H' → H p = none → H' p = some (.lst (ds.map V.int)) → Dr ds → ds.length = many → Q (.ref p) H'
theorem ok_draws (T : Tx K mg W) (D : Df K mg "_law_draws" s__law_draws ["script", "many"]) : Cal P w K mg base CX0 1 "_law_draws" ["script", "many"] (spDraws K) := by
  obtain ⟨f, fd, g, F, b⟩ := D
  refine ⟨f, fd, g, F.kp, b, F.ok sc__law_draws (fun vs H Q E h => ?_) (fun cdv A outer s H vs Q E hr h => ?_)⟩
  · obtain ⟨_, _, _, rfl, _⟩ := h
    rfl
  · obtain ⟨a, ns, many, rfl, hA, hlen, hmany, q⟩ := h
    refine ⟨_, (pss_cons (ps_set (i := 2) sc__law_draws.nd rfl (.inl rfl) (pe_lst pa_nil))
  (pss_cons (ps_set (i := 3) sc__law_draws.nd rfl (.inl rfl) pe_int)
  (pss_cons (ps_for PassesOwn.never rfl (pi_list (pe_slice sl_list (pv 0) po_none (po_some pe_int))) (pg_name (i := 4) sc__law_draws.nd rfl (.inl rfl)) (
    (pss_cons (ps_set (i := 5) sc__law_draws.nd rfl (.inl rfl) (pe_callB call_abs (by rfl) T.n_abs (by decide +kernel) (pa_cons (pv 4) pa_nil)))
    (pss_cons (ps_set (i := 3) sc__law_draws.nd rfl (.inl rfl) (pe_op op_mod (pe_callTy call_int1 (by rfl) T.n_int (by decide +kernel) (pa_cons (pe_op op_add (pe_op op_add (pe_op op_mul (pv 3) pe_int) (pv 5)) pe_int) pa_nil)) pe_int))
    (pss_one (ps_if (pt_cmpR op_ge (pv 5) (pe_op op_pow pe_int pe_int) (nomark _)) (
      (pss_one (ps_for PassesOwn.never rfl (pi_range1 (by rfl) T.n_range (pa_cons pe_int pa_nil)) (pg_name (i := 6) sc__law_draws.nd rfl (.inl rfl)) (
        (pss_one (ps_if (pt_cmpR op_gt (pv 5) pe_int (nomark _)) (
          (pss_cons (ps_expr (pe_bm PySem.F.plainAttrs_list PySem.F.slot_list_append PySem.F.type_list_append mt_append (pv 2) (pa_cons (pe_op op_mod (pe_callTy call_int1 (by rfl) T.n_int (by decide +kernel) (pa_cons (pv 5) pa_nil)) pe_int) pa_nil)))
          (pss_one (ps_set (i := 5) sc__law_draws.nd rfl (.inl rfl) (pe_op op_fdiv (pv 5) pe_int))))) (pss_nil))))))) (
      (pss_one (ps_expr (pe_bm PySem.F.plainAttrs_list PySem.F.slot_list_append PySem.F.type_list_append mt_append (pv 2) (pa_cons (pe_op op_mod (pe_op op_fdiv (pe_callTy call_int1 (by rfl) T.n_int (by decide +kernel) (pa_cons (pe_op op_add (pe_op op_mul (pv 3) pe_int) pe_int) pa_nil)) pe_int) pe_int) pa_nil)))))))))))
  (pss_cons (ps_for PassesOwn.never rfl (pi_range1 (by rfl) T.n_range (pa_cons (pv 1) pa_nil)) (pg_name (i := 6) sc__law_draws.nd rfl (.inl rfl)) (
    (pss_one (ps_if (pt_cmpR op_lt (pe_callB call_len_seq (by rfl) T.n_len (by decide +kernel) (pa_cons (pv 2) pa_nil)) (pv 1) (nomark _)) (
      (pss_cons (ps_set (i := 3) sc__law_draws.nd rfl (.inl rfl) (pe_op op_mod (pe_callTy call_int1 (by rfl) T.n_int (by decide +kernel) (pa_cons (pe_op op_add (pe_op op_add (pe_op op_mul (pv 3) pe_int) (pv 6)) pe_int) pa_nil)) pe_int))
      (pss_one (ps_expr (pe_bm PySem.F.plainAttrs_list PySem.F.slot_list_append PySem.F.type_list_append mt_append (pv 2) (pa_cons (pe_op op_mod (pe_op op_fdiv (pe_callTy call_int1 (by rfl) T.n_int (by decide +kernel) (pa_cons (pv 3) pa_nil)) pe_int) pe_int) pa_nil)))))) (pss_nil)))))
  (pss_one (ps_ret (pe_slice sl_list (pv 2) po_none (po_some (pv 1))))))))), ?_⟩
    -- draws = []; seed = 7; script[:63]
    refine ⟨Nat.zero_le _, fun dp nd => ?_⟩
    have s1 : Same H (upd H dp (.lst [])) := same_upd nd
    refine ⟨_, rfl, 63, rfl, a, _, rfl, s1.seq hA, fun cp nc => ?_⟩
    obtain ⟨ms, ems, hms⟩ := cutV_ints ns none (some 63)
    rw [ems]
    have ncd : cp ≠ dp := fun e => by rw [e, upd_same] at nc; cases nc
    have nc0 : H cp = none := s1.free nc
    have hc2 : (upd (upd H dp (.lst [])) cp (.lst (ms.map V.int))) cp = some (.lst (ms.map V.int)) := upd_same
    refine ⟨cp, rfl, ⟨_, sq_of hc2⟩, for_list (K := K) (a := cp) (xs := ms.map V.int) (fun i σ H' => ∃ (seed : Int) (y4 y5 y6 : Option V) (ds : List Int), σ = [some (.ref a), some (.int many), some (.ref dp), some (.int seed), y4, y5, y6] ∧ 0 ≤ seed ∧ seed < 2147483647 ∧
      Same H H' ∧ H' cp = some (.lst (ms.map V.int)) ∧ H' dp = some (.lst (ds.map V.int)) ∧ Dr ds ∧ ds.length ≤ 60 * i) ⟨7, none, none, none, [], rfl, by decide, by decide, s1.trans (same_upd nc), hc2, by rw [upd_ne ncd.symm]; exact upd_same, Dr.nil, Nat.zero_le _⟩
      (fun i σ H' _ ⟨_, _, _, _, _, _, _, _, _, h, _⟩ => sq_of h) ?_ ?_⟩
    · rintro i y σ H1 hi ⟨seed, y4, y5, y6, ds, rfl, h0, h1, sm, hcp, hdp, hds, hdl⟩
      obtain ⟨z, hz, rfl⟩ := ints_of hi
      have hil : i < ms.length := (List.getElem?_eq_some_iff.mp hz).1
      -- number = abs(cell)
      refine ⟨_, rfl, z, rfl, ?_⟩
      generalize hnum : (if z < 0 then -z else z) = num
      have hnum0 : 0 ≤ num := by rw [← hnum]; split <;> omega
      -- seed
      refine ⟨_, rfl, _, _, rfl, rfl, .inl ⟨by omega, by omega⟩, _, rfl, _, _, rfl, rfl, _, _, rfl, rfl, .inl ⟨_, rfl, _, _, rfl, rfl, (by show (0 : Int) < 2147483647; decide), ?_⟩⟩
      show _
      have m0 := Int.emod_nonneg (seed * 48271 + num + 11) (b := 2147483647) (by decide)
      have m1 := Int.emod_lt_of_pos (seed * 48271 + num + 11) (b := 2147483647) (by decide)
      generalize hse : (seed * 48271 + num + 11) % 2147483647 = se at m0 m1
      refine ⟨_, rfl, _, _, rfl, rfl, ⟨by decide, by decide, by decide⟩, _, _, rfl, rfl, _, rfl, ?_⟩
      refine ite2 (fun _ => ?_) (fun _ => ?_)
      · -- many digits
        refine ⟨60, rfl, by decide, by decide, ?_⟩
        refine for_range (lo := 0) (n := 60) (fun k σ H' => ∃ (num : Int) (y6 : Option V) (ds : List Int), σ = [some (.ref a), some (.int many), some (.ref dp), some (.int se), some (.int z), some (.int num), y6] ∧ 0 ≤ num ∧
          Same H H' ∧ H' cp = some (.lst (ms.map V.int)) ∧ H' dp = some (.lst (ds.map V.int)) ∧ Dr ds ∧ ds.length ≤ 60 * i + k) ⟨num, y6, ds, ?_, hnum0, sm, hcp, hdp, hds, hdl⟩ ?_ ?_
        · rw [← hse]; rfl
        · rintro k σ H2 hk ⟨nm, y6', ds', rfl, n0, sm', hcp', hdp', hds', hdl'⟩
          refine ⟨_, rfl, _, _, rfl, rfl, _, rfl, ite2 (fun c => ?_) (fun c => ?_)⟩
          · refine ⟨_, rfl, .inl ⟨rfl, _, sq_of hdp'⟩, _, rfl, .inl ⟨_, rfl, _, _, rfl, rfl, (by show (0 : Int) < 1009; decide), dp, _, _, rfl, rfl, hdp', szl _ (by rw [List.length_map]; omega), ?_⟩⟩
            have w0 := Int.emod_nonneg nm (b := 1009) (by decide)
            have w1 := Int.emod_lt_of_pos nm (b := 1009) (by decide)
            refine ⟨_, rfl, _, _, rfl, rfl, ⟨by decide, by decide⟩, nm / 1009, _, ds' ++ [nm % 1009], rfl, Int.ediv_nonneg n0 (by decide), same_upd' sm' nd, by rw [upd_ne ncd]; exact hcp', by rw [upd_same, List.map_append]; rfl, hds'.app w0 (by omega), by rw [List.length_append]; simp; omega⟩
          · exact ⟨nm, _, ds', rfl, n0, sm', hcp', hdp', hds', by omega⟩
        · rintro σ H2 ⟨nm, y6', ds', rfl, n0, sm', hcp', hdp', hds', hdl'⟩
          exact ⟨se, _, _, _, ds', rfl, m0, m1, sm', hcp', hdp', hds', by omega⟩
      · refine ⟨_, rfl, .inl ⟨rfl, _, sq_of hdp⟩, _, rfl, _, _, rfl, rfl, .inl ⟨?_, ?_⟩, _, _, rfl, rfl, .inl ⟨_, rfl, _, _, rfl, rfl, ⟨by decide, by decide⟩, _, _, rfl, rfl, (by show (0 : Int) < 65521; decide), dp, _, _, rfl, rfl, hdp, szl _ (by rw [List.length_map]; omega), ?_⟩⟩
        · rw [hse]; omega
        · rw [hse]; omega
        · refine ⟨se, _, _, _, ds ++ [((seed * 48271 + num + 11) % 2147483647 * 16807 + 5) / 3 % 65521], by rw [← hse]; rfl, m0, m1, same_upd' sm nd, by rw [upd_ne ncd]; exact hcp, by rw [upd_same, List.map_append]; rfl, hds.app (Int.emod_nonneg _ (by decide)) (Int.emod_lt_of_pos _ (by decide)), by rw [List.length_append]; simp; omega⟩
    · rintro σ H1 ⟨seed, y4, y5, y6, ds, rfl, h0, h1, sm, hcp, hdp, hds, hdl⟩
      rw [List.length_map] at hdl
      refine ⟨_, rfl, many, rfl, by omega, by omega, ?_⟩
      rw [Int.toNat_natCast]
      refine for_range (lo := 0) (n := many) (fun k σ H' => ∃ (seed : Int) (y4 y5 y6 : Option V) (ds : List Int), σ = [some (.ref a), some (.int many), some (.ref dp), some (.int seed), y4, y5, y6] ∧ 0 ≤ seed ∧ seed < 2147483647 ∧
        Same H H' ∧ H' dp = some (.lst (ds.map V.int)) ∧ Dr ds ∧ ds.length ≤ 60 * 63 + k ∧ (k ≤ ds.length ∨ many ≤ ds.length)) ⟨seed, y4, y5, y6, ds, rfl, h0, h1, sm, hdp, hds, by omega, .inl (Nat.zero_le _)⟩ ?_ ?_
      · rintro k σ H2 hk ⟨se, y4, y5, y6, ds', rfl, n0, n1, sm', hdp', hds', hdl', hlong⟩
        refine ⟨_, rfl, dp, _, rfl, .inl (sq_of hdp'), _, rfl, _, _, rfl, rfl, _, rfl, ite2 (fun c => ?_) (fun c => ?_)⟩
        · refine ⟨_, rfl, _, _, rfl, rfl, .inl ⟨by omega, by omega⟩, _, rfl, _, _, rfl, rfl, _, _, rfl, rfl, .inl ⟨_, rfl, _, _, rfl, rfl, (by show (0 : Int) < 2147483647; decide), ?_⟩⟩
          refine ⟨_, rfl, .inl ⟨rfl, _, sq_of hdp'⟩, _, rfl, .inl ⟨_, rfl, _, _, rfl, rfl, ⟨by decide, by decide⟩, _, _, rfl, rfl, (by show (0 : Int) < 65521; decide), dp, _, _, rfl, rfl, hdp', szl _ (by rw [List.length_map]; omega), ?_⟩⟩
          refine ⟨_, _, _, _, ds' ++ [(se * 69621 + (0 + (k : Int)) + 1) % 2147483647 / 7 % 65521], rfl, Int.emod_nonneg _ (by decide), Int.emod_lt_of_pos _ (by decide), same_upd' sm' nd, by rw [upd_same, List.map_append]; rfl, hds'.app (Int.emod_nonneg _ (by decide)) (Int.emod_lt_of_pos _ (by decide)), by rw [List.length_append]; simp; omega, ?_⟩
          rw [List.length_append]; simp; omega
        · have c' : ¬ ((((ds'.map V.int).length : Nat) : Int) < (many : Int)) := fun z => c (decide_eq_true z)
          rw [List.length_map] at c'
          exact ⟨se, _, _, _, ds', rfl, n0, n1, sm', hdp', hds', by omega, .inr (by omega)⟩
      · rintro σ H2 ⟨se, y4, y5, y6, ds', rfl, n0, n1, sm', hdp', hds', hdl', hlong⟩
        refine ⟨_, rfl, _, rfl, many, rfl, dp, _, rfl, sq_of hdp', fun p np => ?_⟩
        refine q p _ (ds'.take many) (sm'.trans (same_upd np)) (sm'.free np) ?_ (hds'.take many) ?_
        · rw [upd_same, cutV_to, List.map_take]
        · rw [List.length_take]; omega
end
end SM

namespace SM
open PySem L2
theorem iteTb {c : Bool} {A B : Prop} (h : c = true) (a : A) : if c = true then A else B := by rw [if_pos h]; exact a
theorem iteFb {c : Bool} {A B : Prop} (h : c = false) (b : B) : if c = true then A else B := by rw [h, if_neg Bool.false_ne_true]; exact b
section
variable {X : Cx} {a D : Addr} {oe : Obj} {pn : List (Addr × Obj)} {cls : Value} {d : Option Addr}
/-- isinstance of the error that the suite holds, where the class of the error is told by the reading -/
def rIsE2 (K : PySem.W.Frag) (D a : Addr) (cls : Value) (d : Option Addr) : List V → Hp → VK → Prop := fun xs H Q => cls = .ref D ∧ d = none ∧ rIsE K D a xs H Q
theorem call_isE2 (C : ExcC X.K D) (hz : Zc cls d oe) (hf : ∃ vs, oe.data = .fields vs) : CallR (X.suite a ((a, oe) :: pn)) (.builtin "isinstance") (rIsE2 X.K D a cls d) := by
  intro pins s σ H xs us Q I r h
  obtain ⟨rfl, rfl, h⟩ := h
  exact call_isE C hz hf pins s σ H xs us Q I r h
end
/-- what is asked of the error classes -/
structure Ex (K : PySem.W.Frag) (mg : Str → Option Value) (W : Ad) : Prop where
  gS : mg "SpeciesError" = some (.ref W.cSpeciesError)
  gB : mg "BadSpec" = some (.ref W.cBadSpec)
  c : ExcC K W.cBadCounts
  m : PySem.W.exmOne K (.ref W.cBadCounts) (.ref W.cSpeciesError) = some true
  i1 : PySem.W.kitOne K (.ref W.cBadCounts) (.ref W.cBadCounts) = some true
  i2 : PySem.W.kitOne K (.ref W.cBadCounts) (.type "ValueError") = some true
  i3 : PySem.W.kitOne K (.ref W.cBadCounts) (.ref W.cBadSpec) = some false
def isR (wd : Str) : Prop := wd = "row" ∨ wd = "set" ∨ wd = "ring"
/-- what is refused -/
def Bad (vs : List V) (H : Hp) : Prop :=
  (∃ (wd : Str) (a : Addr) (xs : List V) (l : Int) (m : Option Int) (lb : Bool), vs = [.str wd, .ref a, .int l, oV m, .bl lb] ∧ isR wd ∧ H a = some (.lst xs) ∧ (∀ x ∈ xs, IB x) ∧ xs.length ≤ 1000 ∧ l ≤ 1000 ∧ good wd xs l m = false) ∨
  (∃ (a b : Addr) (xs ys : List V) (lb : Bool) (z : V), vs = [.str "pairs", .ref a, .ref b, z, .bl lb] ∧ H a = some (.lst xs) ∧ H b = some (.lst ys) ∧ (∀ x ∈ xs, IB x) ∧ xs.length ≤ 1000 ∧ (∀ x ∈ ys, IB x) ∧ ys.length ≤ 1000 ∧
    (okCounts xs && okCounts ys && decide (xs.length = ys.length)) = false) ∨
  (∃ (a : Addr) (xs : List V) (lb : Bool) (y z : V), vs = [.str "undone", .ref a, y, z, .bl lb] ∧ H a = some (.lst xs) ∧ (∀ x ∈ xs, IB x) ∧ xs.length ≤ 1000 ∧ (okCounts xs && headOne xs) = false) ∨
  (∃ (a : Addr) (xs : List V) (wd : Str) (l : Int) (lb : Bool), vs = [.str "by", .ref a, .str wd, .int l, .bl lb] ∧ H a = some (.lst xs) ∧ (∀ x ∈ xs, IB x) ∧ xs.length ≤ 1000 ∧ l ≤ 1000 ∧ good wd xs l (some l) = false)
theorem Bad.len {vs : List V} {H : Hp} (h : Bad vs H) : vs.length = 5 := by
  rcases h with ⟨_, _, _, _, _, _, rfl, _⟩ | ⟨_, _, _, _, _, _, rfl, _⟩ | ⟨_, _, _, _, _, rfl, _⟩ | ⟨_, _, _, _, _, rfl, _⟩ <;> rfl
section
variable {P : Program} {w : World} {K : PySem.W.Frag} {mg : Str → Option Value} {base : Heap} {W : Ad}
def spAsked (W : Ad) : Sp := fun vs H Q E => (Bad vs H ∧ ∀ H', Same H H' → E (.ref W.cBadCounts) none H') ∨
  (∃ (a : Addr) (lb : Bool) (y z : V), vs = [.str "undone", .ref a, y, z, .bl lb] ∧ H a = some (.lst [.int 1]) ∧ ∀ H', Same H H' → ∀ v, Q v H') ∨
  (∃ (wd : Str) (a : Addr) (cs : List Int) (lb : Bool), vs = [.str wd, .ref a, .int 1, .int 1, .bl lb] ∧ isR wd ∧ H a = some (.lst (cs.map V.int)) ∧ Smc cs ∧ good wd (cs.map V.int) 1 (some 1) = true ∧ cs.length ≤ 1000 ∧
    ∀ (p : Addr) (H' : Hp), Same H H' → H p = none → H' p = some (.lst (cs.map V.int)) → Q (.ref p) H')
theorem ints_IB (cs : List Int) : ∀ x ∈ cs.map V.int, IB x := fun x hx => by
  obtain ⟨z, _, rfl⟩ := List.mem_map.mp hx
  exact .inl ⟨z, rfl⟩
/-- what the call of rows, sets or rings is asked, from what _law_asked is asked -/
theorem cw_of {wd : Str} {xs : List V} {l : Int} {m : Option Int} {H : Hp} {Q : VK} {E : XK} (h1 : ∀ x ∈ xs, IB x) (h2 : xs.length ≤ 1000) (h3 : l ≤ 1000) (h4 : good wd xs l m = false) (k : ∀ H', Same H H' → E (.ref W.cBadCounts) none H') : CWp W wd xs l m H Q E :=
  ⟨h1, h2, h3, fun _ => k, fun z => by rw [h4] at z; cases z⟩
theorem cw_of1 {wd : Str} {cs : List Int} {H : Hp} {Q : VK} {E : XK} (h2 : cs.length ≤ 1000) (hs : Smc cs) (h4 : good wd (cs.map V.int) 1 (some 1) = true) (k : ∀ (p : Addr) (H' : Hp), Same H H' → H p = none → H' p = some (.lst (cs.map V.int)) → Q (.ref p) H') :
    CWp W wd (cs.map V.int) 1 (some 1) H Q E :=
  ⟨ints_IB cs, by rw [List.length_map]; exact h2, by decide, fun z => by (rw [h4] at z; cases z), fun _ => ⟨cs, rfl, hs, .inl ⟨rfl, rfl⟩, fun p H' out s n e _ ho => k p H' s n (by rw [e, ho rfl rfl])⟩⟩
theorem ok_asked (D : Df K mg "_law_asked" s__law_asked ["word", "counts", "least", "most", "labelled"]) (C1 : Cal P w K mg base (L2.CX P w) 6 "rows" ["counts", "least", "most", "labelled"] (spRows W "row"))
    (C2 : Cal P w K mg base (L2.CX P w) 6 "sets" ["counts", "least", "most", "labelled"] (spRows W "set")) (C3 : Cal P w K mg base (L2.CX P w) 6 "rings" ["counts", "least", "most", "labelled"] (spRows W "ring"))
    (C4 : Cal P w K mg base (L2.CX P w) 3 "pairs" ["first", "second", "labelled"] (spPairs W)) (C5 : Cal P w K mg base (L2.CX P w) 3 "sets_undone" ["counts", "labelled"] (spUndone W)) (C6 : Cal P w K mg base (L2.CX P w) 6 "by_members" ["counts", "word", "members", "labelled"] (spBy W)) :
    Cal P w K mg base (L2.CX P w) 7 "_law_asked" ["word", "counts", "least", "most", "labelled"] (spAsked W) := by
  obtain ⟨f, fd, g, F, b⟩ := D
  obtain ⟨f1, fd1, g_rows, k_rows, b_rows, G_rows⟩ := C1.ex
  obtain ⟨f2, fd2, g_sets, k_sets, b_sets, G_sets⟩ := C2.ex
  obtain ⟨f3, fd3, g_rings, k_rings, b_rings, G_rings⟩ := C3.ex
  obtain ⟨f4, fd4, g_pairs, k_pairs, b_pairs, G_pairs⟩ := C4.ex
  obtain ⟨f5, fd5, g_sets_undone, k_sets_undone, b_sets_undone, G_sets_undone⟩ := C5.ex
  obtain ⟨f6, fd6, g_by_members, k_by_members, b_by_members, G_by_members⟩ := C6.ex
  refine ⟨f, fd, g, F.kp, b, F.okX sc__law_asked (fun vs H Q E h => ?_) (fun cdv A outer s H vs Q E hr h => ?_)⟩
  · rcases h with ⟨h, _⟩ | ⟨_, _, _, _, rfl, _⟩ | ⟨_, _, _, _, rfl, _⟩
    · exact h.len
    · rfl
    · rfl
  · refine ⟨_, (pss_cons (ps_if (pt_cmpR op_eq (pv 0) pe_str (nomark _)) (
    (pss_one (ps_ret (pe_callS G_rows (hr.mono (by decide)) (by rfl) g_rows k_rows b_rows (fun σ => passAt (takes_of rfl rfl rfl rfl) σ) (pa_cons (pv 1) (pa_cons (pv 2) (pa_cons (pv 3) (pa_cons (pv 4) pa_nil)))))))) (pss_nil))
  (pss_cons (ps_if (pt_cmpR op_eq (pv 0) pe_str (nomark _)) (
    (pss_one (ps_ret (pe_callS G_sets (hr.mono (by decide)) (by rfl) g_sets k_sets b_sets (fun σ => passAt (takes_of rfl rfl rfl rfl) σ) (pa_cons (pv 1) (pa_cons (pv 2) (pa_cons (pv 3) (pa_cons (pv 4) pa_nil)))))))) (pss_nil))
  (pss_cons (ps_if (pt_cmpR op_eq (pv 0) pe_str (nomark _)) (
    (pss_one (ps_ret (pe_callS G_rings (hr.mono (by decide)) (by rfl) g_rings k_rings b_rings (fun σ => passAt (takes_of rfl rfl rfl rfl) σ) (pa_cons (pv 1) (pa_cons (pv 2) (pa_cons (pv 3) (pa_cons (pv 4) pa_nil)))))))) (pss_nil))
  (pss_cons (ps_if (pt_cmpR op_eq (pv 0) pe_str (nomark _)) (
    (pss_one (ps_ret (pe_callS G_pairs (hr.mono (by decide)) (by rfl) g_pairs k_pairs b_pairs (fun σ => passAt (takes_of rfl rfl rfl rfl) σ) (pa_cons (pv 1) (pa_cons (pv 2) (pa_cons (pv 4) pa_nil))))))) (pss_nil))
  (pss_cons (ps_if (pt_cmpR op_eq (pv 0) pe_str (nomark _)) (
    (pss_one (ps_ret (pe_callS G_sets_undone (hr.mono (by decide)) (by rfl) g_sets_undone k_sets_undone b_sets_undone (fun σ => passAt (takes_of rfl rfl rfl rfl) σ) (pa_cons (pv 1) (pa_cons (pv 4) pa_nil)))))) (pss_nil))
  (pss_one (ps_ret (pe_callS G_by_members (hr.mono (by decide)) (by rfl) g_by_members k_by_members b_by_members (fun σ => passAt (takes_of rfl rfl rfl rfl) σ) (pa_cons (pv 1) (pa_cons (pv 2) (pa_cons (pv 3) (pa_cons (pv 4) pa_nil)))))))))))), ?_⟩
    have key : (∃ (wd : Str) (a : Addr) (xs : List V) (l : Int) (m : Option Int) (lb : Bool), vs = [.str wd, .ref a, .int l, oV m, .bl lb] ∧ isR wd ∧ H a = some (.lst xs) ∧ CWp W wd xs l m H Q E) ∨
        (∃ (a : Addr) (lb : Bool) (y z : V) (xs : List V), vs = [.str "undone", .ref a, y, z, .bl lb] ∧ H a = some (.lst xs) ∧ (∀ x ∈ xs, IB x) ∧ xs.length ≤ 1000 ∧ ((okCounts xs && headOne xs) = false → ∀ H', Same H H' → E (.ref W.cBadCounts) none H') ∧
          ((okCounts xs && headOne xs) = true → xs = [.int 1] ∧ ∀ H', Same H H' → ∀ v, Q v H')) ∨
        (∃ (a b : Addr) (lb : Bool) (z : V), vs = [.str "pairs", .ref a, .ref b, z, .bl lb] ∧ spPairs W [.ref a, .ref b, .bl lb] H Q E) ∨
        (∃ (a : Addr) (wd : Str) (l : Int) (lb : Bool), vs = [.str "by", .ref a, .str wd, .int l, .bl lb] ∧ spBy W [.ref a, .str wd, .int l, .bl lb] H Q E) := by
      rcases h with ⟨h, k⟩ | ⟨a, lb, y, z, e, hA, k⟩ | ⟨wd, a, cs, lb, e, hw, hA, hs, hg, hl, k⟩
      · rcases h with ⟨wd, a, xs, l, m, lb, e, hw, hA, h1, h2, h3, h4⟩ | ⟨a, b, xs, ys, lb, z, e, hA, hB, h1, h2, h3, h4, h5⟩ | ⟨a, xs, lb, y, z, e, hA, h1, h2, h3⟩ | ⟨a, xs, wd, l, lb, e, hA, h1, h2, h3, h4⟩
        · exact .inl ⟨wd, a, xs, l, m, lb, e, hw, hA, cw_of h1 h2 h3 h4 k⟩
        · exact .inr (.inr (.inl ⟨a, b, lb, z, e, a, b, xs, ys, lb, rfl, hA, hB, h1, h2, h3, h4, h5, k⟩))
        · exact .inr (.inl ⟨a, lb, y, z, xs, e, hA, h1, h2, fun _ => k, fun q => by rw [h3] at q; cases q⟩)
        · exact .inr (.inr (.inr ⟨a, wd, l, lb, e, a, xs, wd, l, lb, rfl, hA, cw_of h1 h2 h3 h4 k⟩))
      · exact .inr (.inl ⟨a, lb, y, z, [.int 1], e, hA, ints_IB [1], by decide, (fun q => by cases q), fun _ => ⟨rfl, k⟩⟩)
      · exact .inl ⟨wd, a, cs.map V.int, 1, some 1, lb, e, hw, hA, cw_of1 hl hs hg k⟩
    rcases key with ⟨wd, a, xs, l, m, lb, rfl, hw, hA, hc⟩ | ⟨a, lb, y, z, xs, rfl, hA, h1, h2, h3, h4⟩ | ⟨a, b, lb, z, rfl, k⟩ | ⟨a, wd, l, lb, rfl, k⟩
    · rcases hw with rfl | rfl | rfl
      · exact ⟨_, rfl, rfl, _, rfl, iteTb (by decide +kernel) ⟨_, rfl, _, rfl, _, rfl, _, rfl, a, xs, l, m, lb, rfl, hA, hc⟩⟩
      · exact ⟨_, rfl, rfl, _, rfl, iteFb (by decide +kernel) ⟨_, rfl, rfl, _, rfl, iteTb (by decide +kernel) ⟨_, rfl, _, rfl, _, rfl, _, rfl, a, xs, l, m, lb, rfl, hA, hc⟩⟩⟩
      · exact ⟨_, rfl, rfl, _, rfl, iteFb (by decide +kernel) ⟨_, rfl, rfl, _, rfl, iteFb (by decide +kernel) ⟨_, rfl, rfl, _, rfl, iteTb (by decide +kernel) ⟨_, rfl, _, rfl, _, rfl, _, rfl, a, xs, l, m, lb, rfl, hA, hc⟩⟩⟩⟩
    · exact ⟨_, rfl, rfl, _, rfl, iteFb (by decide +kernel) ⟨_, rfl, rfl, _, rfl, iteFb (by decide +kernel) ⟨_, rfl, rfl, _, rfl, iteFb (by decide +kernel) ⟨_, rfl, rfl, _, rfl, iteFb (by decide +kernel) ⟨_, rfl, rfl, _, rfl, iteTb (by decide +kernel) ⟨_, rfl, _, rfl, a, xs, lb, rfl, hA, h1, h2, h3, h4⟩⟩⟩⟩⟩⟩
    · exact ⟨_, rfl, rfl, _, rfl, iteFb (by decide +kernel) ⟨_, rfl, rfl, _, rfl, iteFb (by decide +kernel) ⟨_, rfl, rfl, _, rfl, iteFb (by decide +kernel) ⟨_, rfl, rfl, _, rfl, iteTb (by decide +kernel) ⟨_, rfl, _, rfl, _, rfl, k⟩⟩⟩⟩⟩
    · exact ⟨_, rfl, rfl, _, rfl, iteFb (by decide +kernel) ⟨_, rfl, rfl, _, rfl, iteFb (by decide +kernel) ⟨_, rfl, rfl, _, rfl, iteFb (by decide +kernel) ⟨_, rfl, rfl, _, rfl, iteFb (by decide +kernel) ⟨_, rfl, rfl, _, rfl, iteFb (by decide +kernel) ⟨_, rfl, _, rfl, _, rfl, _, rfl, k⟩⟩⟩⟩⟩⟩
/-! ### _law_refused -/
def spRefused : Sp := fun vs H Q _ => (Bad vs H ∧ ∀ H', Same H H' → Q (.bl true) H') ∨ (∃ (a : Addr) (lb : Bool) (y z : V), vs = [.str "undone", .ref a, y, z, .bl lb] ∧ H a = some (.lst [.int 1]) ∧ ∀ H', Same H H' → Q (.bl false) H')
theorem ok_refused (T : Tx K mg W) (X : Ex K mg W) (D : Df K mg "_law_refused" s__law_refused ["word", "counts", "least", "most", "labelled"])
    (C1 : Cal P w K mg base (L2.CX P w) 7 "_law_asked" ["word", "counts", "least", "most", "labelled"] (spAsked W)) : Cal P w K mg base CX0 8 "_law_refused" ["word", "counts", "least", "most", "labelled"] spRefused := by
  obtain ⟨f, fd, g, F, b⟩ := D
  obtain ⟨f1, fd1, g__law_asked, k__law_asked, b__law_asked, G__law_asked⟩ := C1.ex
  refine ⟨f, fd, g, F.kp, b, F.ok sc__law_refused (fun vs H Q E h => ?_) (fun cdv A outer s H vs Q E hr h => ?_)⟩
  · rcases h with ⟨h, _⟩ | ⟨_, _, _, _, rfl, _⟩
    · exact h.len
    · rfl
  · have hr1 : Room 7 _ := hr.mono (by decide)
    have five : ∃ v1 v2 v3 v4 v5, vs = [v1, v2, v3, v4, v5] := by
      have : vs.length = 5 := by
        rcases h with ⟨h, _⟩ | ⟨_, _, _, _, rfl, _⟩
        · exact h.len
        · rfl
      match vs, this with
      | [v1, v2, v3, v4, v5], _ => exact ⟨v1, v2, v3, v4, v5, rfl⟩
    obtain ⟨v1, v2, v3, v4, v5, rfl⟩ := five
    refine ⟨_, pss_cons (ps_try_as (i := 5) (ts := fun a cls d => tRet (tAndV (tCB (rIsE2 K W.cBadCounts a cls d) (tCons (tVar 5) (tCons (tC (.ref W.cBadCounts)) tNil))) (tAndV (tCB (rIsE2 K W.cBadCounts a cls d) (tCons (tVar 5) (tCons (tC (.ty "ValueError")) tNil))) (tNotV (tCB (rIsE2 K W.cBadCounts a cls d) (tCons (tVar 5) (tCons (tC (.ref W.cBadSpec)) tNil))))))) (Wout := fun _ _ _ _ => False) rfl rfl sc__law_refused.nd rfl rfl ⟨rfl, by decide, .inl X.gS⟩ takes0
        (fun W' pn xe tk _ => pss_one (ps_expr (pe_callS G__law_asked hr1 (by rfl) g__law_asked k__law_asked b__law_asked (fun σ => passAt tk σ) (pa_cons (pv 0) (pa_cons (pv 1) (pa_cons (pv 2) (pa_cons (pv 3) (pa_cons (pv 4) pa_nil))))))))
        (fun a oe cls d pn hz hf => pss_one (ps_ret (pe_and (pe_callB (call_isE2 X.c hz hf) (by rfl) T.n_isinstance (by decide +kernel) (pa_cons (pv 5) (pa_cons (pe_glob (v := .ref W.cBadCounts) (by rfl) T.e_BadCounts.g rfl) pa_nil)))
          (pe_and (pe_callB (call_isE2 X.c hz hf) (by rfl) T.n_isinstance (by decide +kernel) (pa_cons (pv 5) (pa_cons (pe_bltn (v := .ty "ValueError") (by rfl) T.n_ValueError (by decide +kernel) rfl) pa_nil)))
          (pe_one (pe_not (pe_callB (call_isE2 X.c hz hf) (by rfl) T.n_isinstance (by decide +kernel) (pa_cons (pv 5) (pa_cons (pe_glob (v := .ref W.cBadSpec) (by rfl) X.gB rfl) pa_nil)))))))))) (pss_one (ps_ret pe_bl)), ?_⟩
    refine ⟨_, rfl, _, rfl, _, rfl, _, rfl, _, rfl, ?_⟩
    rcases h with ⟨h, k⟩ | ⟨a, lb, y, z, e, hA, k⟩
    · refine .inl ⟨h, fun H' s' => ⟨true, X.m, fun _ a0 ha0 => ?_, fun q => by cases q⟩⟩
      refine ⟨_, rfl, rfl, rfl, _, _, true, rfl, (fun u r => r), X.i1, _, rfl, iteT ?_⟩
      refine ⟨_, rfl, rfl, rfl, _, _, true, rfl, (fun u r => r), X.i2, _, rfl, iteT ?_⟩
      refine ⟨_, rfl, rfl, rfl, _, _, false, rfl, (fun u r => r), X.i3, _, rfl, ?_⟩
      exact k H' s'
    · exact .inr (.inl ⟨a, lb, y, z, e, hA, fun H' s' v => k H' s'⟩)
end
end SM

set_option maxHeartbeats 8000000
namespace SM
open PySem L2
/-! ### lists of ints as data -/
def dI (ns : List Int) : PyData := .list (ns.map PyData.int)
theorem dpAll_ints {K : PySem.W.Frag} {H : Hp} : ∀ ns : List Int, DpAll K H (ns.map V.int) (ns.map PyData.int)
  | [] => .nil
  | n :: r => .cons (.int n) (dpAll_ints r)
theorem dp_ints {K : PySem.W.Frag} {H : Hp} {a : Addr} {ns : List Int} (h : SqL K H a (ns.map V.int)) : Dp K H (.ref a) (dI ns) := .lst h (dpAll_ints ns)
theorem lay_ints : ∀ ns : List Int, PyData.canLayAll0 (ns.map PyData.int) = true
  | [] => rfl
  | n :: r => by
    show (PyData.canLay0 (.int n) && PyData.canLayAll0 (r.map PyData.int)) = true
    rw [lay_ints r]; rfl
theorem depth_ints : ∀ ns : List Int, PyData.depthAll (ns.map PyData.int) = 0
  | [] => rfl
  | n :: r => by
    show max (PyData.depth (.int n)) (PyData.depthAll (r.map PyData.int)) = 0
    rw [depth_ints r]; rfl
theorem shaped_ints (ns : List Int) : SeqAt.shaped (dI ns) = true := by
  have e1 : (dI ns).canLay0 = true := lay_ints ns
  have e2 : (dI ns).depth = 1 := by
    show PyData.depthAll (ns.map PyData.int) + 1 = 1
    rw [depth_ints]
  unfold SeqAt.shaped
  rw [e1, e2]; rfl
theorem eqv_ints (ns : List Int) : PyData.eqv (dI ns) (dI ns) = true := SeqAt.eqv_refl _ (lay_ints ns)
/-! ### what is refused -/
section
variable {wd : Str} {xs : List V} {l : Int} {m : Option Int}
theorem good_ok (h : okCounts xs = false) : good wd xs l m = false := by unfold good; rw [h]; rfl
theorem good_b (h : areB wd l m = false) : good wd xs l m = false := by unfold good; rw [h, Bool.and_false, Bool.false_and, Bool.and_false]
theorem good_h (h1 : headPos xs = true) (h2 : moreB m = true) : good wd xs l m = false := by unfold good; rw [h1, h2]; simp
end
theorem low_nn (wd : Str) : 0 ≤ lowB wd ∧ lowB wd ≤ 1 := by
  unfold lowB
  split <;> decide
theorem areB_neg {wd : Str} {l : Int} {m : Option Int} (h : l < 0) : areB wd l m = false := areB_low (by have := low_nn wd; omega)
theorem areB_gt {wd : Str} {l i : Int} (h : i < l) : areB wd l (some i) = false := by
  unfold areB
  rw [show upB l (some i) = decide (l ≤ i) from rfl, decide_eq_false (p := l ≤ i) (by omega), Bool.and_false]
theorem isR_inW {wd : Str} (h : isR wd) : inW wd = true := by
  rcases h with rfl | rfl | rfl <;> decide +kernel
theorem words3 {i : Nat} {x : V} (h : ([V.str "row", V.str "set", V.str "ring"] : List V)[i]? = some x) : ∃ wd, x = .str wd ∧ isR wd := by
  match i, h with
  | 0, h => exact ⟨"row", (Option.some.inj h).symm, .inl rfl⟩
  | 1, h => exact ⟨"set", (Option.some.inj h).symm, .inr (.inl rfl)⟩
  | 2, h => exact ⟨"ring", (Option.some.inj h).symm, .inr (.inr rfl)⟩
  | n + 3, h => cases h
/-- not _law_refused(..), where it is refused -/
theorem rd_ref {σ : St} {H : Hp} {ta : TA} {Q : Bool → Hp → Prop} {vs : List V} (ha : ∀ R : List V → Hp → Prop, R vs H → ta σ H R) (hb : Bad vs H) (k : ∀ H', Same H H' → Q false H') : tNot (tB (tCall spRefused [] E0 ta)) σ H Q := by
  refine ha _ ?_
  rw [List.append_nil]
  exact .inl ⟨hb, fun H' s' => ⟨true, rfl, k H' s'⟩⟩
theorem rd_ref1 {σ : St} {H : Hp} {ta : TA} {Q : Bool → Hp → Prop} {a : Addr} {lb : Bool} {y z : V} (ha : ∀ R : List V → Hp → Prop, R [.str "undone", .ref a, y, z, .bl lb] H → ta σ H R) (hA : H a = some (.lst [.int 1])) (k : ∀ H', Same H H' → Q true H') :
    tNot (tB (tCall spRefused [] E0 ta)) σ H Q := by
  refine ha _ ?_
  exact .inr ⟨a, lb, y, z, rfl, hA, fun H' s' => ⟨false, rfl, k H' s'⟩⟩
/-- a drawn list that counts refuse -/
structure Wrong (H : Hp) (b : Addr) (xs : List V) : Prop where
  at_ : H b = some (.lst xs)
  ib : ∀ x ∈ xs, IB x
  len : xs.length ≤ 100
  no : okCounts xs = false
  more : xs = [] ∨ okCounts (.int 1 :: xs) = false
theorem Wrong.mono {H H' : Hp} {b : Addr} {xs : List V} (h : Wrong H b xs) (s : Same H H') : Wrong H' b xs := ⟨s _ _ h.at_, h.ib, h.len, h.no, h.more⟩
theorem ok_all {xs : List V} (h : xs.all okItem = false) : okCounts xs = false := by unfold okCounts; rw [h, Bool.and_false, Bool.and_false]
theorem ok_long {xs : List V} (h : 61 < xs.length) : okCounts xs = false := by
  unfold okCounts
  rw [decide_eq_false (p := xs.length ≤ 61) (by omega), Bool.false_and, Bool.and_false]
theorem mem_take_map {cs : List Int} {k : Nat} {x : V} (h : x ∈ (cs.map V.int).take k) : IB x := ints_IB cs x (List.mem_of_mem_take h)
theorem mem_drop_map {cs : List Int} {k : Nat} {x : V} (h : x ∈ (cs.map V.int).drop k) : IB x := ints_IB cs x (List.mem_of_mem_drop h)
theorem wrong_mid {H : Hp} {b : Addr} {cs : List Int} {k : Nat} {v : V} (hv : okItem v = false) (hi : IB v) (hl : cs.length ≤ 40) (h : H b = some (.lst (((cs.map V.int).take k ++ [v]) ++ (cs.map V.int).drop (k + 1)))) : Wrong H b (((cs.map V.int).take k ++ [v]) ++ (cs.map V.int).drop (k + 1)) := by
  have e : ((((cs.map V.int).take k ++ [v]) ++ (cs.map V.int).drop (k + 1)).all okItem) = false := by
    rw [List.all_append, List.all_append]
    simp [hv]
  refine ⟨h, fun x hx => ?_, ?_, ok_all e, .inr (ok_all ?_)⟩
  · simp only [List.mem_append, List.mem_singleton] at hx
    rcases hx with (hx | hx) | hx
    · exact mem_take_map hx
    · rw [hx]; exact hi
    · exact mem_drop_map hx
  · simp only [List.length_append, List.length_take, List.length_drop, List.length_map, List.length_singleton]
    omega
  · rw [List.all_cons, e, Bool.and_false]
section
variable {P : Program} {w : World} {K : PySem.W.Frag} {mg : Str → Option Value} {base : Heap} {W : Ad}
def spLaw (K : PySem.W.Frag) : Sp := fun vs H Q _ => ∃ (a : Addr) (ns : List Int), vs = [.ref a] ∧ SqL K H a (ns.map V.int) ∧ ns.length ≤ 63 ∧ ∀ H', Q (.bl true) H'
theorem ok_law {f : Addr} {fd : FuncData} (T : Tx K mg W) (F : Fun K "law" "law" s_law f fd) (C1 : Cal P w K mg base CX0 1 "_law_draws" ["script", "many"] (spDraws K))
    (C2 : Cal P w K mg base CX0 8 "_law_refused" ["word", "counts", "least", "most", "labelled"] spRefused) (C3 : Cal P w K mg base (L2.CX P w) 7 "_law_asked" ["word", "counts", "least", "most", "labelled"] (spAsked W))
    (C4 : Cal P w K mg base (L2.CX P w) 6 "rows" ["counts", "least", "most", "labelled"] (spRows W "row")) : FnOk P w K mg base CX0 9 f fd ["script"] (spLaw K) := by
  obtain ⟨f1, fd1, g__law_draws, k__law_draws, b__law_draws, G__law_draws⟩ := C1.ex
  obtain ⟨f2, fd2, g__law_refused, k__law_refused, b__law_refused, G__law_refused⟩ := C2.ex
  obtain ⟨f3, fd3, g__law_asked, k__law_asked, b__law_asked, G__law_asked⟩ := C3.ex
  obtain ⟨f4, fd4, g_rows, k_rows, b_rows, G_rows⟩ := C4.ex
  refine F.ok sc_law (fun vs H Q E h => ?_) (fun cdv A outer s H vs Q E hr h => ?_)
  · obtain ⟨_, _, rfl, _⟩ := h
    rfl
  · obtain ⟨a, ns, rfl, hA, hlen, q⟩ := h
    have hu64 : (cxOf CX0 P w K mg base ["script", "draws", "labelled", "size", "counts", "at", "wrong", "bad", "word", "bounds", "full", "j"] "law" (defScope s_law) f cdv A outer s H E).nox.A.units + 64 < cLine := by
      have := hr.un
      show (A.deeper _).units + 64 < cLine
      omega
    refine ⟨_, (pss_cons (ps_set (i := 1) sc_law.nd rfl (.inr rfl) (pe_call G__law_draws (hr.mono (by decide)) (by rfl) g__law_draws k__law_draws b__law_draws .nil pass0 (pa_cons (pv 0) (pa_cons pe_int pa_nil))))
  (pss_cons (ps_par (i := 2) (j := 3) (by rfl) sc_law.nd rfl rfl (by decide) rfl rfl (pa_cons (pe_cmpR op_eq (pe_op op_mod (pe_callTy call_int1 (by rfl) T.n_int (by decide +kernel) (pa_cons (pe_ix ix_list (pv 1) pe_int (fun _ _ => rfl)) pa_nil)) pe_int) pe_int (nomark _)) (pa_cons (pe_op op_add pe_int (pe_op op_mod (pe_callTy call_int1 (by rfl) T.n_int (by decide +kernel) (pa_cons (pe_ix ix_list (pv 1) pe_int (fun _ _ => rfl)) pa_nil)) pe_int)) pa_nil)) (by rfl))
  (pss_cons (ps_set (i := 4) sc_law.nd rfl (.inl rfl) (pe_op op_cat (pe_lst (pa_cons pe_int pa_nil)) (pe_lc (own := [("j", 11)]) rfl sc_law.nd (pi_range1 (by rfl) T.n_range (pa_cons (pv 3) pa_nil)) (blkOk_by (own := [("j", 11)]) (N := ["script", "draws", "labelled", "size", "counts", "at", "wrong", "bad", "word", "bounds", "full", "j"]) (sc := defScope s_law) (by decide +kernel)) (fun _ _ _ _ _ => (pg_name (i := 11) sc_law.nd rfl (.inl rfl))) (fun _ _ _ _ _ => pts_nil) (fun _ _ _ _ _ => (pe_op op_mod (pe_callTy call_int1 (by rfl) T.n_int (by decide +kernel) (pa_cons (pe_ix (ix_listB (K := K) rfl) (pv 1) (pe_op op_add pe_int (pv 11)) (fun _ _ => rfl)) pa_nil)) pe_int)))))
  (pss_cons (ps_set (i := 5) sc_law.nd rfl (.inl rfl) (pe_op op_mod (pe_callTy call_int1 (by rfl) T.n_int (by decide +kernel) (pa_cons (pe_ix ix_list (pv 1) pe_int (fun _ _ => rfl)) pa_nil)) (pe_callB call_len_seq (by rfl) T.n_len (by decide +kernel) (pa_cons (pv 4) pa_nil))))
  (pss_cons (ps_set (i := 6) sc_law.nd rfl (.inl rfl) (pe_lst (pa_cons (pe_lst pa_nil) (pa_cons (pe_op op_cat (pe_op op_cat (pe_slice sl_list (pv 4) po_none (po_some (pv 5))) (pe_lst (pa_cons (pe_un un_neg pe_int) pa_nil))) (pe_slice sl_list (pv 4) (po_some (pe_op op_add (pv 5) pe_int)) po_none)) (pa_cons (pe_op op_cat (pe_op op_cat (pe_slice sl_list (pv 4) po_none (po_some (pv 5))) (pe_lst (pa_cons pe_bl pa_nil))) (pe_slice sl_list (pv 4) (po_some (pe_op op_add (pv 5) pe_int)) po_none)) (pa_cons (pe_op op_rep (pe_lst (pa_cons pe_int pa_nil)) pe_int) pa_nil))))))
  (pss_cons (ps_for PassesOwn.never rfl (pi_list (pv 6)) (pg_name (i := 7) sc_law.nd rfl (.inl rfl)) (
    (pss_cons (ps_for PassesOwn.never rfl (pi_list (pe_lst (pa_cons pe_str (pa_cons pe_str (pa_cons pe_str pa_nil))))) (pg_name (i := 8) sc_law.nd rfl (.inl rfl)) (
      (pss_one (ps_if (PW.pt (pw_or (pt_not (pt_val (pe_call G__law_refused (hr.mono (by decide)) (by rfl) g__law_refused k__law_refused b__law_refused .nil pass0 (pa_cons (pv 8) (pa_cons (pv 7) (pa_cons pe_int (pa_cons pe_int (pa_cons (pv 2) pa_nil)))))))) (pw_or1 (pt_not (pt_val (pe_call G__law_refused (hr.mono (by decide)) (by rfl) g__law_refused k__law_refused b__law_refused .nil pass0 (pa_cons pe_str (pa_cons (pv 7) (pa_cons (pv 8) (pa_cons pe_int (pa_cons (pv 2) pa_nil))))))))))) (
        (pss_one (ps_ret pe_bl))) (pss_nil)))))
    (pss_cons (ps_if (PW.pt (pw_or (pt_not (pt_val (pe_call G__law_refused (hr.mono (by decide)) (by rfl) g__law_refused k__law_refused b__law_refused .nil pass0 (pa_cons pe_str (pa_cons (pv 7) (pa_cons (pv 4) (pa_cons pe_int (pa_cons (pv 2) pa_nil)))))))) (pw_or1 (pt_not (pt_val (pe_call G__law_refused (hr.mono (by decide)) (by rfl) g__law_refused k__law_refused b__law_refused .nil pass0 (pa_cons pe_str (pa_cons (pv 4) (pa_cons (pv 7) (pa_cons pe_int (pa_cons (pv 2) pa_nil))))))))))) (
      (pss_one (ps_ret pe_bl))) (pss_nil))
    (pss_one (ps_if (PW.pt (pw_and (pt_not (pt_val (pe_call G__law_refused (hr.mono (by decide)) (by rfl) g__law_refused k__law_refused b__law_refused .nil pass0 (pa_cons pe_str (pa_cons (pe_op op_cat (pe_lst (pa_cons pe_int pa_nil)) (pv 7)) (pa_cons pe_int (pa_cons pe_int (pa_cons (pv 2) pa_nil)))))))) (pw_and1 (pt_cmpR (op_neD hu64) (pv 7) (pe_lst pa_nil) (nomark _))))) (
      (pss_one (ps_ret pe_bl))) (pss_nil)))))))
  (pss_cons (ps_if (pt_not (pt_val (pe_call G__law_refused (hr.mono (by decide)) (by rfl) g__law_refused k__law_refused b__law_refused .nil pass0 (pa_cons pe_str (pa_cons (pv 4) (pa_cons (pe_op op_cat (pv 4) (pe_lst (pa_cons pe_int pa_nil))) (pa_cons pe_int (pa_cons (pv 2) pa_nil)))))))) (
    (pss_one (ps_ret pe_bl))) (pss_nil))
  (pss_cons (ps_for PassesOwn.never rfl (pi_list (pe_lst (pa_cons pe_str (pa_cons pe_str (pa_cons pe_str pa_nil))))) (pg_name (i := 8) sc_law.nd rfl (.inl rfl)) (
    (pss_cons (ps_for PassesOwn.never rfl (pi_list (pe_lst (pa_cons (pe_tup (pa_cons (pe_un un_neg pe_int) (pa_cons pe_int pa_nil))) (pa_cons (pe_tup (pa_cons pe_int (pa_cons pe_int pa_nil))) (pa_cons (pe_tup (pa_cons pe_int (pa_cons (pe_un un_neg pe_int) pa_nil))) (pa_cons (pe_tup (pa_cons (pe_un un_neg pe_int) (pa_cons pe_non pa_nil))) pa_nil)))))) (pg_name (i := 9) sc_law.nd rfl (.inl rfl)) (
      (pss_one (ps_if (pt_not (pt_val (pe_call G__law_refused (hr.mono (by decide)) (by rfl) g__law_refused k__law_refused b__law_refused .nil pass0 (pa_cons (pv 8) (pa_cons (pv 4) (pa_cons (pe_ix ix_tup (pv 9) pe_int (fun _ _ => rfl)) (pa_cons (pe_ix ix_tup (pv 9) pe_int (fun _ _ => rfl)) (pa_cons (pv 2) pa_nil)))))))) (
        (pss_one (ps_ret pe_bl))) (pss_nil)))))
    (pss_cons (ps_set (i := 10) sc_law.nd rfl (.inl rfl) (pe_op op_cat (pe_lst (pa_cons (pe_op op_add pe_int (pe_op op_mod (pe_callTy call_int1 (by rfl) T.n_int (by decide +kernel) (pa_cons (pe_ix ix_list (pv 1) pe_int (fun _ _ => rfl)) pa_nil)) pe_int)) pa_nil)) (pe_slice sl_list (pv 4) (po_some pe_int) po_none)))
    (pss_cons (ps_if (PW.pt (pw_or (pt_not (pt_val (pe_call G__law_refused (hr.mono (by decide)) (by rfl) g__law_refused k__law_refused b__law_refused .nil pass0 (pa_cons (pv 8) (pa_cons (pv 10) (pa_cons pe_int (pa_cons pe_non (pa_cons (pv 2) pa_nil)))))))) (pw_or (pt_not (pt_val (pe_call G__law_refused (hr.mono (by decide)) (by rfl) g__law_refused k__law_refused b__law_refused .nil pass0 (pa_cons (pv 8) (pa_cons (pv 10) (pa_cons pe_int (pa_cons pe_int (pa_cons (pv 2) pa_nil)))))))) (pw_or1 (pt_not (pt_val (pe_call G__law_refused (hr.mono (by decide)) (by rfl) g__law_refused k__law_refused b__law_refused .nil pass0 (pa_cons pe_str (pa_cons (pv 10) (pa_cons (pv 8) (pa_cons pe_int (pa_cons (pv 2) pa_nil)))))))))))) (
      (pss_one (ps_ret pe_bl))) (pss_nil))
    (pss_one (ps_if (PW.pt (pw_or (pt_cmpR (op_neD hu64) (pe_call G__law_asked (hr.mono (by decide)) (by rfl) g__law_asked k__law_asked b__law_asked .nil passL (pa_cons (pv 8) (pa_cons (pv 10) (pa_cons pe_int (pa_cons pe_int (pa_cons (pv 2) pa_nil)))))) (pv 10) (nomark _)) (pw_or1 (pt_not (pt_val (pe_call G__law_refused (hr.mono (by decide)) (by rfl) g__law_refused k__law_refused b__law_refused .nil pass0 (pa_cons pe_str (pa_cons (pv 4) (pa_cons (pv 8) (pa_cons (pe_un un_neg pe_int) (pa_cons (pv 2) pa_nil))))))))))) (
      (pss_one (ps_ret pe_bl))) (pss_nil))))))))
  (pss_cons (ps_if (PW.pt (pw_or (pt_not (pt_val (pe_call G__law_refused (hr.mono (by decide)) (by rfl) g__law_refused k__law_refused b__law_refused .nil pass0 (pa_cons pe_str (pa_cons (pv 4) (pa_cons pe_int (pa_cons pe_non (pa_cons (pv 2) pa_nil)))))))) (pw_or1 (pt_not (pt_val (pe_call G__law_refused (hr.mono (by decide)) (by rfl) g__law_refused k__law_refused b__law_refused .nil pass0 (pa_cons pe_str (pa_cons (pv 4) (pa_cons pe_str (pa_cons pe_int (pa_cons (pv 2) pa_nil))))))))))) (
    (pss_one (ps_ret pe_bl))) (pss_nil))
  (pss_cons (ps_if (PW.pt (pw_or (pt_not (pt_val (pe_call G__law_refused (hr.mono (by decide)) (by rfl) g__law_refused k__law_refused b__law_refused .nil pass0 (pa_cons pe_str (pa_cons (pv 4) (pa_cons pe_int (pa_cons pe_int (pa_cons (pv 2) pa_nil)))))))) (pw_or1 (pt_not (pt_val (pe_call G__law_refused (hr.mono (by decide)) (by rfl) g__law_refused k__law_refused b__law_refused .nil pass0 (pa_cons pe_str (pa_cons (pe_op op_cat (pe_lst (pa_cons pe_int pa_nil)) (pe_slice sl_list (pv 4) (po_some pe_int) po_none)) (pa_cons pe_int (pa_cons pe_int (pa_cons (pv 2) pa_nil))))))))))) (
    (pss_one (ps_ret pe_bl))) (pss_nil))
  (pss_one (ps_ret (pe_or (pe_cmpR op_gt (pe_op op_mod (pe_callTy call_int1 (by rfl) T.n_int (by decide +kernel) (pa_cons (pe_ix ix_list (pv 1) pe_int (fun _ _ => rfl)) pa_nil)) pe_int) pe_int (nomark _)) (pe_one (pe_cmpR op_eq (pe_callB call_len_seq (by rfl) T.n_len (by decide +kernel) (pa_cons (pe_call G_rows (hr.mono (by decide)) (by rfl) g_rows k_rows b_rows .nil passL (pa_cons (pe_op op_cat (pe_lst (pa_cons pe_int (pa_cons pe_int pa_nil))) (pe_op op_rep (pe_lst (pa_cons pe_int pa_nil)) pe_int)) (pa_cons pe_int (pa_cons pe_non (pa_cons (pv 2) pa_nil))))) pa_nil)) pe_int (nomark _)))))))))))))))), ?_⟩
    -- draws
    refine ⟨_, rfl, a, ns, 40, rfl, hA, hlen, by decide, fun dp H1 ds s1 nd hd hds hdl => ?_⟩
    have dat : ∀ {k : Nat}, k < 40 → (ds.map V.int)[k]? = some (.int (ds.getD k 0)) := fun {k} h => getD_at (by omega)
    -- labelled, size
    refine ⟨_, rfl, dp, _, _, _, rfl, rfl, sq_of hd, atI_nat (j := 0) (dat (by decide)), .inl ⟨_, rfl, _, _, rfl, rfl, (by show (0 : Int) < 2; decide), rfl, ?_⟩⟩
    refine ⟨_, rfl, dp, _, _, _, rfl, rfl, sq_of hd, atI_nat (j := 1) (dat (by decide)), .inl ⟨_, rfl, _, _, rfl, rfl, (by show (0 : Int) < 8; decide), _, _, rfl, rfl, _, _, rfl, ?_⟩⟩
    generalize decide (V.int (ds.getD 0 0 % 2) = V.int 0) = lb
    obtain ⟨sz0, hsz, hsz1⟩ : ∃ n : Nat, (1 + ds.getD 1 0 % 8 : Int) = n ∧ 1 ≤ n ∧ n ≤ 8 := by
      have h0 := Int.emod_nonneg (ds.getD 1 0) (b := 8) (by decide)
      have h1 := Int.emod_lt_of_pos (ds.getD 1 0) (b := 8) (by decide)
      exact ⟨(1 + ds.getD 1 0 % 8).toNat, by omega, by omega, by omega⟩
    dsimp only
    rw [hsz]
    -- counts
    refine ⟨sz _ (by show 1 ≤ 100000; decide), fun l nl => ⟨_, rfl, sz0, rfl, by omega, by omega, fun Dn nD => ?_⟩⟩
    have s2 : Same H1 (upd H1 l (.lst [.int 0])) := same_upd nl
    rw [Int.toNat_natCast]
    refine lc_rangeM (lo := 0) (j := 11) (fun i => V.int (ds.getD (2 + i) 0 % 4)) (by omega) nD (fun i hi H2 s3 R kk => ?_) (fun H2 s3 h2 => ?_)
    · refine ⟨_, rfl, _, rfl, _, _, rfl, rfl, dp, _, _, _, rfl, rfl, sq_of ((s2.trans s3) _ _ hd), atI_of (j := 2 + i) (by omega) (dat (by omega)), .inl ⟨_, rfl, _, _, rfl, rfl, (by show (0 : Int) < 4; decide), ?_⟩⟩
      exact kk H2 (.refl H2)
    have hl2 := s3 l _ upd_same
    refine ⟨l, Dn, _, _, rfl, rfl, hl2, h2, sz _ (by simp; omega), fun cp ncp => ?_⟩
    obtain ⟨cs, ecs, hcl, hcm, hc0⟩ : ∃ cs : List Int, ([V.int 0] ++ (List.range sz0).map fun i => V.int (ds.getD (2 + i) 0 % 4)) = cs.map V.int ∧ cs.length = sz0 + 1 ∧ Smc cs ∧ ∃ r, cs = 0 :: r := by
      refine ⟨0 :: (List.range sz0).map fun i => ds.getD (2 + i) 0 % 4, ?_, by simp, ?_, _, rfl⟩
      · rw [List.map_cons, List.map_map]; rfl
      · intro x hx
        rcases List.mem_cons.mp hx with rfl | hx
        · exact ⟨Int.le_refl 0, by decide⟩
        · obtain ⟨i, _, rfl⟩ := List.mem_map.mp hx
          have h0 := Int.emod_nonneg (ds.getD (2 + i) 0) (b := 4) (by decide)
          have h1 := Int.emod_lt_of_pos (ds.getD (2 + i) 0) (b := 4) (by decide)
          exact ⟨h0, by omega⟩
    rw [ecs]
    have sA : Same H1 (upd H2 cp (.lst (cs.map V.int))) := (s2.trans s3).trans (same_upd ncp)
    have hcp : (upd H2 cp (.lst (cs.map V.int))) cp = some (.lst (cs.map V.int)) := upd_same
    generalize upd H2 cp (.lst (cs.map V.int)) = H3 at sA hcp ⊢
    have hd3 := sA _ _ hd
    -- at
    refine ⟨_, rfl, dp, _, _, _, rfl, rfl, sq_of hd3, atI_nat (j := 20) (dat (by decide)), .inl ⟨_, rfl, _, rfl, cp, _, rfl, .inl (sq_of hcp), _, _, rfl, rfl, (by show (0 : Int) < _; rw [List.length_map]; omega), ?_⟩⟩
    obtain ⟨at_, hat⟩ : ∃ n : Nat, (ds.getD 20 0 % (((cs.map V.int).length : Nat) : Int) : Int) = n := by
      have h0 := Int.emod_nonneg (ds.getD 20 0) (b := (((cs.map V.int).length : Nat) : Int)) (by rw [List.length_map]; omega)
      exact ⟨_, (Int.toNat_of_nonneg h0).symm⟩
    dsimp only
    rw [hat]
    -- wrong
    refine ⟨Nat.zero_le _, fun w0 n0 => ?_⟩
    have e0 : (upd H3 w0 (.lst [])) w0 = some (.lst []) := upd_same
    have t0 : Same H3 (upd H3 w0 (.lst [])) := same_upd n0
    generalize upd H3 w0 (.lst []) = G0 at e0 t0 ⊢
    have mid : ∀ (G : Hp) (v : V), Same H3 G → True := fun _ _ _ => trivial
    refine ⟨_, rfl, _, rfl, at_, rfl, cp, _, rfl, sq_of (t0 _ _ hcp), fun p1 np1 => ?_⟩
    rw [cutV_to]
    have e1 : (upd G0 p1 (.lst ((cs.map V.int).take at_))) p1 = some (.lst ((cs.map V.int).take at_)) := upd_same
    have t1 := t0.trans (same_upd (o := HO.lst ((cs.map V.int).take at_)) np1)
    have u1 : Same G0 (upd G0 p1 (.lst ((cs.map V.int).take at_))) := same_upd np1
    generalize upd G0 p1 (.lst ((cs.map V.int).take at_)) = G1 at e1 t1 u1 ⊢
    refine ⟨1, rfl, sz _ (by show 1 ≤ 100000; decide), fun p2 np2 => ?_⟩
    have e2 : (upd G1 p2 (.lst [.int (-1)])) p2 = some (.lst [.int (-1)]) := upd_same
    have u2 : Same G1 (upd G1 p2 (.lst [.int (-1)])) := same_upd np2
    generalize upd G1 p2 (.lst [.int (-1)]) = G2 at e2 u2 ⊢
    refine ⟨p1, p2, _, _, rfl, rfl, u2 _ _ e1, e2, sz _ (by simp; omega), fun p3 np3 => ?_⟩
    have e3 : (upd G2 p3 (.lst ((cs.map V.int).take at_ ++ [.int (-1)]))) p3 = some (.lst ((cs.map V.int).take at_ ++ [.int (-1)])) := upd_same
    have u3 : Same G2 (upd G2 p3 (.lst ((cs.map V.int).take at_ ++ [.int (-1)]))) := same_upd np3
    generalize upd G2 p3 (.lst ((cs.map V.int).take at_ ++ [.int (-1)])) = G3 at e3 u3 ⊢
    have t3 := (t1.trans u2).trans u3
    refine ⟨_, rfl, _, rfl, _, _, rfl, rfl, ((at_ + 1 : Nat) : Int), rfl, cp, _, rfl, sq_of (t3 _ _ hcp), fun p4 np4 => ?_⟩
    rw [cutV_from]
    have e4 : (upd G3 p4 (.lst ((cs.map V.int).drop (at_ + 1)))) p4 = some (.lst ((cs.map V.int).drop (at_ + 1))) := upd_same
    have u4 : Same G3 (upd G3 p4 (.lst ((cs.map V.int).drop (at_ + 1)))) := same_upd np4
    generalize upd G3 p4 (.lst ((cs.map V.int).drop (at_ + 1))) = G4 at e4 u4 ⊢
    refine ⟨p3, p4, _, _, rfl, rfl, u4 _ _ e3, e4, sz _ (by simp; omega), fun w1 nw1 => ?_⟩
    have e5 : (upd G4 w1 (.lst (((cs.map V.int).take at_ ++ [.int (-1)]) ++ (cs.map V.int).drop (at_ + 1)))) w1 = some (.lst (((cs.map V.int).take at_ ++ [.int (-1)]) ++ (cs.map V.int).drop (at_ + 1))) := upd_same
    have u5 : Same G4 (upd G4 w1 (.lst (((cs.map V.int).take at_ ++ [.int (-1)]) ++ (cs.map V.int).drop (at_ + 1)))) := same_upd nw1
    generalize upd G4 w1 (.lst (((cs.map V.int).take at_ ++ [.int (-1)]) ++ (cs.map V.int).drop (at_ + 1))) = G5 at e5 u5 ⊢
    have t5 := (t3.trans u4).trans u5
    -- the third
    refine ⟨_, rfl, _, rfl, at_, rfl, cp, _, rfl, sq_of (t5 _ _ hcp), fun p6 np6 => ?_⟩
    rw [cutV_to]
    have e6 : (upd G5 p6 (.lst ((cs.map V.int).take at_))) p6 = some (.lst ((cs.map V.int).take at_)) := upd_same
    have u6 : Same G5 (upd G5 p6 (.lst ((cs.map V.int).take at_))) := same_upd np6
    generalize upd G5 p6 (.lst ((cs.map V.int).take at_)) = G6 at e6 u6 ⊢
    refine ⟨sz _ (by show 1 ≤ 100000; decide), fun p7 np7 => ?_⟩
    have e7 : (upd G6 p7 (.lst [.bl true])) p7 = some (.lst [.bl true]) := upd_same
    have u7 : Same G6 (upd G6 p7 (.lst [.bl true])) := same_upd np7
    generalize upd G6 p7 (.lst [.bl true]) = G7 at e7 u7 ⊢
    refine ⟨p6, p7, _, _, rfl, rfl, u7 _ _ e6, e7, sz _ (by simp; omega), fun p8 np8 => ?_⟩
    have e8 : (upd G7 p8 (.lst ((cs.map V.int).take at_ ++ [.bl true]))) p8 = some (.lst ((cs.map V.int).take at_ ++ [.bl true])) := upd_same
    have u8 : Same G7 (upd G7 p8 (.lst ((cs.map V.int).take at_ ++ [.bl true]))) := same_upd np8
    generalize upd G7 p8 (.lst ((cs.map V.int).take at_ ++ [.bl true])) = G8 at e8 u8 ⊢
    have t8 := ((t5.trans u6).trans u7).trans u8
    refine ⟨_, rfl, _, rfl, _, _, rfl, rfl, ((at_ + 1 : Nat) : Int), rfl, cp, _, rfl, sq_of (t8 _ _ hcp), fun p9 np9 => ?_⟩
    rw [cutV_from]
    have e9 : (upd G8 p9 (.lst ((cs.map V.int).drop (at_ + 1)))) p9 = some (.lst ((cs.map V.int).drop (at_ + 1))) := upd_same
    have u9 : Same G8 (upd G8 p9 (.lst ((cs.map V.int).drop (at_ + 1)))) := same_upd np9
    generalize upd G8 p9 (.lst ((cs.map V.int).drop (at_ + 1))) = G9 at e9 u9 ⊢
    refine ⟨p8, p9, _, _, rfl, rfl, u9 _ _ e8, e9, sz _ (by simp; omega), fun w2 nw2 => ?_⟩
    have e10 : (upd G9 w2 (.lst (((cs.map V.int).take at_ ++ [.bl true]) ++ (cs.map V.int).drop (at_ + 1)))) w2 = some (.lst (((cs.map V.int).take at_ ++ [.bl true]) ++ (cs.map V.int).drop (at_ + 1))) := upd_same
    have u10 : Same G9 (upd G9 w2 (.lst (((cs.map V.int).take at_ ++ [.bl true]) ++ (cs.map V.int).drop (at_ + 1)))) := same_upd nw2
    generalize upd G9 w2 (.lst (((cs.map V.int).take at_ ++ [.bl true]) ++ (cs.map V.int).drop (at_ + 1))) = G10 at e10 u10 ⊢
    refine ⟨sz _ (by show 1 ≤ 100000; decide), fun p11 np11 => ⟨p11, 62, _, rfl, rfl, upd_same, by decide, by decide, sz _ (by show 1 * 62 ≤ 100000; decide), fun w3 nw3 => ?_⟩⟩
    have e12 : (upd (upd G10 p11 (.lst [.int 0])) w3 (.lst (List.replicate (62 : Int).toNat [V.int 0]).flatten)) w3 = some (.lst (List.replicate (62 : Int).toNat [V.int 0]).flatten) := upd_same
    have u12 : Same G10 (upd (upd G10 p11 (.lst [.int 0])) w3 (.lst (List.replicate (62 : Int).toNat [V.int 0]).flatten)) := (same_upd np11).trans (same_upd nw3)
    generalize upd (upd G10 p11 (.lst [.int 0])) w3 (.lst (List.replicate (62 : Int).toNat [V.int 0]).flatten) = G12 at e12 u12 ⊢
    refine ⟨sz _ (by show 4 ≤ 100000; decide), fun wp nwp => ?_⟩
    have e13 : (upd G12 wp (.lst [.ref w0, .ref w1, .ref w2, .ref w3])) wp = some (.lst [.ref w0, .ref w1, .ref w2, .ref w3]) := upd_same
    have u13 : Same G12 (upd G12 wp (.lst [.ref w0, .ref w1, .ref w2, .ref w3])) := same_upd nwp
    generalize upd G12 wp (.lst [.ref w0, .ref w1, .ref w2, .ref w3]) = G13 at e13 u13 ⊢
    have v12 : Same G10 G13 := u12.trans u13
    have v9 : Same G5 G13 := ((((u6.trans u7).trans u8).trans u9).trans u10).trans v12
    have hclen : cs.length ≤ 40 := by omega
    have hw0 : Wrong G13 w0 [] := ⟨v9 _ _ ((((u1.trans u2).trans u3).trans u4 |>.trans u5) _ _ e0), (fun x hx => by cases hx), by decide, by decide, .inl rfl⟩
    have hw1 : Wrong G13 w1 _ := wrong_mid (v := .int (-1)) (by decide) (.inl ⟨-1, rfl⟩) hclen (v9 _ _ e5)
    have hw2 : Wrong G13 w2 _ := wrong_mid (v := .bl true) (by decide) (.inr ⟨true, rfl⟩) hclen (v12 _ _ e10)
    have hw3 : Wrong G13 w3 (List.replicate (62 : Int).toNat [V.int 0]).flatten :=
      ⟨u13 _ _ e12, fun x hx => ints_IB (List.replicate 62 0) x hx, by decide, ok_long (by decide), .inr (ok_long (by decide))⟩
    have tC : Same H3 G13 := t5.trans v9
    have hcp := tC _ _ hcp
    have hd := tC _ _ hd3
    have hlc : (cs.map V.int).length ≤ 1000 := by rw [List.length_map]; omega
    -- for bad in wrong
    refine ⟨_, rfl, wp, rfl, ⟨_, sq_of e13⟩, for_list (K := K) (a := wp) (xs := [.ref w0, .ref w1, .ref w2, .ref w3]) (fun i σ H' => ∃ y7 y8, σ = [some (.ref a), some (.ref dp), some (.bl lb), some (.int sz0), some (.ref cp), some (.int at_), some (.ref wp), y7, y8, none, none, none] ∧ Same G13 H')
      ⟨none, none, rfl, .refl _⟩ (fun i σ H' _ ⟨_, _, _, sm⟩ => sq_of (sm _ _ e13)) ?_ ?_⟩
    · rintro i x σ H5 hi ⟨y7, y8, rfl, sm⟩
      obtain ⟨b, xs, rfl, Wb⟩ : ∃ b xs, x = V.ref b ∧ Wrong G13 b xs := by
        match i, hi with
        | 0, hi => exact ⟨w0, _, (Option.some.inj hi).symm, hw0⟩
        | 1, hi => exact ⟨w1, _, (Option.some.inj hi).symm, hw1⟩
        | 2, hi => exact ⟨w2, _, (Option.some.inj hi).symm, hw2⟩
        | 3, hi => exact ⟨w3, _, (Option.some.inj hi).symm, hw3⟩
        | n + 4, hi => cases hi
      have hxl : xs.length ≤ 1000 := Nat.le_trans Wb.len (by decide)
      refine ⟨sz _ (by show 3 ≤ 100000; decide), fun p np => ⟨p, rfl, ⟨_, sq_of upd_same⟩, for_list (K := K) (a := p) (xs := [.str "row", .str "set", .str "ring"]) (fun j σ H' => ∃ y8, σ = [some (.ref a), some (.ref dp), some (.bl lb), some (.int sz0), some (.ref cp), some (.int at_), some (.ref wp), some (.ref b), y8, none, none, none] ∧ Same G13 H' ∧ H' p = some (.lst [.str "row", .str "set", .str "ring"]))
        ⟨y8, rfl, sm.trans (same_upd np), upd_same⟩ (fun i σ H' _ ⟨_, _, _, h⟩ => sq_of h) ?_ ?_⟩⟩
      · rintro j x σ H6 hj ⟨y8, rfl, sm2, hp2⟩
        obtain ⟨wd, rfl, hwd⟩ := words3 hj
        have W6 := Wb.mono sm2
        refine ⟨_, rfl, _, rfl, _, rfl, .inl ⟨(.inl ⟨wd, b, xs, 1, some 2, lb, rfl, hwd, W6.at_, W6.ib, hxl, by decide, good_ok W6.no⟩), fun H7 s7 => ⟨true, rfl, ?_⟩⟩⟩
        refine iteF ?_
        have W7 := W6.mono s7
        refine ⟨_, rfl, _, rfl, _, rfl, .inl ⟨(.inr (.inr (.inr ⟨b, xs, wd, 1, lb, rfl, W7.at_, W7.ib, hxl, by decide, good_ok W7.no⟩))), fun H8 s8 => ⟨true, rfl, ?_⟩⟩⟩
        refine iteF ?_
        exact ⟨_, rfl, (sm2.trans s7).trans s8, (s7.trans s8) _ _ hp2⟩
      · rintro σ H6 ⟨y8, rfl, sm2, hp2⟩
        have W6 := Wb.mono sm2
        refine ⟨_, rfl, _, rfl, _, rfl, .inl ⟨(.inr (.inl ⟨b, cp, xs, cs.map V.int, lb, .int 0, rfl, W6.at_, sm2 _ _ hcp, W6.ib, hxl, ints_IB cs, hlc, by rw [W6.no]; rfl⟩)), fun H7 s7 => ⟨true, rfl, ?_⟩⟩⟩
        refine iteF ?_
        have W7 := W6.mono s7
        refine ⟨_, rfl, _, rfl, _, rfl, .inl ⟨(.inr (.inl ⟨cp, b, cs.map V.int, xs, lb, .int 0, rfl, s7 _ _ (sm2 _ _ hcp), W7.at_, ints_IB cs, hlc, W7.ib, hxl, by rw [W7.no, Bool.and_false]; rfl⟩)), fun H8 s8 => ⟨true, rfl, ?_⟩⟩⟩
        refine iteF ?_
        have W8 := W7.mono s8
        have sm8 := (sm2.trans s7).trans s8
        -- if not refused("undone", [1] + bad, ..) and bad != []
        refine ⟨sz _ (by show 1 ≤ 100000; decide), fun q1 nq1 => ⟨_, rfl, q1, b, _, _, rfl, rfl, upd_same, (same_upd nq1) _ _ W8.at_, sz _ (by simp only [List.length_singleton]; omega), fun q2 nq2 => ⟨_, rfl, ?_⟩⟩⟩
        have s9 : Same H8 (upd (upd H8 q1 (.lst [.int 1])) q2 (.lst ([.int 1] ++ xs))) := (same_upd nq1).trans (same_upd nq2)
        rcases Wb.more with e | e
        · subst e
          refine .inr ⟨q2, lb, .int 0, .int 0, rfl, upd_same, fun H' s' => ⟨false, rfl, iteT ?_⟩⟩
          refine ⟨_, rfl, Nat.zero_le _, fun q3 nq3 => ⟨dI [], dI [], dp_ints (sq_of ((same_upd nq3) _ _ (s' _ _ (s9 _ _ W8.at_)))), dp_ints (sq_of upd_same), shaped_ints [], shaped_ints [], _, rfl, ?_⟩⟩
          rw [eqv_ints]
          refine iteF ?_
          exact ⟨_, _, rfl, ((sm8.trans s9).trans s').trans (same_upd nq3)⟩
        · refine .inl ⟨.inr (.inr (.inl ⟨q2, [.int 1] ++ xs, lb, .int 0, .int 0, rfl, upd_same, fun x hx => ?_, by have := Wb.len; simp; omega, ?_⟩)), fun H' s' => ⟨true, rfl, iteF (iteF ?_)⟩⟩
          · rcases List.mem_append.mp hx with hx | hx
            · simp at hx
              rw [hx]; exact .inl ⟨1, rfl⟩
            · exact W8.ib x hx
          · show (okCounts (.int 1 :: xs) && _) = false
            rw [e]; rfl
          · exact ⟨_, _, rfl, (sm8.trans s9).trans s'⟩
    · rintro σ H5 ⟨y7, y8, rfl, sm⟩
      obtain ⟨cr, hcr⟩ := hc0
      -- if not refused("pairs", counts, counts + [0], ..)
      refine ⟨_, rfl, _, rfl, sz _ (by show 1 ≤ 100000; decide), fun q1 nq1 => ⟨cp, q1, _, _, rfl, rfl, (same_upd nq1) _ _ (sm _ _ hcp), upd_same, sz _ (by simp; omega), fun q2 nq2 => ⟨_, rfl, ?_⟩⟩⟩
      have s6 : Same H5 (upd (upd H5 q1 (.lst [.int 0])) q2 (.lst (cs.map V.int ++ [.int 0]))) := (same_upd nq1).trans (same_upd nq2)
      refine .inl ⟨.inr (.inl ⟨cp, q2, cs.map V.int, cs.map V.int ++ [.int 0], lb, .int 0, rfl, s6 _ _ (sm _ _ hcp), upd_same, ints_IB cs, hlc, fun x hx => ?_, by simp; omega, ?_⟩), fun H6 s6' => ⟨true, rfl, iteF ?_⟩⟩
      · rcases List.mem_append.mp hx with hx | hx
        · exact ints_IB cs x hx
        · simp at hx
          rw [hx]; exact .inl ⟨0, rfl⟩
      · rw [decide_eq_false (by simp), Bool.and_false]
      have sm6 := (sm.trans s6).trans s6'
      clear s6 s6' nq1 nq2
      -- for word in ..
      refine ⟨sz _ (by show 3 ≤ 100000; decide), fun p np => ⟨p, rfl, ⟨_, sq_of upd_same⟩, for_list (K := K) (a := p) (xs := [.str "row", .str "set", .str "ring"]) (fun j σ H' => ∃ y8 y9 y10, σ = [some (.ref a), some (.ref dp), some (.bl lb), some (.int sz0), some (.ref cp), some (.int at_), some (.ref wp), y7, y8, y9, y10, none] ∧ Same G13 H' ∧ H' p = some (.lst [.str "row", .str "set", .str "ring"]))
        ⟨y8, none, none, rfl, sm6.trans (same_upd np), upd_same⟩ (fun i σ H' _ ⟨_, _, _, _, _, h⟩ => sq_of h) ?_ ?_⟩⟩
      · rintro j x σ H7 hj ⟨y8, y9, y10, rfl, sm7, hp7⟩
        obtain ⟨wd, rfl, hwd⟩ := words3 hj
        -- for bounds in ..
        refine ⟨1, rfl, sz _ (by show 2 ≤ 100000; decide), fun t1 n1 => ?_⟩
        have e1 : (upd H7 t1 (.tup [.int (-1), .int 2])) t1 = some (.tup [.int (-1), .int 2]) := upd_same
        have u1 : Same H7 (upd H7 t1 (.tup [.int (-1), .int 2])) := same_upd n1
        generalize upd H7 t1 (.tup [.int (-1), .int 2]) = L1 at e1 u1 ⊢
        refine ⟨sz _ (by show 2 ≤ 100000; decide), fun t2 n2 => ?_⟩
        have e2 : (upd L1 t2 (.tup [.int 3, .int 2])) t2 = some (.tup [.int 3, .int 2]) := upd_same
        have u2 : Same L1 (upd L1 t2 (.tup [.int 3, .int 2])) := same_upd n2
        generalize upd L1 t2 (.tup [.int 3, .int 2]) = L2 at e2 u2 ⊢
        refine ⟨1, rfl, sz _ (by show 2 ≤ 100000; decide), fun t3 n3 => ?_⟩
        have e3 : (upd L2 t3 (.tup [.int 2, .int (-1)])) t3 = some (.tup [.int 2, .int (-1)]) := upd_same
        have u3 : Same L2 (upd L2 t3 (.tup [.int 2, .int (-1)])) := same_upd n3
        generalize upd L2 t3 (.tup [.int 2, .int (-1)]) = L3 at e3 u3 ⊢
        refine ⟨2, rfl, sz _ (by show 2 ≤ 100000; decide), fun t4 n4 => ?_⟩
        have e4 : (upd L3 t4 (.tup [.int (-2), .non])) t4 = some (.tup [.int (-2), .non]) := upd_same
        have u4 : Same L3 (upd L3 t4 (.tup [.int (-2), .non])) := same_upd n4
        generalize upd L3 t4 (.tup [.int (-2), .non]) = L4 at e4 u4 ⊢
        refine ⟨sz _ (by show 4 ≤ 100000; decide), fun bp nbp => ?_⟩
        have e5 : (upd L4 bp (.lst [.ref t1, .ref t2, .ref t3, .ref t4])) bp = some (.lst [.ref t1, .ref t2, .ref t3, .ref t4]) := upd_same
        have u5 : Same L4 (upd L4 bp (.lst [.ref t1, .ref t2, .ref t3, .ref t4])) := same_upd nbp
        generalize upd L4 bp (.lst [.ref t1, .ref t2, .ref t3, .ref t4]) = L5 at e5 u5 ⊢
        have u7 : Same H7 L5 := (((u1.trans u2).trans u3).trans u4).trans u5
        refine ⟨bp, rfl, ⟨_, sq_of e5⟩, for_list (K := K) (a := bp) (xs := [.ref t1, .ref t2, .ref t3, .ref t4]) (fun i σ H' => ∃ y9, σ = [some (.ref a), some (.ref dp), some (.bl lb), some (.int sz0), some (.ref cp), some (.int at_), some (.ref wp), y7, some (.str wd), y9, y10, none] ∧ Same L5 H')
          ⟨y9, rfl, .refl _⟩ (fun i σ H' _ ⟨_, _, s⟩ => sq_of (s _ _ e5)) ?_ ?_⟩
        · rintro i x σ H8 hi ⟨y9, rfl, s8⟩
          obtain ⟨t, l, m, rfl, ht, hb⟩ : ∃ (t : Addr) (l : Int) (m : Option Int), x = V.ref t ∧ L5 t = some (.tup [.int l, oV m]) ∧ (areB wd l m = false ∧ l ≤ 1000) := by
            match i, hi with
            | 0, hi => exact ⟨t1, -1, some 2, (Option.some.inj hi).symm, u5 _ _ (u4 _ _ (u3 _ _ (u2 _ _ e1))), areB_neg (by decide), by decide⟩
            | 1, hi => exact ⟨t2, 3, some 2, (Option.some.inj hi).symm, u5 _ _ (u4 _ _ (u3 _ _ e2)), areB_gt (by decide), by decide⟩
            | 2, hi => exact ⟨t3, 2, some (-1), (Option.some.inj hi).symm, u5 _ _ (u4 _ _ e3), areB_gt (by decide), by decide⟩
            | 3, hi => exact ⟨t4, -2, none, (Option.some.inj hi).symm, u5 _ _ e4, areB_neg (by decide), by decide⟩
            | n + 4, hi => cases hi
          refine ⟨_, rfl, _, rfl, _, rfl, t, _, _, .int l, rfl, rfl, st_of (s8 _ _ ht), atI_nat (j := 0) rfl, _, rfl, t, _, _, oV m, rfl, rfl, st_of (s8 _ _ ht), atI_nat (j := 1) rfl, _, rfl, .inl ⟨(.inl ⟨wd, cp, cs.map V.int, l, m, lb, rfl, hwd, s8 _ _ (u7 _ _ (sm7 _ _ hcp)), ints_IB cs, hlc, hb.2, good_b hb.1⟩), fun H9 s9 => ⟨true, rfl, ?_⟩⟩⟩
          refine iteF ?_
          exact ⟨_, rfl, s8.trans s9⟩
        · rintro σ H8 ⟨y9, rfl, s8⟩
          have sm8 := (sm7.trans u7).trans s8
          have hp8 := s8 _ _ (u7 _ _ hp7)
          -- full
          refine ⟨_, rfl, dp, _, _, _, rfl, rfl, sq_of (sm8 _ _ hd), atI_nat (j := 21) (dat (by decide)), .inl ⟨_, rfl, _, _, rfl, rfl, (by show (0 : Int) < 3; decide), _, _, rfl, rfl, sz _ (by show 1 ≤ 100000; decide), fun q1 nq1 => ?_⟩⟩
          refine ⟨_, rfl, ((1 : Nat) : Int), rfl, cp, _, rfl, sq_of ((same_upd nq1) _ _ (sm8 _ _ hcp)), fun q2 nq2 => ?_⟩
          rw [cutV_from]
          refine ⟨q1, q2, _, _, rfl, rfl, (same_upd nq2) _ _ upd_same, upd_same, sz _ (by simp; omega), fun fp nfp => ?_⟩
          have s9 : Same H8 (upd (upd (upd H8 q1 (.lst [.int (1 + ds.getD 21 0 % 3)])) q2 (.lst ((cs.map V.int).drop 1))) fp (.lst ([.int (1 + ds.getD 21 0 % 3)] ++ (cs.map V.int).drop 1))) := ((same_upd nq1).trans (same_upd nq2)).trans (same_upd nfp)
          have hfp : (upd (upd (upd H8 q1 (.lst [.int (1 + ds.getD 21 0 % 3)])) q2 (.lst ((cs.map V.int).drop 1))) fp (.lst ([.int (1 + ds.getD 21 0 % 3)] ++ (cs.map V.int).drop 1))) fp = some (.lst (((1 + ds.getD 21 0 % 3) :: cs.drop 1).map V.int)) := by
            rw [upd_same, List.map_cons, List.map_drop]; rfl
          have hm0 := Int.emod_nonneg (ds.getD 21 0) (b := 3) (by decide)
          have hm1 := Int.emod_lt_of_pos (ds.getD 21 0) (b := 3) (by decide)
          generalize hhd : (1 + ds.getD 21 0 % 3 : Int) = hh at hfp
          have hh1 : 1 ≤ hh ∧ hh ≤ 3 := by omega
          have hfs : Smc (hh :: cs.drop 1) := fun x hx => by
            rcases List.mem_cons.mp hx with e | hx
            · rw [e]; omega
            · exact hcm x (List.mem_of_mem_drop hx)
          have hfl : ((hh :: cs.drop 1).map V.int).length ≤ 1000 := by simp; omega
          have hpos : headPos ((hh :: cs.drop 1).map V.int) = true := decide_eq_true (show 0 < hh by omega)
          have sm9 := sm8.trans s9
          have hp9 := s9 _ _ hp8
          dsimp only at hfp s9 ⊢
          rw [hhd] at s9 sm9 hp9 ⊢
          generalize (upd (upd (upd H8 q1 (.lst [.int hh])) q2 (.lst ((cs.map V.int).drop 1))) fp (.lst ([.int hh] ++ (cs.map V.int).drop 1))) = H9 at hfp s9 sm9 hp9 ⊢
          -- three refused
          refine ⟨_, rfl, _, rfl, _, rfl, .inl ⟨(.inl ⟨wd, fp, _, 1, none, lb, rfl, hwd, hfp, ints_IB _, hfl, by decide, good_h hpos rfl⟩), fun H10 s10 => ⟨true, rfl, ?_⟩⟩⟩
          refine iteF ?_
          refine ⟨_, rfl, _, rfl, _, rfl, .inl ⟨(.inl ⟨wd, fp, _, 1, some 2, lb, rfl, hwd, s10 _ _ hfp, ints_IB _, hfl, by decide, good_h hpos rfl⟩), fun H11 s11 => ⟨true, rfl, ?_⟩⟩⟩
          refine iteF ?_
          have hfp11 := s11 _ _ (s10 _ _ hfp)
          refine ⟨_, rfl, _, rfl, _, rfl, .inl ⟨(.inr (.inr (.inr ⟨fp, _, wd, 2, lb, rfl, hfp11, ints_IB _, hfl, by decide, good_h hpos rfl⟩))), fun H12 s12 => ⟨true, rfl, ?_⟩⟩⟩
          refine iteF ?_
          have hfp12 := s12 _ _ hfp11
          have sm12 := ((sm9.trans s10).trans s11).trans s12
          have hp12 := s12 _ _ (s11 _ _ (s10 _ _ hp9))
          have hgood : good wd ((hh :: cs.drop 1).map V.int) 1 (some 1) = true := by
            unfold good
            have g1 : okCounts ((hh :: cs.drop 1).map V.int) = true := by
              unfold okCounts
              rw [decide_eq_true (p := 1 ≤ _) (by simp), decide_eq_true (p := _ ≤ 61) (by simp; omega), Bool.true_and, Bool.true_and, List.all_eq_true]
              intro x hx
              obtain ⟨z, hz, rfl⟩ := List.mem_map.mp hx
              exact decide_eq_true (hfs z hz).1
            have g2 : areB wd 1 (some 1) = true := by
              unfold areB
              have := low_nn wd
              rw [decide_eq_true (by omega)]; rfl
            rw [g1, isR_inW hwd, g2]
            show (true && (true && !(_ && false))) = true
            rw [Bool.and_false]; rfl
          -- asked(..) != full
          refine ⟨_, rfl, _, rfl, _, rfl, .inr (.inr ⟨wd, fp, hh :: cs.drop 1, lb, rfl, hwd, hfp12, hfs, hgood, by simpa using hfl, fun p' H13 s13 n13 e13 => ⟨_, rfl, dI (hh :: cs.drop 1), dI (hh :: cs.drop 1), dp_ints (sq_of e13), dp_ints (sq_of (s13 _ _ hfp12)), shaped_ints _, shaped_ints _, _, rfl, ?_⟩⟩)⟩
          rw [eqv_ints]
          refine iteF ?_
          have sm13 := sm12.trans s13
          refine ⟨_, rfl, _, rfl, 1, rfl, _, rfl, .inl ⟨(.inr (.inr (.inr ⟨cp, _, wd, -1, lb, rfl, sm13 _ _ hcp, ints_IB cs, hlc, by decide, good_b (areB_neg (by decide))⟩))), fun H14 s14 => ⟨true, rfl, ?_⟩⟩⟩
          refine iteF ?_
          exact ⟨_, _, _, rfl, sm13.trans s14, s14 _ _ (s13 _ _ hp12)⟩
      · rintro σ H7 ⟨y8, y9, y10, rfl, sm7, hp7⟩
        have ring0 : ∀ m, areB "ring" 0 m = false := fun m => areB_low (by unfold lowB; rw [if_pos rfl]; decide)
        refine ⟨_, rfl, _, rfl, .inl ⟨(.inl ⟨"ring", cp, _, 0, none, lb, rfl, .inr (.inr rfl), sm7 _ _ hcp, ints_IB cs, hlc, by decide, good_b (ring0 _)⟩), fun H8 s8 => ⟨true, rfl, ?_⟩⟩⟩
        refine iteF ?_
        have sm8 := sm7.trans s8
        refine ⟨_, rfl, _, rfl, .inl ⟨(.inr (.inr (.inr ⟨cp, _, "ring", 0, lb, rfl, sm8 _ _ hcp, ints_IB cs, hlc, by decide, good_b (ring0 _)⟩))), fun H9 s9 => ⟨true, rfl, ?_⟩⟩⟩
        refine iteF ?_
        have sm9 := sm8.trans s9
        refine ⟨_, rfl, _, rfl, .inl ⟨(.inr (.inr (.inl ⟨cp, _, lb, .int 0, .int 0, rfl, sm9 _ _ hcp, ints_IB cs, hlc, by rw [hcr]; simp [headOne]⟩))), fun H10 s10 => ⟨true, rfl, ?_⟩⟩⟩
        refine iteF ?_
        have sm10 := sm9.trans s10
        refine ⟨sz _ (by show 1 ≤ 100000; decide), fun q1 nq1 => ⟨_, rfl, ((1 : Nat) : Int), rfl, cp, _, rfl, sq_of ((same_upd nq1) _ _ (sm10 _ _ hcp)), fun q2 nq2 => ?_⟩⟩
        rw [cutV_from]
        refine ⟨q1, q2, _, _, rfl, rfl, (same_upd nq2) _ _ upd_same, upd_same, sz _ (by simp; omega), fun q3 nq3 => ⟨_, rfl, ?_⟩⟩
        have s11 := ((same_upd (o := HO.lst [V.int 2]) nq1).trans (same_upd (o := HO.lst ((cs.map V.int).drop 1)) nq2)).trans (same_upd (o := HO.lst ([V.int 2] ++ (cs.map V.int).drop 1)) nq3)
        refine .inl ⟨.inr (.inr (.inl ⟨q3, [V.int 2] ++ (cs.map V.int).drop 1, lb, .int 0, .int 0, rfl, upd_same, fun x hx => ?_, by simp; omega, by simp [headOne]⟩)), fun H12 s12 => ⟨true, rfl, iteF ?_⟩⟩
        · rcases List.mem_append.mp hx with hx | hx
          · simp at hx
            rw [hx]; exact .inl ⟨2, rfl⟩
          · exact mem_drop_map hx
        have sm12 := (sm10.trans s11).trans s12
        -- the end
        refine ⟨_, rfl, dp, _, _, _, rfl, rfl, sq_of (sm12 _ _ hd), atI_nat (j := 22) (dat (by decide)), .inl ⟨_, rfl, _, _, rfl, rfl, (by show (0 : Int) < 20; decide), _, _, rfl, rfl, _, rfl, ite2 (fun _ => q _) (fun _ => ?_)⟩⟩
        refine ⟨sz _ (by show 2 ≤ 100000; decide), fun r1 nr1 => ⟨sz _ (by show 1 ≤ 100000; decide), fun r2 nr2 => ⟨r2, 59, _, rfl, rfl, upd_same, by decide, by decide, sz _ (by show 1 * 59 ≤ 100000; decide), fun r3 nr3 => ⟨r1, r3, _, _, rfl, rfl, (same_upd nr3) _ _ ((same_upd nr2) _ _ upd_same), upd_same, sz _ (by decide), fun r4 nr4 => ⟨_, rfl, r4, (0 :: 1 :: List.replicate 59 0).map V.int, 0, none, lb, rfl, upd_same, ints_IB _, by decide, by decide, fun z => ?_, fun _ => ⟨0 :: 1 :: List.replicate 59 0, rfl, fun x hx => ?_, .inr rfl, fun p H' out s n e el _ => ⟨p, _, rfl, .inl (sq_of e), rfl, ?_⟩⟩⟩⟩⟩⟩⟩
        · exact absurd z (by decide +kernel)
        · simp only [List.mem_cons, List.mem_replicate] at hx
          rcases hx with rfl | rfl | ⟨_, rfl⟩ <;> exact ⟨by decide, by decide⟩
        · have : (((out.map V.int).length : Nat) : Int) = 61 := by rw [List.length_map, el]; rfl
          rw [decide_eq_true (by rw [this])]
          exact q _
end
end SM

namespace SM
open PySem L2
theorem kit_type {K : PySem.W.Frag} {C : Addr} {T : String} {b : Bool} (h : PySem.W.kitMeta T = true) (e : PySem.W.subIn K (.ref C) (.type T) = some b) : PySem.W.kitOne K (.ref C) (.type T) = some b := by
  unfold PySem.W.kitOne
  rw [if_neg (by intro z; cases beq_iff_eq.mp z)]
  show (if PySem.W.kitMeta T = true then _ else none) = _
  rw [if_pos h]
  exact e
theorem kit_ref {K : PySem.W.Frag} {C D : Addr} (e0 : PySem.W.subIn K (.ref C) (.ref C) = some true) (i : PySem.W.isClsIn K D = true) (t : PySem.W.typeIn K (.ref D) = some (.type "type")) (e : PySem.W.subIn K (.ref C) (.ref D) = some false) : PySem.W.kitOne K (.ref C) (.ref D) = some false := by
  unfold PySem.W.kitOne
  rw [if_neg (by
    intro z
    have z' := beq_iff_eq.mp z
    rw [← z', e0] at e
    cases e)]
  show (if ((PySem.W.clsIn K D).isSome && PySem.W.typeIn K (.ref D) == some (.type "type")) = true then _ else none) = _
  rw [if_pos (by rw [show (PySem.W.clsIn K D).isSome = true from i, t]; rfl)]
  exact e
theorem all_mk {l : PySem.W.OpenLaw} {w : World} {K : PySem.W.Frag} {h : Heap} {mg : Str → Option Value} {fa : Addr} (X : K.In h) (G : h.Ns mainGlobals mg) (hfa : mg "law" = some (.ref fa))
    {f0 : Addr} {oc0 kV0 dc0 pm0 cd0 ct0 : Value} {od0 an0 : Option Addr} {sl0 : Array (Option Value)}
    {f1 : Addr} {oc1 kV1 dc1 pm1 cd1 ct1 : Value} {od1 an1 : Option Addr} {sl1 : Array (Option Value)}
    {f2 : Addr} {oc2 kV2 dc2 pm2 cd2 ct2 : Value} {od2 an2 : Option Addr} {sl2 : Array (Option Value)}
    {f3 : Addr} {oc3 kV3 dc3 pm3 cd3 ct3 : Value} {od3 an3 : Option Addr} {sl3 : Array (Option Value)}
    {f4 : Addr} {oc4 kV4 dc4 pm4 cd4 ct4 : Value} {od4 an4 : Option Addr} {sl4 : Array (Option Value)}
    {f5 : Addr} {oc5 kV5 dc5 pm5 cd5 ct5 : Value} {od5 an5 : Option Addr} {sl5 : Array (Option Value)}
    {f6 : Addr} {oc6 kV6 dc6 pm6 cd6 ct6 : Value} {od6 an6 : Option Addr} {sl6 : Array (Option Value)}
    {f7 : Addr} {oc7 kV7 dc7 pm7 cd7 ct7 : Value} {od7 an7 : Option Addr} {sl7 : Array (Option Value)}
    {f8 : Addr} {oc8 kV8 dc8 pm8 cd8 ct8 : Value} {od8 an8 : Option Addr} {sl8 : Array (Option Value)}
    {f9 : Addr} {oc9 kV9 dc9 pm9 cd9 ct9 : Value} {od9 an9 : Option Addr} {sl9 : Array (Option Value)}
    {f10 : Addr} {oc10 kV10 dc10 pm10 cd10 ct10 : Value} {od10 an10 : Option Addr} {sl10 : Array (Option Value)}
    {f11 : Addr} {oc11 kV11 dc11 pm11 cd11 ct11 : Value} {od11 an11 : Option Addr} {sl11 : Array (Option Value)}
    {f12 : Addr} {oc12 kV12 dc12 pm12 cd12 ct12 : Value} {od12 an12 : Option Addr} {sl12 : Array (Option Value)}
    {f13 : Addr} {oc13 kV13 dc13 pm13 cd13 ct13 : Value} {od13 an13 : Option Addr} {sl13 : Array (Option Value)}
    {f14 : Addr} {oc14 kV14 dc14 pm14 cd14 ct14 : Value} {od14 an14 : Option Addr} {sl14 : Array (Option Value)}
    {f15 : Addr} {oc15 kV15 dc15 pm15 cd15 ct15 : Value} {od15 an15 : Option Addr} {sl15 : Array (Option Value)}
    {f16 : Addr} {oc16 kV16 dc16 pm16 cd16 ct16 : Value} {od16 an16 : Option Addr} {sl16 : Array (Option Value)}
    {f17 : Addr} {oc17 kV17 dc17 pm17 cd17 ct17 : Value} {od17 an17 : Option Addr} {sl17 : Array (Option Value)}
    {f18 : Addr} {oc18 kV18 dc18 pm18 cd18 ct18 : Value} {od18 an18 : Option Addr} {sl18 : Array (Option Value)}
    {f19 : Addr} {oc19 kV19 dc19 pm19 cd19 ct19 : Value} {od19 an19 : Option Addr} {sl19 : Array (Option Value)}
    {f20 : Addr} {oc20 kV20 dc20 pm20 cd20 ct20 : Value} {od20 an20 : Option Addr} {sl20 : Array (Option Value)}
    {cM cB cS cBS aMW : Addr}
    {f100 : Addr} {oc100 kV100 dc100 pm100 cd100 ct100 : Value} {od100 an100 : Option Addr} {sl100 : Array (Option Value)}
    {f101 : Addr} {oc101 kV101 dc101 pm101 cd101 ct101 : Value} {od101 an101 : Option Addr} {sl101 : Array (Option Value)}
    {f102 : Addr} {oc102 kV102 dc102 pm102 cd102 ct102 : Value} {od102 an102 : Option Addr} {sl102 : Array (Option Value)}
    {f103 : Addr} {oc103 kV103 dc103 pm103 cd103 ct103 : Value} {od103 an103 : Option Addr} {sl103 : Array (Option Value)}
    {f104 : Addr} {oc104 kV104 dc104 pm104 cd104 ct104 : Value} {od104 an104 : Option Addr} {sl104 : Array (Option Value)}
    {f105 : Addr} {oc105 kV105 dc105 pm105 cd105 ct105 : Value} {od105 an105 : Option Addr} {sl105 : Array (Option Value)}
    {f106 : Addr} {oc106 kV106 dc106 pm106 cd106 ct106 : Value} {od106 an106 : Option Addr} {sl106 : Array (Option Value)}
    {tL tU tR tM : Tok}
    {odm : Option Addr} {itm : Array Value} {nm : Nat} {slm : Array (Option Value)}
    (a0 : PySem.W.nsIn K mainGlobals "is_whole" = some (some (.ref f0)))
    (l0 : K.lookup f0 = some ⟨oc0, od0, .func (PySem.W.fnOf "is_whole" "is_whole" (defArgs s_is_whole) (defBody s_is_whole) (defScope s_is_whole) .none kV0 dc0 pm0 an0 cd0 ct0), sl0⟩) (c0 : PySem.W.codeIn K cd0 "is_whole" = true) (k0 : PySem.W.keepIn K (.ref f0) = true)
    (a1 : PySem.W.nsIn K mainGlobals "are_bounds" = some (some (.ref f1)))
    (l1 : K.lookup f1 = some ⟨oc1, od1, .func (PySem.W.fnOf "are_bounds" "are_bounds" (defArgs s_are_bounds) (defBody s_are_bounds) (defScope s_are_bounds) .none kV1 dc1 pm1 an1 cd1 ct1), sl1⟩) (c1 : PySem.W.codeIn K cd1 "are_bounds" = true) (k1 : PySem.W.keepIn K (.ref f1) = true)
    (a2 : PySem.W.nsIn K mainGlobals "more_than_one" = some (some (.ref f2)))
    (l2 : K.lookup f2 = some ⟨oc2, od2, .func (PySem.W.fnOf "more_than_one" "more_than_one" (defArgs s_more_than_one) (defBody s_more_than_one) (defScope s_more_than_one) .none kV2 dc2 pm2 an2 cd2 ct2), sl2⟩) (c2 : PySem.W.codeIn K cd2 "more_than_one" = true) (k2 : PySem.W.keepIn K (.ref f2) = true)
    (a3 : PySem.W.nsIn K mainGlobals "divisors" = some (some (.ref f3)))
    (l3 : K.lookup f3 = some ⟨oc3, od3, .func (PySem.W.fnOf "divisors" "divisors" (defArgs s_divisors) (defBody s_divisors) (defScope s_divisors) .none kV3 dc3 pm3 an3 cd3 ct3), sl3⟩) (c3 : PySem.W.codeIn K cd3 "divisors" = true) (k3 : PySem.W.keepIn K (.ref f3) = true)
    (a4 : PySem.W.nsIn K mainGlobals "totient" = some (some (.ref f4)))
    (l4 : K.lookup f4 = some ⟨oc4, od4, .func (PySem.W.fnOf "totient" "totient" (defArgs s_totient) (defBody s_totient) (defScope s_totient) .none kV4 dc4 pm4 an4 cd4 ct4), sl4⟩) (c4 : PySem.W.codeIn K cd4 "totient" = true) (k4 : PySem.W.keepIn K (.ref f4) = true)
    (a5 : PySem.W.nsIn K mainGlobals "mode_of" = some (some (.ref f5)))
    (l5 : K.lookup f5 = some ⟨oc5, od5, .func (PySem.W.fnOf "mode_of" "mode_of" (defArgs s_mode_of) (defBody s_mode_of) (defScope s_mode_of) .none kV5 dc5 pm5 an5 cd5 ct5), sl5⟩) (c5 : PySem.W.codeIn K cd5 "mode_of" = true) (k5 : PySem.W.keepIn K (.ref f5) = true)
    (a6 : PySem.W.nsIn K mainGlobals "ways_to_share" = some (some (.ref f6)))
    (l6 : K.lookup f6 = some ⟨oc6, od6, .func (PySem.W.fnOf "ways_to_share" "ways_to_share" (defArgs s_ways_to_share) (defBody s_ways_to_share) (defScope s_ways_to_share) .none kV6 dc6 pm6 an6 cd6 ct6), sl6⟩) (c6 : PySem.W.codeIn K cd6 "ways_to_share" = true) (k6 : PySem.W.keepIn K (.ref f6) = true)
    (a7 : PySem.W.nsIn K mainGlobals "check_counts" = some (some (.ref f7)))
    (l7 : K.lookup f7 = some ⟨oc7, od7, .func (PySem.W.fnOf "check_counts" "check_counts" (defArgs s_check_counts) (defBody s_check_counts) (defScope s_check_counts) .none kV7 dc7 pm7 an7 cd7 ct7), sl7⟩) (c7 : PySem.W.codeIn K cd7 "check_counts" = true) (k7 : PySem.W.keepIn K (.ref f7) = true)
    (a8 : PySem.W.nsIn K mainGlobals "pairs" = some (some (.ref f8)))
    (l8 : K.lookup f8 = some ⟨oc8, od8, .func (PySem.W.fnOf "pairs" "pairs" (defArgs s_pairs) (defBody s_pairs) (defScope s_pairs) .none kV8 dc8 pm8 an8 cd8 ct8), sl8⟩) (c8 : PySem.W.codeIn K cd8 "pairs" = true) (k8 : PySem.W.keepIn K (.ref f8) = true)
    (a9 : PySem.W.nsIn K mainGlobals "rows" = some (some (.ref f9)))
    (l9 : K.lookup f9 = some ⟨oc9, od9, .func (PySem.W.fnOf "rows" "rows" (defArgs s_rows) (defBody s_rows) (defScope s_rows) .none kV9 dc9 pm9 an9 cd9 ct9), sl9⟩) (c9 : PySem.W.codeIn K cd9 "rows" = true) (k9 : PySem.W.keepIn K (.ref f9) = true)
    (a10 : PySem.W.nsIn K mainGlobals "sets" = some (some (.ref f10)))
    (l10 : K.lookup f10 = some ⟨oc10, od10, .func (PySem.W.fnOf "sets" "sets" (defArgs s_sets) (defBody s_sets) (defScope s_sets) .none kV10 dc10 pm10 an10 cd10 ct10), sl10⟩) (c10 : PySem.W.codeIn K cd10 "sets" = true) (k10 : PySem.W.keepIn K (.ref f10) = true)
    (a11 : PySem.W.nsIn K mainGlobals "rings" = some (some (.ref f11)))
    (l11 : K.lookup f11 = some ⟨oc11, od11, .func (PySem.W.fnOf "rings" "rings" (defArgs s_rings) (defBody s_rings) (defScope s_rings) .none kV11 dc11 pm11 an11 cd11 ct11), sl11⟩) (c11 : PySem.W.codeIn K cd11 "rings" = true) (k11 : PySem.W.keepIn K (.ref f11) = true)
    (a12 : PySem.W.nsIn K mainGlobals "by_members" = some (some (.ref f12)))
    (l12 : K.lookup f12 = some ⟨oc12, od12, .func (PySem.W.fnOf "by_members" "by_members" (defArgs s_by_members) (defBody s_by_members) (defScope s_by_members) .none kV12 dc12 pm12 an12 cd12 ct12), sl12⟩) (c12 : PySem.W.codeIn K cd12 "by_members" = true) (k12 : PySem.W.keepIn K (.ref f12) = true)
    (a13 : PySem.W.nsIn K mainGlobals "_counts_within" = some (some (.ref f13)))
    (l13 : K.lookup f13 = some ⟨oc13, od13, .func (PySem.W.fnOf "_counts_within" "_counts_within" (defArgs s__counts_within) (defBody s__counts_within) (defScope s__counts_within) .none kV13 dc13 pm13 an13 cd13 ct13), sl13⟩) (c13 : PySem.W.codeIn K cd13 "_counts_within" = true) (k13 : PySem.W.keepIn K (.ref f13) = true)
    (a14 : PySem.W.nsIn K mainGlobals "sets_undone" = some (some (.ref f14)))
    (l14 : K.lookup f14 = some ⟨oc14, od14, .func (PySem.W.fnOf "sets_undone" "sets_undone" (defArgs s_sets_undone) (defBody s_sets_undone) (defScope s_sets_undone) .none kV14 dc14 pm14 an14 cd14 ct14), sl14⟩) (c14 : PySem.W.codeIn K cd14 "sets_undone" = true) (k14 : PySem.W.keepIn K (.ref f14) = true)
    (a15 : PySem.W.nsIn K mainGlobals "_labelled_undone" = some (some (.ref f15)))
    (l15 : K.lookup f15 = some ⟨oc15, od15, .func (PySem.W.fnOf "_labelled_undone" "_labelled_undone" (defArgs s__labelled_undone) (defBody s__labelled_undone) (defScope s__labelled_undone) .none kV15 dc15 pm15 an15 cd15 ct15), sl15⟩) (c15 : PySem.W.codeIn K cd15 "_labelled_undone" = true) (k15 : PySem.W.keepIn K (.ref f15) = true)
    (a16 : PySem.W.nsIn K mainGlobals "_unlabelled_undone" = some (some (.ref f16)))
    (l16 : K.lookup f16 = some ⟨oc16, od16, .func (PySem.W.fnOf "_unlabelled_undone" "_unlabelled_undone" (defArgs s__unlabelled_undone) (defBody s__unlabelled_undone) (defScope s__unlabelled_undone) .none kV16 dc16 pm16 an16 cd16 ct16), sl16⟩) (c16 : PySem.W.codeIn K cd16 "_unlabelled_undone" = true) (k16 : PySem.W.keepIn K (.ref f16) = true)
    (a17 : PySem.W.nsIn K mainGlobals "_law_draws" = some (some (.ref f17)))
    (l17 : K.lookup f17 = some ⟨oc17, od17, .func (PySem.W.fnOf "_law_draws" "_law_draws" (defArgs s__law_draws) (defBody s__law_draws) (defScope s__law_draws) .none kV17 dc17 pm17 an17 cd17 ct17), sl17⟩) (c17 : PySem.W.codeIn K cd17 "_law_draws" = true) (k17 : PySem.W.keepIn K (.ref f17) = true)
    (a18 : PySem.W.nsIn K mainGlobals "_law_asked" = some (some (.ref f18)))
    (l18 : K.lookup f18 = some ⟨oc18, od18, .func (PySem.W.fnOf "_law_asked" "_law_asked" (defArgs s__law_asked) (defBody s__law_asked) (defScope s__law_asked) .none kV18 dc18 pm18 an18 cd18 ct18), sl18⟩) (c18 : PySem.W.codeIn K cd18 "_law_asked" = true) (k18 : PySem.W.keepIn K (.ref f18) = true)
    (a19 : PySem.W.nsIn K mainGlobals "_law_refused" = some (some (.ref f19)))
    (l19 : K.lookup f19 = some ⟨oc19, od19, .func (PySem.W.fnOf "_law_refused" "_law_refused" (defArgs s__law_refused) (defBody s__law_refused) (defScope s__law_refused) .none kV19 dc19 pm19 an19 cd19 ct19), sl19⟩) (c19 : PySem.W.codeIn K cd19 "_law_refused" = true) (k19 : PySem.W.keepIn K (.ref f19) = true)
    (a20 : PySem.W.nsIn K mainGlobals "law" = some (some (.ref f20)))
    (l20 : K.lookup f20 = some ⟨oc20, od20, .func (PySem.W.fnOf "law" "law" (defArgs s_law) (defBody s_law) (defScope s_law) .none kV20 dc20 pm20 an20 cd20 ct20), sl20⟩) (c20 : PySem.W.codeIn K cd20 "law" = true) (k20 : PySem.W.keepIn K (.ref f20) = true)
    (a100 : PySem.W.findIn K (.ref cM) "__init__" = some (some (.ref f100))) (i100 : PySem.W.isFn K (.ref f100) = true)
    (l100 : K.lookup f100 = some ⟨oc100, od100, .func (PySem.W.fnOf "__init__" "Members.__init__" (defArgs s_Members_init) (defBody s_Members_init) (defScope s_Members_init) .none kV100 dc100 pm100 an100 cd100 ct100), sl100⟩) (c100 : PySem.W.codeIn K cd100 "Members.__init__" = true) (k100 : PySem.W.keepIn K (.ref f100) = true)
    (a101 : PySem.W.findIn K (.ref cM) "grow" = some (some (.ref f101))) (i101 : PySem.W.isFn K (.ref f101) = true)
    (l101 : K.lookup f101 = some ⟨oc101, od101, .func (PySem.W.fnOf "grow" "Members.grow" (defArgs s_Members_grow) (defBody s_Members_grow) (defScope s_Members_grow) .none kV101 dc101 pm101 an101 cd101 ct101), sl101⟩) (c101 : PySem.W.codeIn K cd101 "Members.grow" = true) (k101 : PySem.W.keepIn K (.ref f101) = true)
    (a102 : PySem.W.findIn K (.ref cM) "shared_counts" = some (some (.ref f102))) (i102 : PySem.W.isFn K (.ref f102) = true)
    (l102 : K.lookup f102 = some ⟨oc102, od102, .func (PySem.W.fnOf "shared_counts" "Members.shared_counts" (defArgs s_Members_shared_counts) (defBody s_Members_shared_counts) (defScope s_Members_shared_counts) .none kV102 dc102 pm102 an102 cd102 ct102), sl102⟩) (c102 : PySem.W.codeIn K cd102 "Members.shared_counts" = true) (k102 : PySem.W.keepIn K (.ref f102) = true)
    (a103 : PySem.W.findIn K (.ref cM) "next_rows" = some (some (.ref f103))) (i103 : PySem.W.isFn K (.ref f103) = true)
    (l103 : K.lookup f103 = some ⟨oc103, od103, .func (PySem.W.fnOf "next_rows" "Members.next_rows" (defArgs s_Members_next_rows) (defBody s_Members_next_rows) (defScope s_Members_next_rows) .none kV103 dc103 pm103 an103 cd103 ct103), sl103⟩) (c103 : PySem.W.codeIn K cd103 "Members.next_rows" = true) (k103 : PySem.W.keepIn K (.ref f103) = true)
    (a104 : PySem.W.findIn K (.ref cM) "exactly" = some (some (.ref f104))) (i104 : PySem.W.isFn K (.ref f104) = true)
    (l104 : K.lookup f104 = some ⟨oc104, od104, .func (PySem.W.fnOf "exactly" "Members.exactly" (defArgs s_Members_exactly) (defBody s_Members_exactly) (defScope s_Members_exactly) .none kV104 dc104 pm104 an104 cd104 ct104), sl104⟩) (c104 : PySem.W.codeIn K cd104 "Members.exactly" = true) (k104 : PySem.W.keepIn K (.ref f104) = true)
    (a105 : PySem.W.findIn K (.ref cM) "rings" = some (some (.ref f105))) (i105 : PySem.W.isFn K (.ref f105) = true)
    (l105 : K.lookup f105 = some ⟨oc105, od105, .func (PySem.W.fnOf "rings" "Members.rings" (defArgs s_Members_rings) (defBody s_Members_rings) (defScope s_Members_rings) .none kV105 dc105 pm105 an105 cd105 ct105), sl105⟩) (c105 : PySem.W.codeIn K cd105 "Members.rings" = true) (k105 : PySem.W.keepIn K (.ref f105) = true)
    (a106 : PySem.W.findIn K (.ref cM) "within" = some (some (.ref f106))) (i106 : PySem.W.isFn K (.ref f106) = true)
    (l106 : K.lookup f106 = some ⟨oc106, od106, .func (PySem.W.fnOf "within" "Members.within" (defArgs s_Members_within) (defBody s_Members_within) (defScope s_Members_within) .none kV106 dc106 pm106 an106 cd106 ct106), sl106⟩) (c106 : PySem.W.codeIn K cd106 "Members.within" = true) (k106 : PySem.W.keepIn K (.ref f106) = true)
    (n_isinstance : PySem.W.nsIn K mainGlobals "isinstance" = some none)
    (n_int : PySem.W.nsIn K mainGlobals "int" = some none)
    (n_bool : PySem.W.nsIn K mainGlobals "bool" = some none)
    (n_list : PySem.W.nsIn K mainGlobals "list" = some none)
    (n_len : PySem.W.nsIn K mainGlobals "len" = some none)
    (n_abs : PySem.W.nsIn K mainGlobals "abs" = some none)
    (n_any : PySem.W.nsIn K mainGlobals "any" = some none)
    (n_sum : PySem.W.nsIn K mainGlobals "sum" = some none)
    (n_range : PySem.W.nsIn K mainGlobals "range" = some none)
    (n_max : PySem.W.nsIn K mainGlobals "max" = some none)
    (n_min : PySem.W.nsIn K mainGlobals "min" = some none)
    (n_ValueError : PySem.W.nsIn K mainGlobals "ValueError" = some none)
    (m_comb : PySem.W.nsIn K mainGlobals "comb" = some (some (.builtin "math.comb")))
    (m_factorial : PySem.W.nsIn K mainGlobals "factorial" = some (some (.builtin "math.factorial")))
    (m_gcd : PySem.W.nsIn K mainGlobals "gcd" = some (some (.builtin "math.gcd")))
    (g_LABELLED : PySem.W.nsIn K mainGlobals "LABELLED" = some (some (.str "labelled" tL)))
    (g_UNLABELLED : PySem.W.nsIn K mainGlobals "UNLABELLED" = some (some (.str "unlabelled" tU)))
    (g_RIGID : PySem.W.nsIn K mainGlobals "RIGID" = some (some (.str "rigid" tR)))
    (g_MOST_ITEMS : PySem.W.nsIn K mainGlobals "MOST_ITEMS" = some (some (.int 61 tM)))
    (aMWn : PySem.W.nsIn K mainGlobals "MEMBER_WORDS" = some (some (.ref aMW))) (aMWl : K.lookup aMW = some ⟨.type "tuple", odm, .seq itm nm, slm⟩) (aMWv : Vals [.str "row", .str "set", .str "ring"] itm.toList)
    (g_Members : PySem.W.nsIn K mainGlobals "Members" = some (some (.ref cM)))
    (g_BadCounts : PySem.W.nsIn K mainGlobals "BadCounts" = some (some (.ref cB)))
    (g_SpeciesError : PySem.W.nsIn K mainGlobals "SpeciesError" = some (some (.ref cS)))
    (g_BadSpec : PySem.W.nsIn K mainGlobals "BadSpec" = some (some (.ref cBS)))
    (M_pg : PySem.W.plainGet K cM Str.empty = true) (M_hd : PySem.W.hasDictIn K cM = true) (M_po : PySem.W.plainOver K cM = true) (M_sa : PySem.W.findIn K (.ref cM) "__setattr__" = some (some (.builtin "object.__setattr__"))) (M_mk : PySem.W.makesIn K cM = true) (M_kc : PySem.W.keepIn K (.ref cM) = true)
    (M_word : PySem.W.findIn K (.ref cM) "word" = some none)
    (M_most : PySem.W.findIn K (.ref cM) "most" = some none)
    (M_counts : PySem.W.findIn K (.ref cM) "counts" = some none)
    (M_mode : PySem.W.findIn K (.ref cM) "mode" = some none)
    (M_table : PySem.W.findIn K (.ref cM) "table" = some none)
    (B_x : PySem.W.excIn K cB [.type "ValueError", .type "Exception", .type "BaseException", .type "object"] "ValueError.__new__" = true) (B_k : PySem.W.keepIn K (.ref cB) = true) (B_b : PySem.W.subIn K (.ref cB) (.type "BaseException") = some true) (B_t : PySem.W.typeIn K (.ref cB) = some (.type "type"))
    (B_ga : PySem.W.findIn K (.ref cB) "__getattribute__" = some (some (.builtin "BaseException.__getattribute__"))) (B_gt : PySem.W.findIn K (.ref cB) "__getattr__" = some none) (B_hd : PySem.W.hasDictIn K cB = true) (B_ca : PySem.W.findIn K (.ref cB) "__class__" = some (some (.builtin "object.__class__"))) (B_cn : PySem.W.specialIn K (.builtin "object.__class__") "__get__" = some (some (.builtin "getset_descriptor.__get__"))) (B_ct : PySem.W.takesIn K (.builtin "object.__class__") = some true) (B_cm : PySem.W.mroIn K cB (.type "object") = some true)
    (S_b : PySem.W.subIn K (.ref cS) (.type "BaseException") = some true) (S_hd : PySem.W.hasDictIn K cS = true) (S_t : PySem.W.typeIn K (.ref cS) = some (.type "type")) (S_s : PySem.W.subIn K (.ref cB) (.ref cS) = some true) (J_2 : PySem.W.subIn K (.ref cB) (.type "ValueError") = some true) (J_3 : PySem.W.subIn K (.ref cB) (.ref cBS) = some false) (J_b : PySem.W.subIn K (.ref cB) (.ref cB) = some true) (J_i : PySem.W.isClsIn K cBS = true) (J_t : PySem.W.typeIn K (.ref cBS) = some (.type "type")) :
    ∃ fd : FuncData, (∀ (s : Shared) (v : Value), BindsTo s fd ⟨[v], []⟩ [("script", v)]) ∧ ∀ base : Heap, K.In base → base.Ns mainGlobals mg → FnOk l.prog w K mg base CX0 9 fa fd ["script"] (spLaw K) := by
  have e := hfa.symm.trans (PySem.W.mg_of X G a20)
  cases e
  have F0 := fun_mk (st := s_is_whole) l0 c0 k0
  have D0 : Df K mg "is_whole" s_is_whole ["value"] := ⟨f0, _, PySem.W.mg_of X G a0, F0, F0.binds (ps := ["value"]) fun _ _ _ _ _ _ us hl => match us, hl with | [_], _ => rfl⟩
  have F1 := fun_mk (st := s_are_bounds) l1 c1 k1
  have D1 : Df K mg "are_bounds" s_are_bounds ["word", "least", "most"] := ⟨f1, _, PySem.W.mg_of X G a1, F1, F1.binds (ps := ["word", "least", "most"]) fun _ _ _ _ _ _ us hl => match us, hl with | [_, _, _], _ => rfl⟩
  have F2 := fun_mk (st := s_more_than_one) l2 c2 k2
  have D2 : Df K mg "more_than_one" s_more_than_one ["most"] := ⟨f2, _, PySem.W.mg_of X G a2, F2, F2.binds (ps := ["most"]) fun _ _ _ _ _ _ us hl => match us, hl with | [_], _ => rfl⟩
  have F3 := fun_mk (st := s_divisors) l3 c3 k3
  have D3 : Df K mg "divisors" s_divisors ["number"] := ⟨f3, _, PySem.W.mg_of X G a3, F3, F3.binds (ps := ["number"]) fun _ _ _ _ _ _ us hl => match us, hl with | [_], _ => rfl⟩
  have F4 := fun_mk (st := s_totient) l4 c4 k4
  have D4 : Df K mg "totient" s_totient ["number"] := ⟨f4, _, PySem.W.mg_of X G a4, F4, F4.binds (ps := ["number"]) fun _ _ _ _ _ _ us hl => match us, hl with | [_], _ => rfl⟩
  have F5 := fun_mk (st := s_mode_of) l5 c5 k5
  have D5 : Df K mg "mode_of" s_mode_of ["labelled"] := ⟨f5, _, PySem.W.mg_of X G a5, F5, F5.binds (ps := ["labelled"]) fun _ _ _ _ _ _ us hl => match us, hl with | [_], _ => rfl⟩
  have F6 := fun_mk (st := s_ways_to_share) l6 c6 k6
  have D6 : Df K mg "ways_to_share" s_ways_to_share ["first", "size", "mode"] := ⟨f6, _, PySem.W.mg_of X G a6, F6, F6.binds (ps := ["first", "size", "mode"]) fun _ _ _ _ _ _ us hl => match us, hl with | [_, _, _], _ => rfl⟩
  have F7 := fun_mk (st := s_check_counts) l7 c7 k7
  have D7 : Df K mg "check_counts" s_check_counts ["counts"] := ⟨f7, _, PySem.W.mg_of X G a7, F7, F7.binds (ps := ["counts"]) fun _ _ _ _ _ _ us hl => match us, hl with | [_], _ => rfl⟩
  have F8 := fun_mk (st := s_pairs) l8 c8 k8
  have D8 : Df K mg "pairs" s_pairs ["first", "second", "labelled"] := ⟨f8, _, PySem.W.mg_of X G a8, F8, F8.binds (ps := ["first", "second", "labelled"]) fun _ _ _ _ _ _ us hl => match us, hl with | [_, _, _], _ => rfl⟩
  have F9 := fun_mk (st := s_rows) l9 c9 k9
  have D9 : Df K mg "rows" s_rows ["counts", "least", "most", "labelled"] := ⟨f9, _, PySem.W.mg_of X G a9, F9, F9.binds (ps := ["counts", "least", "most", "labelled"]) fun _ _ _ _ _ _ us hl => match us, hl with | [_, _, _, _], _ => rfl⟩
  have F10 := fun_mk (st := s_sets) l10 c10 k10
  have D10 : Df K mg "sets" s_sets ["counts", "least", "most", "labelled"] := ⟨f10, _, PySem.W.mg_of X G a10, F10, F10.binds (ps := ["counts", "least", "most", "labelled"]) fun _ _ _ _ _ _ us hl => match us, hl with | [_, _, _, _], _ => rfl⟩
  have F11 := fun_mk (st := s_rings) l11 c11 k11
  have D11 : Df K mg "rings" s_rings ["counts", "least", "most", "labelled"] := ⟨f11, _, PySem.W.mg_of X G a11, F11, F11.binds (ps := ["counts", "least", "most", "labelled"]) fun _ _ _ _ _ _ us hl => match us, hl with | [_, _, _, _], _ => rfl⟩
  have F12 := fun_mk (st := s_by_members) l12 c12 k12
  have D12 : Df K mg "by_members" s_by_members ["counts", "word", "members", "labelled"] := ⟨f12, _, PySem.W.mg_of X G a12, F12, F12.binds (ps := ["counts", "word", "members", "labelled"]) fun _ _ _ _ _ _ us hl => match us, hl with | [_, _, _, _], _ => rfl⟩
  have F13 := fun_mk (st := s__counts_within) l13 c13 k13
  have D13 : Df K mg "_counts_within" s__counts_within ["word", "counts", "least", "most", "labelled"] := ⟨f13, _, PySem.W.mg_of X G a13, F13, F13.binds (ps := ["word", "counts", "least", "most", "labelled"]) fun _ _ _ _ _ _ us hl => match us, hl with | [_, _, _, _, _], _ => rfl⟩
  have F14 := fun_mk (st := s_sets_undone) l14 c14 k14
  have D14 : Df K mg "sets_undone" s_sets_undone ["counts", "labelled"] := ⟨f14, _, PySem.W.mg_of X G a14, F14, F14.binds (ps := ["counts", "labelled"]) fun _ _ _ _ _ _ us hl => match us, hl with | [_, _], _ => rfl⟩
  have F15 := fun_mk (st := s__labelled_undone) l15 c15 k15
  have D15 : Df K mg "_labelled_undone" s__labelled_undone ["counts"] := ⟨f15, _, PySem.W.mg_of X G a15, F15, F15.binds (ps := ["counts"]) fun _ _ _ _ _ _ us hl => match us, hl with | [_], _ => rfl⟩
  have F16 := fun_mk (st := s__unlabelled_undone) l16 c16 k16
  have D16 : Df K mg "_unlabelled_undone" s__unlabelled_undone ["counts"] := ⟨f16, _, PySem.W.mg_of X G a16, F16, F16.binds (ps := ["counts"]) fun _ _ _ _ _ _ us hl => match us, hl with | [_], _ => rfl⟩
  have F17 := fun_mk (st := s__law_draws) l17 c17 k17
  have D17 : Df K mg "_law_draws" s__law_draws ["script", "many"] := ⟨f17, _, PySem.W.mg_of X G a17, F17, F17.binds (ps := ["script", "many"]) fun _ _ _ _ _ _ us hl => match us, hl with | [_, _], _ => rfl⟩
  have F18 := fun_mk (st := s__law_asked) l18 c18 k18
  have D18 : Df K mg "_law_asked" s__law_asked ["word", "counts", "least", "most", "labelled"] := ⟨f18, _, PySem.W.mg_of X G a18, F18, F18.binds (ps := ["word", "counts", "least", "most", "labelled"]) fun _ _ _ _ _ _ us hl => match us, hl with | [_, _, _, _, _], _ => rfl⟩
  have F19 := fun_mk (st := s__law_refused) l19 c19 k19
  have D19 : Df K mg "_law_refused" s__law_refused ["word", "counts", "least", "most", "labelled"] := ⟨f19, _, PySem.W.mg_of X G a19, F19, F19.binds (ps := ["word", "counts", "least", "most", "labelled"]) fun _ _ _ _ _ _ us hl => match us, hl with | [_, _, _, _, _], _ => rfl⟩
  have F20 := fun_mk (st := s_law) l20 c20 k20
  have F100 := fun_mk (st := s_Members_init) l100 c100 k100
  have D100 : DfM K cM "__init__" "Members.__init__" s_Members_init ["self", "word", "most", "counts", "mode"] := ⟨f100, _, ⟨a100, i100, k100⟩, F100, F100.binds (ps := ["self", "word", "most", "counts", "mode"]) fun _ _ _ _ _ _ us hl => match us, hl with | [_, _, _, _, _], _ => rfl⟩
  have F101 := fun_mk (st := s_Members_grow) l101 c101 k101
  have D101 : DfM K cM "grow" "Members.grow" s_Members_grow ["self"] := ⟨f101, _, ⟨a101, i101, k101⟩, F101, F101.binds (ps := ["self"]) fun _ _ _ _ _ _ us hl => match us, hl with | [_], _ => rfl⟩
  have F102 := fun_mk (st := s_Members_shared_counts) l102 c102 k102
  have D102 : DfM K cM "shared_counts" "Members.shared_counts" s_Members_shared_counts ["self", "size"] := ⟨f102, _, ⟨a102, i102, k102⟩, F102, F102.binds (ps := ["self", "size"]) fun _ _ _ _ _ _ us hl => match us, hl with | [_, _], _ => rfl⟩
  have F103 := fun_mk (st := s_Members_next_rows) l103 c103 k103
  have D103 : DfM K cM "next_rows" "Members.next_rows" s_Members_next_rows ["self", "shared", "members", "size"] := ⟨f103, _, ⟨a103, i103, k103⟩, F103, F103.binds (ps := ["self", "shared", "members", "size"]) fun _ _ _ _ _ _ us hl => match us, hl with | [_, _, _, _], _ => rfl⟩
  have F104 := fun_mk (st := s_Members_exactly) l104 c104 k104
  have D104 : DfM K cM "exactly" "Members.exactly" s_Members_exactly ["self", "members", "size"] := ⟨f104, _, ⟨a104, i104, k104⟩, F104, F104.binds (ps := ["self", "members", "size"]) fun _ _ _ _ _ _ us hl => match us, hl with | [_, _, _], _ => rfl⟩
  have F105 := fun_mk (st := s_Members_rings) l105 c105 k105
  have D105 : DfM K cM "rings" "Members.rings" s_Members_rings ["self", "members", "size"] := ⟨f105, _, ⟨a105, i105, k105⟩, F105, F105.binds (ps := ["self", "members", "size"]) fun _ _ _ _ _ _ us hl => match us, hl with | [_, _, _], _ => rfl⟩
  have F106 := fun_mk (st := s_Members_within) l106 c106 k106
  have D106 : DfM K cM "within" "Members.within" s_Members_within ["self", "least", "most", "size"] := ⟨f106, _, ⟨a106, i106, k106⟩, F106, F106.binds (ps := ["self", "least", "most", "size"]) fun _ _ _ _ _ _ us hl => match us, hl with | [_, _, _, _], _ => rfl⟩
  have sizeMW : itm.size ≤ sizeLine := by
    have := aMWv.length
    have e : itm.size = 3 := by rw [← Array.length_toList]; exact this.symm
    rw [e]
    exact sz _ (by decide)
  have T : Tx K mg ⟨cM, cB, cS, cBS, aMW, .str "labelled" tL, .str "unlabelled" tU, .str "rigid" tR, .int 61 tM⟩ := ⟨PySem.W.mg_none_of X G n_isinstance, PySem.W.mg_none_of X G n_int, PySem.W.mg_none_of X G n_bool, PySem.W.mg_none_of X G n_list, PySem.W.mg_none_of X G n_len, PySem.W.mg_none_of X G n_abs, PySem.W.mg_none_of X G n_any, PySem.W.mg_none_of X G n_sum, PySem.W.mg_none_of X G n_range, PySem.W.mg_none_of X G n_max, PySem.W.mg_none_of X G n_min, PySem.W.mg_none_of X G n_ValueError, PySem.W.mg_of X G m_comb, PySem.W.mg_of X G m_factorial, PySem.W.mg_of X G m_gcd, PySem.W.mg_of X G g_LABELLED, ⟨_, rfl⟩, PySem.W.mg_of X G g_UNLABELLED, ⟨_, rfl⟩, PySem.W.mg_of X G g_RIGID, ⟨_, rfl⟩, PySem.W.mg_of X G g_MOST_ITEMS, ⟨_, rfl⟩, PySem.W.mg_of X G aMWn, rfl, fun H => .inr ⟨_, itm, nm, aMWl, rfl, rfl, sizeMW, aMWv⟩, ⟨PySem.W.mg_of X G g_BadCounts, B_x, B_k, B_b, B_t⟩, PySem.W.mg_of X G g_Members, ⟨M_pg, M_hd, M_po, M_sa⟩, M_word, M_most, M_counts, M_mode, M_table⟩
  have XX : Ex K mg ⟨cM, cB, cS, cBS, aMW, .str "labelled" tL, .str "unlabelled" tU, .str "rigid" tR, .int 61 tM⟩ := ⟨PySem.W.mg_of X G g_SpeciesError, PySem.W.mg_of X G g_BadSpec, ⟨B_ga, B_gt, B_b, B_hd, B_ca, B_cn, B_ct, B_cm⟩, PySem.W.exm_ref S_b S_hd S_t S_s, by (unfold PySem.W.kitOne; rw [if_pos (beq_self_eq_true _)]), kit_type (by decide +kernel) J_2, kit_ref J_b J_i J_t J_3⟩
  refine ⟨PySem.W.fnOf "law" "law" (defArgs s_law) (defBody s_law) (defScope s_law) .none kV20 dc20 pm20 an20 cd20 ct20, fun s v => .of_eq rfl, fun base _ _ => ?_⟩
  have c1 := ok_is_whole (P := l.prog) (w := w) (base := base) T D0
  have c2 := ok_are_bounds T D1 c1
  have c3 := ok_more (P := l.prog) (w := w) (base := base) T D2
  have c4 := ok_mode (P := l.prog) (w := w) (base := base) T D5
  have c5 := ok_check T D7 c1
  have c6 := ok_divisors (P := l.prog) (w := w) (base := base) T D3
  have c7 := ok_totient (P := l.prog) (w := w) (base := base) T D4
  have c8 := ok_share (P := l.prog) (w := w) (base := base) T D6
  have c9 := ok_init (P := l.prog) (w := w) (base := base) (mg := mg) T D100
  have c10 := ok_shared T D102 c8
  have c11 := ok_nextRows (P := l.prog) (w := w) (base := base) T D103
  have c12 := ok_grow T D101 c10 c11
  have c13 := ok_rings1 T D105 c6 c7
  have c14 := ok_exactly T D104 c13
  have c15 := ok_within T D106 c14
  obtain ⟨fi, fdi, mi, bi, gi⟩ := c9.ex
  have c16 := ok_CW T D13 c5 c2 c3 c4 ⟨fi, ⟨M_mk, mi.at_, mi.fn, M_kc⟩, fdi, bi, gi⟩ c12 c15
  have c17 := ok_rows D9 c16
  have c18 := ok_sets D10 c16
  have c19 := ok_rings D11 c16
  have c20 := ok_by D12 c16
  have c21 := ok_pairs T D8 c5
  have c22 := ok_lab1 (P := l.prog) (w := w) (base := base) T D15
  have c23 := ok_unl1 (P := l.prog) (w := w) (base := base) T D16
  have c24 := ok_undone T D14 c5 c22 c23
  have c25 := ok_draws (P := l.prog) (w := w) (base := base) T D17
  have c26 := ok_asked D18 c17 c18 c19 c21 c24 c20
  have c27 := ok_refused T XX D19 c26
  exact ok_law T F20 c25 c27 c26 c17
theorem walk {l : PySem.W.OpenLaw} {q : Program} {loose : List Str} {XP : (Str → Option Value) → Heap → Prop} {YP : World → Heap → Prop} {d : DefRec} {K : Params → PySem.W.Frag} (hn : l.most = some 63) (hdf : d.params.defaults = [])
    (hY : ∀ (w : World) (h : Heap), YP w h → (K w.params).In h)
    (F : ∀ (w : World) (mg : Str → Option Value) (fa : Addr) (h : Heap), (K w.params).In h → h.Ns mainGlobals mg → mg d.name = some (.ref fa) →
      ∃ fd : FuncData, (∀ (s : Shared) (u : Value), BindsTo s fd ⟨[u], []⟩ [("script", u)]) ∧ ∀ base : Heap, (K w.params).In base → base.Ns mainGlobals mg → FnOk l.prog w (K w.params) mg base CX0 9 fa fd ["script"] (spLaw (K w.params))) :
    PySem.W.WalkO q loose XP YP l.row.toRowW d [] (fun f vs => PySem.call f vs) :=
  L2.walk_of (n := 63) (k := 9) (x := "script") (CX := fun _ => CX0) (sp := fun w => spLaw (K w.params)) hn (by decide) hdf ⟨rfl, by decide, by decide⟩ hY F (fun _ _ a ns hl _ hS => ⟨a, ns, rfl, hS, hl, fun _ => rfl⟩) fun _ _ _ _ _ z => z
end SM

open PySem PySem.W PyProof.Rows
set_option maxRecDepth 100000 in
set_option maxHeartbeats 0 in
theorem PySem.Challenge.cw_speciesmill_k21_counts_refused_holds : PySem.Challenge.rw_speciesmill_k21_counts_refused.Holds := by
  w_on; o_law; k_head; (case hw => w_witness2)
  k_fill
  refine SM.walk (l := PySem.Challenge.rw_speciesmill_k21_counts_refused) rfl rfl (fun w h Y => PySem.W.kIn_of Y) ?F
  case F =>
    intro w mg fa h KX G hmg
    refine' SM.all_mk KX G hmg ?a0 ?l0 ?c0 ?k0 ?a1 ?l1 ?c1 ?k1 ?a2 ?l2 ?c2 ?k2 ?a3 ?l3 ?c3 ?k3 ?a4 ?l4 ?c4 ?k4 ?a5 ?l5 ?c5 ?k5 ?a6 ?l6 ?c6 ?k6 ?a7 ?l7 ?c7 ?k7 ?a8 ?l8 ?c8 ?k8 ?a9 ?l9 ?c9 ?k9 ?a10 ?l10 ?c10 ?k10 ?a11 ?l11 ?c11 ?k11 ?a12 ?l12 ?c12 ?k12 ?a13 ?l13 ?c13 ?k13 ?a14 ?l14 ?c14 ?k14 ?a15 ?l15 ?c15 ?k15 ?a16 ?l16 ?c16 ?k16 ?a17 ?l17 ?c17 ?k17 ?a18 ?l18 ?c18 ?k18 ?a19 ?l19 ?c19 ?k19 ?a20 ?l20 ?c20 ?k20 ?a100 ?i100 ?l100 ?c100 ?k100 ?a101 ?i101 ?l101 ?c101 ?k101 ?a102 ?i102 ?l102 ?c102 ?k102 ?a103 ?i103 ?l103 ?c103 ?k103 ?a104 ?i104 ?l104 ?c104 ?k104 ?a105 ?i105 ?l105 ?c105 ?k105 ?a106 ?i106 ?l106 ?c106 ?k106 ?n_isinstance ?n_int ?n_bool ?n_list ?n_len ?n_abs ?n_any ?n_sum ?n_range ?n_max ?n_min ?n_ValueError ?m_comb ?m_factorial ?m_gcd ?g_LABELLED ?g_UNLABELLED ?g_RIGID ?g_MOST_ITEMS ?aMWn ?aMWl ?aMWv ?g_Members ?g_BadCounts ?g_SpeciesError ?g_BadSpec ?M_pg ?M_hd ?M_po ?M_sa ?M_mk ?M_kc ?M_word ?M_most ?M_counts ?M_mode ?M_table ?B_x ?B_k ?B_b ?B_t ?B_ga ?B_gt ?B_hd ?B_ca ?B_cn ?B_ct ?B_cm ?S_b ?S_hd ?S_t ?S_s ?J_2 ?J_3 ?J_b ?J_i ?J_t
    (case g_Members => k_is); (case g_BadCounts => k_is); (case g_SpeciesError => k_is); (case g_BadSpec => k_is); (case aMWn => k_is); (case a0 => k_is); (case l0 => k_is); (case c0 => k_is)
    (case k0 => k_is); (case a1 => k_is); (case l1 => k_is); (case c1 => k_is); (case k1 => k_is); (case a2 => k_is); (case l2 => k_is); (case c2 => k_is)
    (case k2 => k_is); (case a3 => k_is); (case l3 => k_is); (case c3 => k_is); (case k3 => k_is); (case a4 => k_is); (case l4 => k_is); (case c4 => k_is)
    (case k4 => k_is); (case a5 => k_is); (case l5 => k_is); (case c5 => k_is); (case k5 => k_is); (case a6 => k_is); (case l6 => k_is); (case c6 => k_is)
    (case k6 => k_is); (case a7 => k_is); (case l7 => k_is); (case c7 => k_is); (case k7 => k_is); (case a8 => k_is); (case l8 => k_is); (case c8 => k_is)
    (case k8 => k_is); (case a9 => k_is); (case l9 => k_is); (case c9 => k_is); (case k9 => k_is); (case a10 => k_is); (case l10 => k_is); (case c10 => k_is)
    (case k10 => k_is); (case a11 => k_is); (case l11 => k_is); (case c11 => k_is); (case k11 => k_is); (case a12 => k_is); (case l12 => k_is); (case c12 => k_is)
    (case k12 => k_is); (case a13 => k_is); (case l13 => k_is); (case c13 => k_is); (case k13 => k_is); (case a14 => k_is); (case l14 => k_is); (case c14 => k_is)
    (case k14 => k_is); (case a15 => k_is); (case l15 => k_is); (case c15 => k_is); (case k15 => k_is); (case a16 => k_is); (case l16 => k_is); (case c16 => k_is)
    (case k16 => k_is); (case a17 => k_is); (case l17 => k_is); (case c17 => k_is); (case k17 => k_is); (case a18 => k_is); (case l18 => k_is); (case c18 => k_is)
    (case k18 => k_is); (case a19 => k_is); (case l19 => k_is); (case c19 => k_is); (case k19 => k_is); (case a20 => k_is); (case l20 => k_is); (case c20 => k_is)
    (case k20 => k_is); (case a100 => k_is); (case i100 => k_is); (case l100 => k_is); (case c100 => k_is); (case k100 => k_is); (case a101 => k_is); (case i101 => k_is)
    (case l101 => k_is); (case c101 => k_is); (case k101 => k_is); (case a102 => k_is); (case i102 => k_is); (case l102 => k_is); (case c102 => k_is); (case k102 => k_is)
    (case a103 => k_is); (case i103 => k_is); (case l103 => k_is); (case c103 => k_is); (case k103 => k_is); (case a104 => k_is); (case i104 => k_is); (case l104 => k_is)
    (case c104 => k_is); (case k104 => k_is); (case a105 => k_is); (case i105 => k_is); (case l105 => k_is); (case c105 => k_is); (case k105 => k_is); (case a106 => k_is)
    (case i106 => k_is); (case l106 => k_is); (case c106 => k_is); (case k106 => k_is); (case n_isinstance => k_is); (case n_int => k_is); (case n_bool => k_is); (case n_list => k_is)
    (case n_len => k_is); (case n_abs => k_is); (case n_any => k_is); (case n_sum => k_is); (case n_range => k_is); (case n_max => k_is); (case n_min => k_is); (case n_ValueError => k_is)
    (case m_comb => k_is); (case m_factorial => k_is); (case m_gcd => k_is); (case g_LABELLED => k_is); (case g_UNLABELLED => k_is); (case g_RIGID => k_is); (case g_MOST_ITEMS => k_is); (case aMWl => k_is)
    (case aMWv => exact .cons ⟨_, rfl⟩ (.cons ⟨_, rfl⟩ (.cons ⟨_, rfl⟩ .nil))); (case M_pg => k_is); (case M_hd => k_is); (case M_po => k_is); (case M_sa => k_is); (case M_mk => k_is); (case M_kc => k_is); (case M_word => k_is)
    (case M_most => k_is); (case M_counts => k_is); (case M_mode => k_is); (case M_table => k_is); (case B_x => k_exc); (case B_k => k_is); (case B_b => k_is); (case B_t => k_is)
    (case B_ga => k_is); (case B_gt => k_is); (case B_hd => k_is); (case B_ca => k_is); (case B_cn => k_is); (case B_ct => k_is); (case B_cm => k_is); (case S_b => k_is)
    (case S_hd => k_is); (case S_t => k_is); (case S_s => first | k_is | rfl); (case J_2 => k_is); (case J_3 => k_is); (case J_b => first | k_is | rfl); (case J_i => k_is); (case J_t => k_is)
#print axioms PySem.Challenge.cw_speciesmill_k21_counts_refused_holds

