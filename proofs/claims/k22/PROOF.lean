import PyProof.Rows.All
import Wide.All
import OpenK.AllK
import Wide.FinOn
import HandS.ForExc
import HandS.Comp
import HandS.Iter
import HandS.Gcd
import HandS.IsInst
import HandS.ExcIs
import HandS.Flow
import HandS.Wide
import KE.KMathGC
import PySem.Challenge.RW_speciesmill_k22_members_and_undone_sets
set_option Elab.async false
set_option linter.all false
set_option maxRecDepth 100000
set_option maxHeartbeats 4000000
namespace SM
open PySem L2
def topS (i : Nat) : Stmt := PySem.Challenge.pw_speciesmill_k22_members_and_undone_sets.main.body.getD i (.Pass ⟨0, 0, 0, 0⟩)
abbrev s__wall : Stmt := topS 1
theorem sc__wall : FnScope ["k"] ["k"] (defScope s__wall) := ⟨rfl, rfl, rfl, by decide +kernel, rfl, by decide +kernel, by decide +kernel⟩
abbrev s_is_whole : Stmt := topS 6
theorem sc_is_whole : FnScope ["value"] ["value"] (defScope s_is_whole) := ⟨rfl, rfl, rfl, by decide +kernel, rfl, by decide +kernel, by decide +kernel⟩
abbrev s_are_bounds : Stmt := topS 7
theorem sc_are_bounds : FnScope ["word", "least", "most", "lowest"] ["word", "least", "most"] (defScope s_are_bounds) := ⟨rfl, rfl, rfl, by decide +kernel, rfl, by decide +kernel, by decide +kernel⟩
abbrev s_more_than_one : Stmt := topS 8
theorem sc_more_than_one : FnScope ["most"] ["most"] (defScope s_more_than_one) := ⟨rfl, rfl, rfl, by decide +kernel, rfl, by decide +kernel, by decide +kernel⟩
abbrev s_divisors : Stmt := topS 9
theorem sc_divisors : FnScope ["number", "part"] ["number"] (defScope s_divisors) := ⟨rfl, rfl, rfl, by decide +kernel, rfl, by decide +kernel, by decide +kernel⟩
abbrev s_totient : Stmt := topS 10
theorem sc_totient : FnScope ["number", "part"] ["number"] (defScope s_totient) := ⟨rfl, rfl, rfl, by decide +kernel, rfl, by decide +kernel, by decide +kernel⟩
abbrev s_moebius : Stmt := topS 11
theorem sc_moebius : FnScope ["number", "sign", "rest", "prime"] ["number"] (defScope s_moebius) := ⟨rfl, rfl, rfl, by decide +kernel, rfl, by decide +kernel, by decide +kernel⟩
abbrev s_mode_of : Stmt := topS 17
theorem sc_mode_of : FnScope ["labelled"] ["labelled"] (defScope s_mode_of) := ⟨rfl, rfl, rfl, by decide +kernel, rfl, by decide +kernel, by decide +kernel⟩
abbrev s_ways_to_share : Stmt := topS 18
theorem sc_ways_to_share : FnScope ["first", "size", "mode"] ["first", "size", "mode"] (defScope s_ways_to_share) := ⟨rfl, rfl, rfl, by decide +kernel, rfl, by decide +kernel, by decide +kernel⟩
abbrev s_Members_init : Stmt := inClass (topS 19) 0
theorem sc_Members_init : FnScope ["self", "word", "most", "counts", "mode"] ["self", "word", "most", "counts", "mode"] (defScope s_Members_init) := ⟨rfl, rfl, rfl, by decide +kernel, rfl, by decide +kernel, by decide +kernel⟩
abbrev s_Members_grow : Stmt := inClass (topS 19) 1
theorem sc_Members_grow : FnScope ["self", "size", "limit", "shared", "members"] ["self"] (defScope s_Members_grow) := ⟨rfl, rfl, rfl, by decide +kernel, rfl, by decide +kernel, by decide +kernel⟩
abbrev s_Members_shared_counts : Stmt := inClass (topS 19) 2
theorem sc_Members_shared_counts : FnScope ["self", "size", "at"] ["self", "size"] (defScope s_Members_shared_counts) := ⟨rfl, rfl, rfl, by decide +kernel, rfl, by decide +kernel, by decide +kernel⟩
abbrev s_Members_next_rows : Stmt := inClass (topS 19) 3
theorem sc_Members_next_rows : FnScope ["self", "shared", "members", "size", "others", "at"] ["self", "shared", "members", "size"] (defScope s_Members_next_rows) := ⟨rfl, rfl, rfl, by decide +kernel, rfl, by decide +kernel, by decide +kernel⟩
abbrev s_Members_next_sets : Stmt := inClass (topS 19) 4
theorem sc_Members_next_sets : FnScope ["self", "members", "size", "total", "equal", "others", "last", "ways", "at"] ["self", "members", "size"] (defScope s_Members_next_sets) := ⟨rfl, rfl, rfl, by decide +kernel, rfl, by decide +kernel, by decide +kernel⟩
abbrev s_Members_rests : Stmt := inClass (topS 19) 5
theorem sc_Members_rests : FnScope ["self", "placed", "least", "size"] ["self", "placed", "least", "size"] (defScope s_Members_rests) := ⟨rfl, rfl, rfl, by decide +kernel, rfl, by decide +kernel, by decide +kernel⟩
abbrev s_Members_exactly : Stmt := inClass (topS 19) 6
theorem sc_Members_exactly : FnScope ["self", "members", "size"] ["self", "members", "size"] (defScope s_Members_exactly) := ⟨rfl, rfl, rfl, by decide +kernel, rfl, by decide +kernel, by decide +kernel⟩
abbrev s_Members_rings : Stmt := inClass (topS 19) 7
theorem sc_Members_rings : FnScope ["self", "members", "size", "total", "times", "factor"] ["self", "members", "size"] (defScope s_Members_rings) := ⟨rfl, rfl, rfl, by decide +kernel, rfl, by decide +kernel, by decide +kernel⟩
abbrev s_Members_within : Stmt := inClass (topS 19) 8
theorem sc_Members_within : FnScope ["self", "least", "most", "size", "greatest", "last", "members"] ["self", "least", "most", "size"] (defScope s_Members_within) := ⟨rfl, rfl, rfl, by decide +kernel, rfl, by decide +kernel, by decide +kernel⟩
abbrev s_check_counts : Stmt := topS 22
theorem sc_check_counts : FnScope ["counts", "item"] ["counts"] (defScope s_check_counts) := ⟨rfl, rfl, rfl, by decide +kernel, rfl, by decide +kernel, by decide +kernel⟩
abbrev s_rows : Stmt := topS 23
theorem sc_rows : FnScope ["counts", "least", "most", "labelled"] ["counts", "least", "most", "labelled"] (defScope s_rows) := ⟨rfl, rfl, rfl, by decide +kernel, rfl, by decide +kernel, by decide +kernel⟩
abbrev s_sets : Stmt := topS 24
theorem sc_sets : FnScope ["counts", "least", "most", "labelled"] ["counts", "least", "most", "labelled"] (defScope s_sets) := ⟨rfl, rfl, rfl, by decide +kernel, rfl, by decide +kernel, by decide +kernel⟩
abbrev s_rings : Stmt := topS 25
theorem sc_rings : FnScope ["counts", "least", "most", "labelled"] ["counts", "least", "most", "labelled"] (defScope s_rings) := ⟨rfl, rfl, rfl, by decide +kernel, rfl, by decide +kernel, by decide +kernel⟩
abbrev s_by_members : Stmt := topS 26
theorem sc_by_members : FnScope ["counts", "word", "members", "labelled"] ["counts", "word", "members", "labelled"] (defScope s_by_members) := ⟨rfl, rfl, rfl, by decide +kernel, rfl, by decide +kernel, by decide +kernel⟩
abbrev s__counts_within : Stmt := topS 27
theorem sc__counts_within : FnScope ["word", "counts", "least", "most", "labelled", "told", "made", "size"] ["word", "counts", "least", "most", "labelled"] (defScope s__counts_within) := ⟨rfl, rfl, rfl, by decide +kernel, rfl, by decide +kernel, by decide +kernel⟩
abbrev s_sets_undone : Stmt := topS 28
theorem sc_sets_undone : FnScope ["counts", "labelled"] ["counts", "labelled"] (defScope s_sets_undone) := ⟨rfl, rfl, rfl, by decide +kernel, rfl, by decide +kernel, by decide +kernel⟩
abbrev s__labelled_undone : Stmt := topS 29
theorem sc__labelled_undone : FnScope ["counts", "members", "size", "beside", "at"] ["counts"] (defScope s__labelled_undone) := ⟨rfl, rfl, rfl, by decide +kernel, rfl, by decide +kernel, by decide +kernel⟩
abbrev s__unlabelled_undone : Stmt := topS 30
theorem sc__unlabelled_undone : FnScope ["counts", "members", "weights", "size", "weight", "smaller", "at"] ["counts"] (defScope s__unlabelled_undone) := ⟨rfl, rfl, rfl, by decide +kernel, rfl, by decide +kernel, by decide +kernel⟩
abbrev s__law_draws : Stmt := topS 32
theorem sc__law_draws : FnScope ["script", "many", "draws", "seed", "cell", "number", "k"] ["script", "many"] (defScope s__law_draws) := ⟨rfl, rfl, rfl, by decide +kernel, rfl, by decide +kernel, by decide +kernel⟩
abbrev s__law_binomial : Stmt := topS 33
theorem sc__law_binomial : FnScope ["n", "k", "total", "j"] ["n", "k"] (defScope s__law_binomial) := ⟨rfl, rfl, rfl, by decide +kernel, rfl, by decide +kernel, by decide +kernel⟩
abbrev s__law_sets : Stmt := topS 34
theorem sc__law_sets : FnScope ["counts", "labelled", "found", "n", "total", "k", "d"] ["counts", "labelled"] (defScope s__law_sets) := ⟨rfl, rfl, rfl, by decide +kernel, rfl, by decide +kernel, by decide +kernel⟩
abbrev s_law : Stmt := topS 35
theorem sc_law : FnScope ["script", "draws", "labelled", "size", "counts", "least", "most", "word", "low", "top", "due", "m", "more", "bound", "found", "whole", "given", "back", "j", "one", "n"] ["script"] (defScope s_law) := ⟨rfl, rfl, rfl, by decide +kernel, rfl, by decide +kernel, by decide +kernel⟩
end SM

namespace SM
open PySem L2
/-! ### calls: what stands at a name and what it promises -/
structure Cal (P : Program) (w : World) (K : PySem.W.Frag) (mg : Str → Option Value) (base : Heap) (CX : CXT) (k : Nat) (x : Str) (ps : List Str) (sp : Sp) : Prop where
  ex : ∃ (f : Addr) (fd : FuncData), mg x = some (.ref f) ∧ PySem.W.keepIn K (.ref f) = true ∧ Binds K fd ps [] ∧ FnOk P w K mg base CX k f fd ps sp
def Df (K : PySem.W.Frag) (mg : Str → Option Value) (x : Str) (st : Stmt) (ps : List Str) : Prop :=
  ∃ (f : Addr) (fd : FuncData), mg x = some (.ref f) ∧ Fun K x x st f fd ∧ Binds K fd ps []
/-- a method of the class at C -/
structure CalM (P : Program) (w : World) (K : PySem.W.Frag) (mg : Str → Option Value) (base : Heap) (CX : CXT) (k : Nat) (C : Addr) (m : Str) (ps : List Str) (sp : Sp) : Prop where
  ex : ∃ (f : Addr) (fd : FuncData), Meth K C m f ∧ Binds K fd ps [] ∧ FnOk P w K mg base CX k f fd ps sp
def DfM (K : PySem.W.Frag) (C : Addr) (m qual : Str) (st : Stmt) (ps : List Str) : Prop :=
  ∃ (f : Addr) (fd : FuncData), Meth K C m f ∧ Fun K m qual st f fd ∧ Binds K fd ps []
/-- an own error class without more -/
structure Exc (K : PySem.W.Frag) (mg : Str → Option Value) (x : Str) (C : Addr) : Prop where
  g : mg x = some (.ref C)
  x : PySem.W.excIn K C [.type "ValueError", .type "Exception", .type "BaseException", .type "object"] "ValueError.__new__" = true
  k : PySem.W.keepIn K (.ref C) = true
  b : PySem.W.subIn K (.ref C) (.type "BaseException") = some true
  t : PySem.W.typeIn K (.ref C) = some (.type "type")
/-! ### more calls of built-in functions -/
section
variable {X : Cx}
def rComb : List V → Hp → VK → Prop := fun vs H Q => ∃ a b : Int, vs = [.int a, .int b] ∧ 0 ≤ a ∧ 0 ≤ b ∧ a < 18000 ∧ (PySem.W.McComb a b (PySem.W.mcComb a b) → Q (.int (PySem.W.mcComb a b)) H)
theorem cr_comb : CallR X (.builtin "math.comb") rComb := by
  intro pins s σ H vs us Q I r h
  obtain ⟨a, b, rfl, h1, h2, h3, q⟩ := h
  obtain ⟨t, u, rfl⟩ := Vals.int2 r
  exact PySem.W.mc_comb h1 h2 (by omega) (.inr (by omega)) fun z => ⟨.int _, H, I.tok _, ⟨_, rfl⟩, q z⟩
def rFact : List V → Hp → VK → Prop := fun vs H Q => ∃ a : Int, vs = [.int a] ∧ 0 ≤ a ∧ a ≤ 20000 ∧ Q (.int ((Builtin.Math.factorialNat a.toNat : Nat) : Int)) H
theorem cr_factorial : CallR X (.builtin "math.factorial") rFact := by
  intro pins s σ H vs us Q I r h
  obtain ⟨a, rfl, h1, h2, q⟩ := h
  obtain ⟨u, rfl, t, rfl⟩ := vals1 r
  exact PySem.W.mc_factorial h1 h2 fun z => ⟨.int _, H, I.tok _, ⟨_, rfl⟩, q⟩
end
theorem ix_listB {X : Cx} {K : PySem.W.Frag} (h : X.K = K) : IxR X (rIxL K) := by
  subst h
  exact ix_list
theorem call_lenB {X : Cx} {K : PySem.W.Frag} (h : X.K = K) : CallR X (.builtin "len") (fun xs H Q => ∃ p ys, xs = [.ref p] ∧ (SqL K H p ys ∨ SqT K H p ys) ∧ Q (.int ys.length) H) := by
  subst h
  exact call_len_seq
theorem cr_sumB {X : Cx} {K : PySem.W.Frag} (h : X.K = K) (hc : X.calm = true) : CallR X (.builtin "sum") (rSum K) := by
  subst h
  exact cr_sum hc
theorem pe_fldB {X : Cx} {K : PySem.W.Frag} {e : Expr} {ta : TE} {f : Str} {pos : Pos} (h : X.K = K) (he : PE X e ta) (hb : attributeBase e f X.env (eval e X.env) = eval e X.env) : PE X (.Attribute e f pos) (tFld K ta f) := by
  subst h
  exact pe_fld he hb
/-- an expression that is never reached -/
theorem pe_never {X : Cx} {e : Expr} : PE X e (fun _ _ _ => False) := ⟨fun _ _ _ _ _ _ h => h.elim⟩
/-! ### heaps -/
theorem same_upd {H : Hp} {p : Addr} {o : HO} (h : H p = none) : Same H (upd H p o) := fun b x e => by
  rw [upd_ne (ne_of_none e h)]
  exact e
theorem same_upd' {H H' : Hp} {p : Addr} {o : HO} (e : Same H H') (h : H p = none) : Same H (upd H' p o) := fun b x q => by
  rw [upd_ne (ne_of_none q h)]
  exact e b x q
theorem sq_of {K : PySem.W.Frag} {H : Hp} {a : Addr} {xs : List V} (h : H a = some (.lst xs)) : SqL K H a xs := .inl (.inl h)
theorem st_of {K : PySem.W.Frag} {H : Hp} {a : Addr} {xs : List V} (h : H a = some (.tup xs)) : SqT K H a xs := .inl (.inl h)
theorem same_t {K : PySem.W.Frag} {H H' : Hp} {a : Addr} {xs : List V} (e : Same H H') (h : SqT K H a xs) : SqT K H' a xs := by
  rcases h with (h | ⟨o, h⟩) | h
  · exact .inl (.inl (e _ _ h))
  · exact .inl (.inr ⟨o, e _ _ h⟩)
  · exact .inr h
theorem sz (n : Nat) (h : n ≤ 100000) : n ≤ sizeLine := Nat.le_trans h (by decide)
theorem szl (n : Nat) (h : n < 100000) : n < sizeLine := Nat.lt_of_lt_of_le h (by decide)
/-! ### None or an int -/
def oV : Option Int → V
  | none => .non
  | some i => .int i
theorem ints_of {ns : List Int} {i : Nat} {y : V} (h : (ns.map V.int)[i]? = some y) : ∃ z, ns[i]? = some z ∧ y = V.int z := by
  rw [List.getElem?_map] at h
  cases e : ns[i]? with
  | none => rw [e] at h; cases h
  | some z => rw [e] at h; exact ⟨z, rfl, (Option.some.inj h).symm⟩
theorem ints_at {ns : List Int} {i : Nat} (h : i < ns.length) : (ns.map V.int)[i]? = some (.int ns[i]) := by
  rw [List.getElem?_map, List.getElem?_eq_getElem h]; rfl
theorem take_more {α : Type} {l : List α} {i : Nat} {x : α} (h : l[i]? = some x) : l.take (i + 1) = l.take i ++ [x] := by
  rw [List.take_add_one, h]; rfl
end SM

namespace SM
open PySem L2
structure Ad where
  cMembers : Addr
  aMW : Addr
  vLAB : Value
  vUNL : Value
  vRIG : Value
  vMOST : Value
structure Tx (K : PySem.W.Frag) (mg : Str → Option Value) (W : Ad) : Prop where
  n_isinstance : mg "isinstance" = none
  n_int : mg "int" = none
  n_bool : mg "bool" = none
  n_list : mg "list" = none
  n_len : mg "len" = none
  n_abs : mg "abs" = none
  n_any : mg "any" = none
  n_sum : mg "sum" = none
  n_range : mg "range" = none
  n_max : mg "max" = none
  n_min : mg "min" = none
  n_ValueError : mg "ValueError" = none
  m_comb : mg "comb" = some (.builtin "math.comb")
  m_factorial : mg "factorial" = some (.builtin "math.factorial")
  m_gcd : mg "gcd" = some (.builtin "math.gcd")
  g_LABELLED : mg "LABELLED" = some W.vLAB
  r_LABELLED : RelV (.str "labelled") W.vLAB
  g_UNLABELLED : mg "UNLABELLED" = some W.vUNL
  r_UNLABELLED : RelV (.str "unlabelled") W.vUNL
  g_RIGID : mg "RIGID" = some W.vRIG
  r_RIGID : RelV (.str "rigid") W.vRIG
  g_MOST_ITEMS : mg "MOST_ITEMS" = some W.vMOST
  r_MOST_ITEMS : RelV (.int 61) W.vMOST
  g_MEMBER_WORDS : mg "MEMBER_WORDS" = some (.ref W.aMW)
  r_MEMBER_WORDS : RelV (.ref W.aMW) (.ref W.aMW)
  s_MW : ∀ H, SqT K H W.aMW [.str "row", .str "set", .str "ring"]
  g_Members : mg "Members" = some (.ref W.cMembers)
  cl_Members : Cls K W.cMembers
  f_word : NoAttr K W.cMembers "word"
  f_most : NoAttr K W.cMembers "most"
  f_counts : NoAttr K W.cMembers "counts"
  f_mode : NoAttr K W.cMembers "mode"
  f_table : NoAttr K W.cMembers "table"
section
variable {P : Program} {w : World} {K : PySem.W.Frag} {mg : Str → Option Value} {base : Heap} {W : Ad}
/-! ### is_whole -/
def spWhole : Sp := fun vs H Q _ => ∃ x, vs = [x] ∧ ((∃ i, x = .int i ∧ Q (.bl true) H) ∨ (∃ b, x = .bl b ∧ Q (.bl false) H))
theorem ok_is_whole (T : Tx K mg W) (D : Df K mg "is_whole" s_is_whole ["value"]) : Cal P w K mg base CX0 1 "is_whole" ["value"] spWhole := by
  obtain ⟨f, fd, g, F, b⟩ := D
  refine ⟨f, fd, g, F.kp, b, F.ok sc_is_whole (fun vs H Q E h => ?_) (fun cdv A outer s H vs Q E hr h => ?_)⟩
  · obtain ⟨x, rfl, _⟩ := h
    rfl
  · obtain ⟨x, rfl, h⟩ := h
    refine ⟨_, (pss_one (ps_ret (pe_and (pe_callB call_isi (by rfl) T.n_isinstance (by decide +kernel) (pa_cons (pv 0) (pa_cons (pe_bltn (v := .ty "int") (by rfl) T.n_int (by decide +kernel) rfl) pa_nil))) (pe_one (pe_not (pe_callB call_isi (by rfl) T.n_isinstance (by decide +kernel) (pa_cons (pv 0) (pa_cons (pe_bltn (v := .ty "bool") (by rfl) T.n_bool (by decide +kernel) rfl) pa_nil)))))))), ?_⟩
    rcases h with ⟨i, rfl, q⟩ | ⟨c, rfl, q⟩
    · refine ⟨_, rfl, _, _, _, _, true, rfl, .ty "int", .base (.int i), kit_ty (by decide +kernel), _, rfl, iteT ?_⟩
      refine ⟨_, rfl, _, _, _, _, false, rfl, .ty "bool", .base (.int i), kit_ty (by decide +kernel), _, rfl, ?_⟩
      exact q
    · refine ⟨_, rfl, _, _, _, _, true, rfl, .ty "int", .base (.bl c), kit_ty (by decide +kernel), _, rfl, iteT ?_⟩
      refine ⟨_, rfl, _, _, _, _, true, rfl, .ty "bool", .base (.bl c), kit_ty (by decide +kernel), _, rfl, ?_⟩
      exact q
/-! ### are_bounds -/
def lowB (w : Str) : Int := if w = "ring" then 1 else 0
def upB (l : Int) : Option Int → Bool
  | none => true
  | some m => decide (l ≤ m)
def areB (w : Str) (l : Int) (m : Option Int) : Bool := decide (lowB w ≤ l) && upB l m
theorem areB_low {w : Str} {l : Int} {m : Option Int} (h : l < lowB w) : areB w l m = false := by
  unfold areB
  rw [decide_eq_false (by omega), Bool.false_and]
theorem areB_up {w : Str} {l : Int} {m : Option Int} (h : ¬ l < lowB w) : areB w l m = upB l m := by
  unfold areB
  rw [decide_eq_true (by omega), Bool.true_and]
def spBounds : Sp := fun vs H Q _ => ∃ (w : Str) (l : Int) (m : Option Int), vs = [.str w, .int l, oV m] ∧ Q (.bl (areB w l m)) H
theorem ok_are_bounds (T : Tx K mg W) (D : Df K mg "are_bounds" s_are_bounds ["word", "least", "most"]) (C1 : Cal P w K mg base CX0 1 "is_whole" ["value"] spWhole) :
    Cal P w K mg base CX0 2 "are_bounds" ["word", "least", "most"] spBounds := by
  obtain ⟨f, fd, g, F, b⟩ := D
  obtain ⟨f1, fd1, g_is_whole, k_is_whole, b_is_whole, G_is_whole⟩ := C1.ex
  refine ⟨f, fd, g, F.kp, b, F.ok sc_are_bounds (fun vs H Q E h => ?_) (fun cdv A outer s H vs Q E hr h => ?_)⟩
  · obtain ⟨w, l, m, rfl, _⟩ := h
    rfl
  · obtain ⟨wd, l, m, rfl, q⟩ := h
    refine ⟨_, (pss_cons (ps_set (i := 3) sc_are_bounds.nd rfl (.inl rfl) (pe_ifExp (pt_cmpR op_eq (pv 0) pe_str (nomark _)) pe_int pe_int))
  (pss_cons (ps_if (PW.pt (pw_or (pt_not (pt_val (pe_call G_is_whole (hr.mono (by decide)) (by rfl) g_is_whole k_is_whole b_is_whole .nil pass0 (pa_cons (pv 1) pa_nil)))) (pw_or1 (pt_cmpR op_lt (pv 1) (pv 3) (nomark _))))) (
    (pss_one (ps_ret pe_bl))) (pss_nil))
  (pss_one (ps_ret (pe_or (pe_cmp (pc_isN (pv 2)) rfl) (pe_one (pe_and (pe_call G_is_whole (hr.mono (by decide)) (by rfl) g_is_whole k_is_whole b_is_whole .nil pass0 (pa_cons (pv 2) pa_nil)) (pe_one (pe_cmpR op_ge (pv 2) (pv 1) (nomark _)))))))))), ?_⟩
    refine ⟨_, rfl, rfl, _, rfl, ?_⟩
    have step : ∀ lo : Int, lo = lowB wd → ∀ σ : St, σ = [some (.str wd), some (.int l), some (oV m), some (.int lo)] → 
      (tIfS (tOr (tNot (tB (tCall spWhole [] E0 (tCons (tVar 1) tNil)))) (tTest (tOp (rI0 fun i j => .bl (decide (i < j))) (tVar 1) (tVar 3)))) (tRet (tC (.bl false))) tNext)
        { nx := (tRet (tOrV (tIsN (tVar 2)) (tAndV (tCall spWhole [] E0 (tCons (tVar 2) tNil)) (tOp (rI0 fun i j => .bl (decide (j ≤ i))) (tVar 2) (tVar 1))))) { nx := fun _ H' => Q .non H', rt := Q }, rt := Q } σ H := by
      intro lo e σ es
      subst es e
      refine ⟨_, rfl, _, rfl, .inl ⟨l, rfl, _, rfl, iteF ?_⟩⟩
      refine ⟨_, rfl, _, rfl, _, _, rfl, rfl, _, rfl, ite2 (fun c => ?_) (fun c => ?_)⟩
      · have c' := of_decide_eq_true c
        have e := areB_low (m := m) c'
        rw [e] at q
        exact q
      · have c' : ¬ l < lowB wd := fun z => c (decide_eq_true z)
        have e1 := areB_up (m := m) c'
        rw [e1] at q
        cases m with
        | none => exact ⟨_, rfl, _, rfl, iteT q⟩
        | some m =>
          refine ⟨_, rfl, false, rfl, iteF ?_⟩
          exact ⟨_, rfl, _, rfl, .inl ⟨m, rfl, true, rfl, iteT ⟨_, rfl, _, rfl, _, _, rfl, rfl, q⟩⟩⟩
    refine ite2 (fun c => ?_) (fun c => ?_)
    · have c' : V.str wd = V.str "ring" := of_decide_eq_true c
      exact step 1 (by unfold lowB; rw [if_pos (V.str.inj c')]) _ rfl
    · have c' : ¬ wd = "ring" := fun z => c (decide_eq_true (by rw [z]))
      exact step 0 (by unfold lowB; rw [if_neg c']) _ rfl
/-! ### more_than_one, mode_of -/
def moreB : Option Int → Bool
  | none => true
  | some m => decide (1 < m)
def spMore : Sp := fun vs H Q _ => ∃ (m : Option Int), vs = [oV m] ∧ Q (.bl (moreB m)) H
theorem ok_more (T : Tx K mg W) (D : Df K mg "more_than_one" s_more_than_one ["most"]) : Cal P w K mg base CX0 1 "more_than_one" ["most"] spMore := by
  obtain ⟨f, fd, g, F, b⟩ := D
  refine ⟨f, fd, g, F.kp, b, F.ok sc_more_than_one (fun vs H Q E h => ?_) (fun cdv A outer s H vs Q E hr h => ?_)⟩
  · obtain ⟨m, rfl, _⟩ := h
    rfl
  · obtain ⟨m, rfl, q⟩ := h
    refine ⟨_, (pss_one (ps_ret (pe_or (pe_cmp (pc_isN (pv 0)) rfl) (pe_one (pe_cmpR op_gt (pv 0) pe_int (nomark _)))))), ?_⟩
    cases m with
    | none => exact ⟨_, rfl, true, rfl, iteT q⟩
    | some m => exact ⟨_, rfl, false, rfl, iteF ⟨_, rfl, _, _, rfl, rfl, q⟩⟩
def modeS (b : Bool) : Str := if b then "labelled" else "unlabelled"
def spMode : Sp := fun vs H Q _ => ∃ (b : Bool), vs = [.bl b] ∧ Q (.str (modeS b)) H
theorem ok_mode (T : Tx K mg W) (D : Df K mg "mode_of" s_mode_of ["labelled"]) : Cal P w K mg base CX0 1 "mode_of" ["labelled"] spMode := by
  obtain ⟨f, fd, g, F, b⟩ := D
  refine ⟨f, fd, g, F.kp, b, F.ok sc_mode_of (fun vs H Q E h => ?_) (fun cdv A outer s H vs Q E hr h => ?_)⟩
  · obtain ⟨m, rfl, _⟩ := h
    rfl
  · obtain ⟨m, rfl, q⟩ := h
    refine ⟨_, (pss_one (ps_ret (pe_ifExp (pt_val (pv 0)) (pe_glob (by rfl) T.g_LABELLED T.r_LABELLED) (pe_glob (by rfl) T.g_UNLABELLED T.r_UNLABELLED)))), ?_⟩
    cases m with
    | true => exact ⟨_, rfl, true, rfl, iteT q⟩
    | false => exact ⟨_, rfl, false, rfl, iteF q⟩
end
end SM

namespace SM
open PySem L2
section
variable {P : Program} {w : World} {K : PySem.W.Frag} {mg : Str → Option Value} {base : Heap} {W : Ad}
/-! ### check_counts -/
def spCheck : Sp := fun vs H Q E => ∃ (a : Addr) (cs : List Int), vs = [.ref a] ∧ H a = some (.lst (cs.map V.int)) ∧ (∀ x ∈ cs, 0 ≤ x) ∧ 1 ≤ cs.length ∧ cs.length ≤ 61 ∧ ∀ H', Same H H' → Q .non H'
theorem ok_check (T : Tx K mg W) (D : Df K mg "check_counts" s_check_counts ["counts"]) (C1 : Cal P w K mg base CX0 1 "is_whole" ["value"] spWhole) :
    Cal P w K mg base CX0 2 "check_counts" ["counts"] spCheck := by
  obtain ⟨f, fd, g, F, b⟩ := D
  obtain ⟨f1, fd1, g_is_whole, k_is_whole, b_is_whole, G_is_whole⟩ := C1.ex
  refine ⟨f, fd, g, F.kp, b, F.ok sc_check_counts (fun vs H Q E h => ?_) (fun cdv A outer s H vs Q E hr h => ?_)⟩
  · obtain ⟨a, xs, rfl, _⟩ := h
    rfl
  · obtain ⟨a, cs, rfl, hA, hnn, h1, h61, k⟩ := h
    refine ⟨_, (pss_cons (ps_if (PW.pt (pw_or (pt_not (pt_val (pe_callB call_isi (by rfl) T.n_isinstance (by decide +kernel) (pa_cons (pv 0) (pa_cons (pe_bltn (v := .ty "list") (by rfl) T.n_list (by decide +kernel) rfl) pa_nil))))) (pw_or1 (pt_not (pt_chain op_le op_le pe_int (pe_callB call_len_seq (by rfl) T.n_len (by decide +kernel) (pa_cons (pv 0) pa_nil)) (pe_glob (by rfl) T.g_MOST_ITEMS T.r_MOST_ITEMS)))))) (
    (pss_one (ps_never))) (pss_nil))
  (pss_one (ps_if (pt_val (pe_callB (cr_any rfl) (by rfl) T.n_any (by decide +kernel) (pa_cons (pe_lc (own := [("item", 1)]) rfl sc_check_counts.nd (pi_list (pv 0)) (blkOk_by (own := [("item", 1)]) (N := ["counts", "item"]) (sc := defScope s_check_counts) (by decide +kernel)) (fun _ _ _ _ _ => (pg_name (i := 1) sc_check_counts.nd rfl (.inl rfl))) (fun _ _ _ _ _ => pts_nil) (fun _ _ _ _ _ => (pe_or (pe_not (pe_call G_is_whole (hr.mono (by decide)) (by rfl) g_is_whole k_is_whole b_is_whole .nil pass0 (pa_cons (pv 1) pa_nil))) (pe_one (pe_cmpR op_lt (pv 1) pe_int (nomark _)))))) pa_nil))) (
    (pss_one (ps_never))) (pss_nil)))), ?_⟩
    refine ⟨_, rfl, _, _, _, _, true, rfl, .ty "list", .base (.lst hA), kit_ty (by decide +kernel), _, rfl, iteF ?_⟩
    refine ⟨_, rfl, a, _, rfl, .inl (sq_of hA), _, _, rfl, rfl, _, rfl, ?_⟩
    have el : (((cs.map V.int).length : Nat) : Int) = cs.length := by rw [List.length_map]
    rw [el]
    refine ite2 (fun c1 => ?_) (fun c1 => absurd (decide_eq_true (show (1 : Int) ≤ cs.length by omega)) c1)
    refine ⟨_, _, rfl, rfl, _, rfl, ite2 (fun c2 => ?_) (fun c2 => ?_)⟩
    · have c2' : ¬ ((cs.length : Int) ≤ 61) := by simpa using c2
      omega
    · refine ⟨_, rfl, a, rfl, ⟨_, sq_of hA⟩, fun Dn hD => lc_list (K := K) (a := a) (xs := cs.map V.int) (fun i H' => Same H H' ∧ H' Dn = some (.lst ((List.replicate i false).map V.bl))) ⟨same_upd hD, upd_same⟩ (fun i H' _ h => sq_of (h.1 _ _ hA)) ?_ ?_⟩
      · rintro i x H' hi ⟨sm, hd⟩
        obtain ⟨z, hz, rfl⟩ := ints_of hi
        have hz0 := hnn z (List.mem_of_getElem? hz)
        have hil := (List.getElem?_eq_some_iff.mp hz).1
        refine ⟨rfl, ?_⟩
        rw [tYes, if_pos rfl]
        refine ⟨_, rfl, _, rfl, .inl ⟨z, rfl, true, rfl, false, rfl, iteF ?_⟩⟩
        refine ⟨_, rfl, _, _, rfl, rfl, _, hd, szl _ (by simp; omega), same_upd' sm hD, ?_⟩
        rw [upd_same, List.replicate_succ', List.map_append]
        show some (HO.lst (_ ++ [V.bl (decide (z < 0))])) = _
        rw [decide_eq_false (by omega)]; rfl
      · rintro H' ⟨sm, hd⟩
        refine ⟨Dn, List.replicate (cs.map V.int).length false, rfl, sq_of hd, _, rfl, ?_⟩
        have e : (List.replicate (cs.map V.int).length false).any id = false := by
          generalize (cs.map V.int).length = n
          induction n with
          | zero => rfl
          | succ j ih => rw [List.replicate_succ, List.any_cons, ih]; rfl
        rw [e]
        exact iteF (k H' sm)
end
end SM

namespace SM
open PySem L2
/-! ### comprehensions over a range: what is made, nothing else changed -/
theorem wipe1 (σ : St) (j : Nat) (v : Option V) : wipe ((wipe σ [j]).set j v) [j] = wipe σ [j] := by
  show ((σ.set j none).set j v).set j none = σ.set j none
  rw [List.set_set, List.set_set]
theorem lc_rangeF {lo : Int} {n : Nat} {j : Nat} {tt : TT} {te : TE} {σ : St} {H1 : Hp} {D : Addr} {Qd : Hp → Prop} (c : Nat → Bool) (f : Nat → V) (hn : n ≤ 100000 - 1) (hD : H1 D = none)
    (ht : ∀ i, i < n → ∀ H, Same H1 H → ∀ R : Bool → Hp → Prop, (∀ H', Same H H' → R (c i) H') → tt ((wipe σ [j]).set j (some (.int (lo + i)))) H R)
    (he : ∀ i, i < n → c i = true → ∀ H, Same H1 H → ∀ R : VK, (∀ H', Same H H' → R (f i) H') → te ((wipe σ [j]).set j (some (.int (lo + i)))) H R)
    (hd : ∀ H, Same H1 H → H D = some (.lst (((List.range n).filter c).map f)) → Qd H) :
    ∃ W : Nat → Nat → Hp → Prop, (∃ m, W 0 m (upd H1 D (.lst []))) ∧ ∀ i m H, W i m H →
      ((Itr lo n).stop i H ∧ Qd H) ∨ ((Itr lo n).go i H ∧ ∃ Nx : Hp → Prop, (∀ H', Nx H' → ∃ m', m' < m ∧ W (i + 1) m' H') ∧ ∀ x H', (Itr lo n).yld i H x H' → gName j x (wipe σ [j]) H' fun σ2 H2 => wipe σ2 [j] = wipe σ [j] ∧ tt σ2 H2 fun b H3 =>
        if b = true then te σ2 H3 fun y H4 => ∃ acc, H4 D = some (.lst acc) ∧ acc.length < sizeLine ∧ Nx (upd H4 D (.lst (acc ++ [y]))) else Nx H3) := by
  refine lc_range (fun i H => Same H1 H ∧ H D = some (.lst (((List.range i).filter c).map f))) ⟨same_upd hD, upd_same⟩ ?_ (fun H h => hd H h.1 h.2)
  rintro i H hi ⟨sm, hd'⟩
  refine ⟨wipe1 σ j _, ?_⟩
  refine ht i hi H sm _ fun H' s' => ?_
  have hd1 := s' _ _ hd'
  have sm1 : Same H1 H' := sm.trans s'
  cases e : c i with
  | false =>
    refine iteF ?_
    refine ⟨sm1, ?_⟩
    rw [List.range_succ, List.filter_append, List.map_append]
    simp [e, hd1]
  | true =>
    refine iteT ?_
    refine he i hi e H' sm1 _ fun H2 s2 => ⟨_, s2 _ _ hd1, szl _ ?_, same_upd' (sm1.trans s2) hD, ?_⟩
    · rw [List.length_map]
      have := List.length_filter_le c (List.range i)
      rw [List.length_range] at this
      omega
    · rw [upd_same, List.range_succ, List.filter_append, List.map_append]
      simp [e]
theorem lc_rangeM {lo : Int} {n : Nat} {j : Nat} {te : TE} {σ : St} {H1 : Hp} {D : Addr} {Qd : Hp → Prop} (f : Nat → V) (hn : n ≤ 100000 - 1) (hD : H1 D = none)
    (he : ∀ i, i < n → ∀ H, Same H1 H → ∀ R : VK, (∀ H', Same H H' → R (f i) H') → te ((wipe σ [j]).set j (some (.int (lo + i)))) H R)
    (hd : ∀ H, Same H1 H → H D = some (.lst ((List.range n).map f)) → Qd H) :
    ∃ W : Nat → Nat → Hp → Prop, (∃ m, W 0 m (upd H1 D (.lst []))) ∧ ∀ i m H, W i m H →
      ((Itr lo n).stop i H ∧ Qd H) ∨ ((Itr lo n).go i H ∧ ∃ Nx : Hp → Prop, (∀ H', Nx H' → ∃ m', m' < m ∧ W (i + 1) m' H') ∧ ∀ x H', (Itr lo n).yld i H x H' → gName j x (wipe σ [j]) H' fun σ2 H2 => wipe σ2 [j] = wipe σ [j] ∧ tYes σ2 H2 fun b H3 =>
        if b = true then te σ2 H3 fun y H4 => ∃ acc, H4 D = some (.lst acc) ∧ acc.length < sizeLine ∧ Nx (upd H4 D (.lst (acc ++ [y]))) else Nx H3) :=
  lc_rangeF (tt := tYes) (fun _ => true) f hn hD (fun i _ H _ R k => k H (.refl H)) (fun i hi _ => he i hi) (fun H s h => hd H s (by rw [h, List.filter_eq_self.mpr (fun _ _ => rfl)]))
section
variable {P : Program} {w : World} {K : PySem.W.Frag} {mg : Str → Option Value} {base : Heap} {W : Ad}
/-! ### divisors, totient -/
def divs (n : Nat) : List Int := ((List.range n).filter fun i => decide (n % (i + 1) = 0)).map fun i : Nat => ((i : Int) + 1)
def spDivs : Sp := fun vs H Q _ => ∃ n : Nat, vs = [.int n] ∧ n ≤ 10000 ∧ ∀ p H', Same H H' → H p = none → H' p = some (.lst ((divs n).map V.int)) → Q (.ref p) H'
theorem emod_nat (n i : Nat) : decide (V.int ((n : Int) % (1 + (i : Int))) = V.int 0) = decide (n % (i + 1) = 0) := by
  have e : ((n : Int) % (1 + (i : Int))) = ((n % (i + 1) : Nat) : Int) := by
    rw [show (1 + (i : Int)) = ((i + 1 : Nat) : Int) by omega]; rfl
  rw [e]
  by_cases h : n % (i + 1) = 0
  · rw [h]; simp
  · rw [decide_eq_false h]
    refine decide_eq_false fun z => h ?_
    have := V.int.inj z
    omega
theorem ok_divisors (T : Tx K mg W) (D : Df K mg "divisors" s_divisors ["number"]) : Cal P w K mg base CX0 1 "divisors" ["number"] spDivs := by
  obtain ⟨f, fd, g, F, b⟩ := D
  refine ⟨f, fd, g, F.kp, b, F.ok sc_divisors (fun vs H Q E h => ?_) (fun cdv A outer s H vs Q E hr h => ?_)⟩
  · obtain ⟨n, rfl, _⟩ := h
    rfl
  · obtain ⟨n, rfl, hn, q⟩ := h
    refine ⟨_, (pss_one (ps_ret (pe_lc (own := [("part", 1)]) rfl sc_divisors.nd (pi_range2 (by rfl) T.n_range (pa_cons pe_int (pa_cons (pe_op op_add (pv 0) pe_int) pa_nil))) (blkOk_by (own := [("part", 1)]) (N := ["number", "part"]) (sc := defScope s_divisors) (by decide +kernel)) (fun _ _ _ _ _ => (pg_name (i := 1) sc_divisors.nd rfl (.inl rfl))) (fun _ _ _ _ _ => pts_one (pt_cmpR op_eq (pe_op op_mod (pv 0) (pv 1)) pe_int (nomark _))) (fun _ _ _ _ _ => (pv 1))))), ?_⟩
    refine ⟨_, rfl, _, _, rfl, rfl, _, _, rfl, ⟨by omega, by omega, by omega, by omega⟩, fun Dn hD => ?_⟩
    have en : ((n : Int) + 1 - 1).toNat = n := by omega
    rw [en]
    refine lc_rangeF (lo := 1) (j := 1) (fun i => decide (n % (i + 1) = 0)) (fun i => V.int ((i : Int) + 1)) (by omega) hD (fun i hi H1 s1 R k => ?_) (fun i hi _ H1 s1 R k => ?_) (fun H1 s1 h1 => ?_)
    · refine ⟨_, rfl, _, rfl, _, _, rfl, rfl, (by show (0 : Int) < 1 + i; omega), rfl, _, rfl, ?_⟩
      have := k H1 (.refl H1)
      rw [← emod_nat] at this
      exact this
    · refine ⟨_, rfl, ?_⟩
      have := k H1 (.refl H1)
      rw [Int.add_comm] at this
      exact this
    · refine q Dn H1 s1 hD ?_
      rw [h1]
      unfold divs
      rw [List.map_map]
      rfl
def phi (n : Nat) : Int := (((List.range n).filter fun i => (Nat.gcd (i + 1) n == 1)).length : Int)
def spPhi : Sp := fun vs H Q _ => ∃ n : Nat, vs = [.int n] ∧ n ≤ 10000 ∧ ∀ H', Same H H' → Q (.int (phi n)) H'
theorem ok_totient (T : Tx K mg W) (D : Df K mg "totient" s_totient ["number"]) : Cal P w K mg base CX0 1 "totient" ["number"] spPhi := by
  obtain ⟨f, fd, g, F, b⟩ := D
  refine ⟨f, fd, g, F.kp, b, F.ok sc_totient (fun vs H Q E h => ?_) (fun cdv A outer s H vs Q E hr h => ?_)⟩
  · obtain ⟨n, rfl, _⟩ := h
    rfl
  · obtain ⟨n, rfl, hn, q⟩ := h
    refine ⟨_, (pss_one (ps_ret (pe_callB call_len_seq (by rfl) T.n_len (by decide +kernel) (pa_cons (pe_lc (own := [("part", 1)]) rfl sc_totient.nd (pi_range2 (by rfl) T.n_range (pa_cons pe_int (pa_cons (pe_op op_add (pv 0) pe_int) pa_nil))) (blkOk_by (own := [("part", 1)]) (N := ["number", "part"]) (sc := defScope s_totient) (by decide +kernel)) (fun _ _ _ _ _ => (pg_name (i := 1) sc_totient.nd rfl (.inl rfl))) (fun _ _ _ _ _ => pts_one (pt_cmpR op_eq (pe_callBfun cr_gcd (by rfl) T.m_gcd (pa_cons (pv 1) (pa_cons (pv 0) pa_nil))) pe_int (nomark _))) (fun _ _ _ _ _ => (pv 1))) pa_nil)))), ?_⟩
    refine ⟨_, rfl, _, _, rfl, rfl, _, _, rfl, ⟨by omega, by omega, by omega, by omega⟩, fun Dn hD => ?_⟩
    have en : ((n : Int) + 1 - 1).toNat = n := by omega
    rw [en]
    refine lc_rangeF (lo := 1) (j := 1) (fun i => (Nat.gcd (i + 1) n == 1)) (fun i => V.int ((i : Int) + 1)) (by omega) hD (fun i hi H1 s1 R k => ?_) (fun i hi _ H1 s1 R k => ?_) (fun H1 s1 h1 => ?_)
    · refine ⟨_, rfl, _, rfl, _, _, rfl, rfl, _, rfl, ?_⟩
      have := k H1 (.refl H1)
      have e : decide (V.int ((Nat.gcd (Int.natAbs (1 + (i : Int))) (Int.natAbs (n : Int)) : Nat) : Int) = V.int 1) = (Nat.gcd (i + 1) n == 1) := by
        rw [show Int.natAbs (1 + (i : Int)) = i + 1 by omega, Int.natAbs_natCast]
        by_cases h : Nat.gcd (i + 1) n = 1
        · rw [h]; rfl
        · rw [beq_eq_false_iff_ne.mpr h]
          refine decide_eq_false fun z => h ?_
          have := V.int.inj z
          omega
      rw [← e] at this
      exact this
    · refine ⟨_, rfl, ?_⟩
      have := k H1 (.refl H1)
      rw [Int.add_comm] at this
      exact this
    · refine ⟨Dn, _, rfl, .inl (sq_of h1), ?_⟩
      rw [List.length_map]
      exact q H1 s1
end
end SM

namespace SM
open PySem L2
/-! ### the mirror of the table -/
def shr (md : Str) (n i : Int) : Int := if md = "labelled" then PySem.W.mcComb n i else 1
def tab (md : Str) (cs : List Int) : Nat → Nat → Int
  | 0, n => if n = 0 then 1 else 0
  | 1, n => cs.getD n 0
  | m + 2, n => ((List.range (n - (m + 1))).map fun i : Nat => shr md n ((i : Int) + 1) * cs.getD (i + 1) 0 * tab md cs (m + 1) (n - (i + 1))).sum
theorem tab_small {md : Str} {cs : List Int} {m n : Nat} (h : n < m + 2) : tab md cs (m + 2) n = 0 := by
  rw [tab, show n - (m + 1) = 0 by omega]; rfl
/-- the numbers of first members -/
def shl (md : Str) (cs : List Int) (k : Nat) : List Int := 0 :: (List.range (k - 1)).map fun i : Nat => shr md k ((i : Int) + 1) * cs.getD (i + 1) 0
theorem shl_get {md : Str} {cs : List Int} {k i : Nat} (h : i + 1 < k) : (shl md cs k)[i + 1]? = some (shr md k ((i : Int) + 1) * cs.getD (i + 1) 0) := by
  unfold shl
  rw [List.getElem?_cons_succ, List.getElem?_map, List.getElem?_range (by omega)]; rfl
/-- counts that are not too great -/
def Bn (cs : List Int) : Prop := ∀ x ∈ cs, 0 ≤ x ∧ x ≤ 2 ^ 100
theorem Bn.get {cs : List Int} (h : Bn cs) (i : Nat) : 0 ≤ cs.getD i 0 ∧ cs.getD i 0 ≤ 2 ^ 100 := by
  rw [List.getD_eq_getElem?_getD]
  cases e : cs[i]? with
  | none => exact ⟨Int.le_refl 0, by decide⟩
  | some x => exact h x (List.mem_of_getElem? e)
def combOk : Bool := (List.range 62).all fun n => (List.range (n + 1)).all fun i => decide (0 ≤ PySem.W.mcComb n i) && decide (PySem.W.mcComb n i < 1152921504606846976)
theorem combOk_t : combOk = true := by decide +kernel
theorem shr_ok {md : Str} {n i : Nat} (hn : n ≤ 61) (hi : i ≤ n) : 0 ≤ shr md n i ∧ shr md n i < 1152921504606846976 := by
  unfold shr
  split
  · have h := combOk_t
    unfold combOk at h
    rw [List.all_eq_true] at h
    have h1 := h n (List.mem_range.mpr (by omega))
    rw [List.all_eq_true] at h1
    have h2 := h1 i (List.mem_range.mpr (by omega))
    rw [Bool.and_eq_true, decide_eq_true_eq, decide_eq_true_eq] at h2
    exact h2
  · exact ⟨by decide, by decide⟩
theorem nb {v : Int} {a : Nat} (h0 : 0 ≤ v) (h1 : v ≤ 2 ^ a) : v.natAbs < 2 ^ (a + 1) := by
  have e : ((2 : Int) ^ a) = ((2 ^ a : Nat) : Int) := by rw [Int.natCast_pow]; rfl
  rw [e] at h1
  have : 0 < 2 ^ a := Nat.pow_pos (by decide)
  rw [Nat.pow_succ]
  omega
theorem pow_mul_le {x y : Int} {a b : Nat} (h0 : 0 ≤ x) (hx : x ≤ 2 ^ a) (k0 : 0 ≤ y) (hy : y ≤ 2 ^ b) : 0 ≤ x * y ∧ x * y ≤ 2 ^ (a + b) :=
  ⟨Int.mul_nonneg h0 k0, by rw [Int.pow_add]; exact Int.mul_le_mul hx hy k0 (Int.le_of_lt (Int.pow_pos (by decide)))⟩
theorem pow_le {a b : Nat} (h : a ≤ b) : (2 : Int) ^ a ≤ 2 ^ b := by
  have := Nat.pow_le_pow_right (n := 2) (by decide) h
  have e : ∀ c : Nat, ((2 : Int) ^ c) = ((2 ^ c : Nat) : Int) := fun c => by rw [Int.natCast_pow]; rfl
  rw [e, e]
  omega
theorem sum_le {B : Int} : ∀ {l : List Int}, (∀ x ∈ l, 0 ≤ x ∧ x ≤ B) → 0 ≤ l.sum ∧ l.sum ≤ l.length * B
  | [], _ => ⟨Int.le_refl 0, by simp⟩
  | x :: r, h => by
    obtain ⟨a, b⟩ := sum_le (fun y hy => h y (List.mem_cons_of_mem _ hy))
    obtain ⟨c, d⟩ := h x List.mem_cons_self
    rw [List.sum_cons, List.length_cons]
    refine ⟨Int.add_nonneg c a, ?_⟩
    have : ((r.length + 1 : Nat) : Int) * B = r.length * B + B := by
      rw [Int.natCast_add, Int.add_mul]; simp
    omega
/-- a sum of at most 61 numbers -/
theorem sum61 {a : Nat} {l : List Int} (hl : l.length ≤ 64) (h : ∀ x ∈ l, 0 ≤ x ∧ x ≤ 2 ^ a) : 0 ≤ l.sum ∧ l.sum ≤ 2 ^ (a + 6) := by
  obtain ⟨p, q⟩ := sum_le h
  refine ⟨p, Int.le_trans q ?_⟩
  rw [Int.pow_add, Int.mul_comm]
  exact Int.mul_le_mul_of_nonneg_left (by show (l.length : Int) ≤ 2 ^ 6; omega) (Int.le_of_lt (Int.pow_pos (by decide)))
theorem shr_p {md : Str} {n i : Nat} (hn : n ≤ 61) (hi : i ≤ n) : 0 ≤ shr md n i ∧ shr md n i ≤ 2 ^ 60 := by
  obtain ⟨a, b⟩ := shr_ok (md := md) hn hi
  exact ⟨a, by omega⟩
theorem shr_mul {md : Str} {n i : Nat} {cs : List Int} (hn : n ≤ 61) (hi : i ≤ n) (h : Bn cs) : 0 ≤ shr md n i * cs.getD i 0 ∧ shr md n i * cs.getD i 0 ≤ 2 ^ 160 :=
  pow_mul_le (a := 60) (b := 100) (shr_p hn hi).1 (shr_p hn hi).2 (h.get i).1 (h.get i).2
theorem tab_le {md : Str} {cs : List Int} (h : Bn cs) : ∀ (m n : Nat), n ≤ 61 → 0 ≤ tab md cs m n ∧ tab md cs m n ≤ 2 ^ (170 * m)
  | 0, n, _ => by
    rw [tab]
    split <;> exact ⟨by decide, by decide⟩
  | 1, n, _ => by
    rw [tab]
    exact ⟨(h.get n).1, Int.le_trans (h.get n).2 (pow_le (by decide))⟩
  | m + 2, n, hn => by
    rw [tab]
    have := sum61 (a := 160 + 170 * (m + 1)) (l := (List.range (n - (m + 1))).map fun i : Nat => shr md n ((i : Int) + 1) * cs.getD (i + 1) 0 * tab md cs (m + 1) (n - (i + 1))) (by simp; omega) (fun x hx => by
      obtain ⟨i, hi, rfl⟩ := List.mem_map.mp hx
      have hi' := List.mem_range.mp hi
      have h1 := shr_mul (md := md) (n := n) (i := i + 1) hn (by omega) h
      have h2 := tab_le (md := md) h (m + 1) (n - (i + 1)) (by omega)
      exact pow_mul_le h1.1 h1.2 h2.1 h2.2)
    exact ⟨this.1, Int.le_trans this.2 (pow_le (by omega))⟩
/-! ### sets without labels -/
def hs (cs : List Int) : Nat → Nat → Int
  | 0, n => if n = 0 then 1 else 0
  | 1, n => cs.getD n 0
  | m + 2, n => if n < m + 2 then 0 else ((List.range (m + 2)).map fun i : Nat => ((List.range ((n - (m + 2)) / (i + 1) + 1)).map fun j : Nat => cs.getD (j + 1) 0 * hs cs (m + 1 - i) (n - (i + 1) * (j + 1))).sum).sum / ((m : Int) + 2)
termination_by m _ => m
decreasing_by omega
theorem hs_0 {cs : List Int} {n : Nat} : hs cs 0 n = if n = 0 then 1 else 0 := by rw [hs]
theorem hs_1 {cs : List Int} {n : Nat} : hs cs 1 n = cs.getD n 0 := by rw [hs]
theorem hs_2 {cs : List Int} {m n : Nat} (h : ¬ n < m + 2) : hs cs (m + 2) n = ((List.range (m + 2)).map fun i : Nat => ((List.range ((n - (m + 2)) / (i + 1) + 1)).map fun j : Nat => cs.getD (j + 1) 0 * hs cs (m + 1 - i) (n - (i + 1) * (j + 1))).sum).sum / ((m : Int) + 2) := by
  rw [hs, if_neg h]
theorem hs_small {cs : List Int} {m n : Nat} (h : n < m + 2) : hs cs (m + 2) n = 0 := by rw [hs, if_pos h]
theorem ediv_le {x b : Int} {a : Nat} (h0 : 0 ≤ x) (hx : x ≤ 2 ^ a) (hb : 0 < b) : 0 ≤ x / b ∧ x / b ≤ 2 ^ a :=
  ⟨Int.ediv_nonneg h0 (Int.le_of_lt hb), Int.le_trans (Int.ediv_le_self _ h0) hx⟩
theorem last_le {n m i : Nat} (h : m ≤ n) (hm : 0 < m) : (n - m) / (i + 1) + 1 ≤ n := by
  have := Nat.div_le_self (n - m) (i + 1)
  omega
theorem hs_le {cs : List Int} (h : Bn cs) : ∀ (m n : Nat), n ≤ 61 → 0 ≤ hs cs m n ∧ hs cs m n ≤ 2 ^ (170 * m) := by
  intro m
  induction m using Nat.strongRecOn with
  | ind m ih =>
    intro n hn
    match m with
    | 0 =>
      rw [hs_0]
      split <;> exact ⟨by decide, by decide⟩
    | 1 =>
      rw [hs_1]
      exact ⟨(h.get n).1, Int.le_trans (h.get n).2 (pow_le (by decide))⟩
    | m + 2 =>
      by_cases hl : n < m + 2
      · rw [hs_small hl]
        exact ⟨Int.le_refl 0, Int.le_of_lt (Int.pow_pos (by decide))⟩
      · rw [hs_2 hl]
        have s := sum61 (a := 100 + 170 * (m + 1) + 6) (l := (List.range (m + 2)).map fun i : Nat => ((List.range ((n - (m + 2)) / (i + 1) + 1)).map fun j : Nat => cs.getD (j + 1) 0 * hs cs (m + 1 - i) (n - (i + 1) * (j + 1))).sum) (by simp; omega) (fun x hx => by
          obtain ⟨i, hi, rfl⟩ := List.mem_map.mp hx
          have hi' := List.mem_range.mp hi
          refine sum61 (by rw [List.length_map, List.length_range]; have := last_le (n := n) (m := m + 2) (i := i) (by omega) (by omega); omega) (fun y hy => ?_)
          obtain ⟨j, hj, rfl⟩ := List.mem_map.mp hy
          have h1 := h.get (j + 1)
          have h2 := ih (m + 1 - i) (by omega) (n - (i + 1) * (j + 1)) (by omega)
          have h3 := pow_mul_le h1.1 h1.2 h2.1 h2.2
          exact ⟨h3.1, Int.le_trans h3.2 (pow_le (by omega))⟩)
        have d := ediv_le (b := (m : Int) + 2) s.1 s.2 (by omega)
        exact ⟨d.1, Int.le_trans d.2 (pow_le (by omega))⟩
/-! ### the table as it is kept -/
def unl (wd md : Str) : Bool := decide (wd = "set") && !decide (md = "labelled")
def tg (wd md : Str) (cs : List Int) (m n : Nat) : Int := if unl wd md = true then hs cs m n else tab md cs m n
theorem tg_u {wd md : Str} {cs : List Int} {m n : Nat} (h : unl wd md = true) : tg wd md cs m n = hs cs m n := if_pos h
theorem tg_t {wd md : Str} {cs : List Int} {m n : Nat} (h : unl wd md = false) : tg wd md cs m n = tab md cs m n := if_neg (by rw [h]; exact Bool.false_ne_true)
theorem tg_0 {wd md : Str} {cs : List Int} {n : Nat} : tg wd md cs 0 n = if n = 0 then 1 else 0 := by
  unfold tg
  split
  · rw [hs_0]
  · rw [tab]
theorem tg_1 {wd md : Str} {cs : List Int} {n : Nat} : tg wd md cs 1 n = cs.getD n 0 := by
  unfold tg
  split
  · rw [hs_1]
  · rw [tab]
theorem tg_small {wd md : Str} {cs : List Int} {m n : Nat} (h : n < m + 2) : tg wd md cs (m + 2) n = 0 := by
  unfold tg
  split
  · exact hs_small h
  · exact tab_small h
theorem tg_le {wd md : Str} {cs : List Int} (h : Bn cs) (m n : Nat) (hn : n ≤ 61) : 0 ≤ tg wd md cs m n ∧ tg wd md cs m n ≤ 2 ^ (170 * m) := by
  unfold tg
  split
  · exact hs_le h m n hn
  · exact tab_le h m n hn
def rowT (wd md : Str) (cs : List Int) (m k : Nat) : List Int := (List.range k).map fun n => tg wd md cs m n
theorem rowT_get {wd md : Str} {cs : List Int} {m k n : Nat} (h : n < k) : (rowT wd md cs m k)[n]? = some (tg wd md cs m n) := by
  unfold rowT
  rw [List.getElem?_map, List.getElem?_range h]; rfl
theorem rowT_succ (wd md : Str) (cs : List Int) (m k : Nat) : rowT wd md cs m (k + 1) = rowT wd md cs m k ++ [tg wd md cs m k] := by
  unfold rowT
  rw [List.range_succ, List.map_append]; rfl
theorem rowT_len (wd md : Str) (cs : List Int) (m k : Nat) : (rowT wd md cs m k).length = k := by
  unfold rowT; rw [List.length_map, List.length_range]
theorem rowT_zero {wd md : Str} {cs : List Int} {m k : Nat} (h : k ≤ m + 2) : rowT wd md cs (m + 2) k = List.replicate k 0 := by
  unfold rowT
  rw [List.eq_replicate_iff]
  refine ⟨by rw [List.length_map, List.length_range], fun x hx => ?_⟩
  obtain ⟨n, hn, rfl⟩ := List.mem_map.mp hx
  have := List.mem_range.mp hn
  exact tg_small (by omega)
/-! ### the object -/
def flds (w : Str) (m : Option Int) (c : Addr) (md : Str) (t : Addr) : List (Str × V) :=
  putF "table" (.ref t) (putF "mode" (.str md) (putF "counts" (.ref c) (putF "most" (oV m) (putF "word" (.str w) []))))
section
variable {w md : Str} {m : Option Int} {c t : Addr}
theorem flds_lookup (x : Str) : (flds w m c md t).lookup x = if x = "table" then some (.ref t) else if x = "mode" then some (.str md) else if x = "counts" then some (.ref c) else if x = "most" then some (oV m) else if x = "word" then some (.str w) else none := by
  unfold flds
  rw [lookup_putF, lookup_putF, lookup_putF, lookup_putF, lookup_putF]
  rfl
theorem l_word : (flds w m c md t).lookup ("word" : Str) = some (.str w) := by
  rw [flds_lookup, if_neg (by decide +kernel), if_neg (by decide +kernel), if_neg (by decide +kernel), if_neg (by decide +kernel), if_pos rfl]
theorem l_most : (flds w m c md t).lookup ("most" : Str) = some (oV m) := by
  rw [flds_lookup, if_neg (by decide +kernel), if_neg (by decide +kernel), if_neg (by decide +kernel), if_pos rfl]
theorem l_counts : (flds w m c md t).lookup ("counts" : Str) = some (.ref c) := by
  rw [flds_lookup, if_neg (by decide +kernel), if_neg (by decide +kernel), if_pos rfl]
theorem l_mode : (flds w m c md t).lookup ("mode" : Str) = some (.str md) := by
  rw [flds_lookup, if_neg (by decide +kernel), if_pos rfl]
theorem l_table : (flds w m c md t).lookup ("table" : Str) = some (.ref t) := by
  rw [flds_lookup, if_pos rfl]
theorem l_no {x : Str} (h1 : ¬ x = "table") (h2 : ¬ x = "mode") (h3 : ¬ x = "counts") (h4 : ¬ x = "most") (h5 : ¬ x = "word") : (flds w m c md t).lookup x = none := by
  rw [flds_lookup, if_neg h1, if_neg h2, if_neg h3, if_neg h4, if_neg h5]
end
theorem nodup_at {α : Type} : ∀ {l : List α} {i j : Nat}, l.Nodup → (hi : i < l.length) → (hj : j < l.length) → l[i] = l[j] → i = j
  | [], _, _, _, hi, _, _ => absurd hi (Nat.not_lt_zero _)
  | x :: r, 0, 0, _, _, _, _ => rfl
  | x :: r, 0, j + 1, nd, _, hj, e => by
    have := (List.nodup_cons.mp nd).1
    simp only [List.getElem_cons_zero, List.getElem_cons_succ] at e
    exact absurd (e ▸ List.getElem_mem (by simpa using hj)) this
  | x :: r, i + 1, 0, nd, hi, _, e => by
    have := (List.nodup_cons.mp nd).1
    simp only [List.getElem_cons_zero, List.getElem_cons_succ] at e
    exact absurd (e ▸ List.getElem_mem (by simpa using hi)) this
  | x :: r, i + 1, j + 1, nd, hi, hj, e => by
    simp only [List.getElem_cons_succ] at e
    exact congrArg (· + 1) (nodup_at (List.nodup_cons.mp nd).2 (by simpa using hi) (by simpa using hj) e)
structure TabAt (C : Addr) (H0 H : Hp) (p dx t l0 c : Addr) (ls : List Addr) (r0 : List Int) (rs : List (List Int)) (w : Str) (m : Option Int) (md : Str) : Prop where
  sm : Same H0 H
  hp : H p = some (.ins C dx (flds w m c md t))
  ht : H t = some (.lst (.ref l0 :: .ref c :: ls.map V.ref))
  h0 : H l0 = some (.lst (r0.map V.int))
  hl : ls.length = rs.length
  hr : ∀ (j : Nat) (l : Addr) (r : List Int), ls[j]? = some l → rs[j]? = some r → H l = some (.lst (r.map V.int))
  nd : (p :: t :: l0 :: ls).Nodup
  fr : ∀ a ∈ p :: t :: l0 :: ls, H0 a = none
section
variable {C : Addr} {H0 H H' : Hp} {p dx t l0 c : Addr} {ls : List Addr} {r0 : List Int} {rs : List (List Int)} {w md : Str} {m : Option Int}
theorem TabAt.mono (S : TabAt C H0 H p dx t l0 c ls r0 rs w m md) (s : Same H H') : TabAt C H0 H' p dx t l0 c ls r0 rs w m md :=
  ⟨S.sm.trans s, s _ _ S.hp, s _ _ S.ht, s _ _ S.h0, S.hl, fun j l r a b => s _ _ (S.hr j l r a b), S.nd, S.fr⟩
theorem TabAt.app0 (S : TabAt C H0 H p dx t l0 c ls r0 rs w m md) (x : Int) : TabAt C H0 (upd H l0 (.lst (r0.map V.int ++ [.int x]))) p dx t l0 c ls (r0 ++ [x]) rs w m md := by
  have nd := S.nd
  simp only [List.nodup_cons, List.mem_cons, not_or] at nd
  obtain ⟨⟨n1, n2, n3⟩, ⟨n4, n5⟩, n6, n7⟩ := nd
  refine ⟨same_upd' S.sm (S.fr l0 (by simp)), by rw [upd_ne n2]; exact S.hp, by rw [upd_ne n4]; exact S.ht, by rw [upd_same, List.map_append]; rfl, S.hl, fun j l r a b => ?_, S.nd, S.fr⟩
  have : l ≠ l0 := fun e => n6 (e ▸ List.mem_of_getElem? a)
  rw [upd_ne this]
  exact S.hr j l r a b
theorem TabAt.appT (S : TabAt C H0 H p dx t l0 c ls r0 rs w m md) {n : Addr} {r : List Int} (hn : H n = some (.lst (r.map V.int))) (nn : n ∉ p :: t :: l0 :: ls) (h0n : H0 n = none) :
    TabAt C H0 (upd H t (.lst ((.ref l0 :: .ref c :: ls.map V.ref) ++ [.ref n]))) p dx t l0 c (ls ++ [n]) r0 (rs ++ [r]) w m md := by
  have nd := S.nd
  simp only [List.nodup_cons, List.mem_cons, not_or] at nd
  obtain ⟨⟨n1, n2, n3⟩, ⟨n4, n5⟩, n6, n7⟩ := nd
  simp only [List.mem_cons, not_or] at nn
  obtain ⟨m1, m2, m3, m4⟩ := nn
  refine ⟨same_upd' S.sm (S.fr t (by simp)), by rw [upd_ne n1]; exact S.hp, ?_, ?_, by rw [List.length_append, List.length_append, S.hl]; rfl, fun j l r' a b => ?_, ?_, ?_⟩
  · rw [upd_same, List.map_append]; rfl
  · rw [upd_ne (Ne.symm n4)]; exact S.h0
  · by_cases hj : j < ls.length
    · rw [List.getElem?_append_left hj] at a
      rw [List.getElem?_append_left (by rw [← S.hl]; exact hj)] at b
      have : l ≠ t := fun e => n5 (e ▸ List.mem_of_getElem? a)
      rw [upd_ne this]
      exact S.hr j l r' a b
    · have hj' : j = ls.length := by
        have := (List.getElem?_eq_some_iff.mp a).1
        rw [List.length_append] at this
        simp at this
        omega
      subst hj'
      rw [List.getElem?_append_right (Nat.le_refl _)] at a
      rw [S.hl, List.getElem?_append_right (Nat.le_refl _)] at b
      simp at a b
      subst a b
      rw [upd_ne m2]
      exact hn
  · simp only [List.nodup_cons, List.mem_cons, List.mem_append, List.mem_nil_iff, or_false, not_or]
    refine ⟨⟨n1, n2, n3, Ne.symm m1⟩, ⟨n4, n5, Ne.symm m2⟩, ⟨n6, Ne.symm m3⟩, ?_⟩
    rw [List.nodup_append]
    exact ⟨n7, by simp, fun x hx y hy e => by simp at hy; subst hy e; exact m4 hx⟩
  · intro a ha
    simp only [List.mem_cons, List.mem_append, List.mem_nil_iff, or_false] at ha
    rcases ha with h | h | h | h | h
    · exact S.fr a (by simp [h])
    · exact S.fr a (by simp [h])
    · exact S.fr a (by simp [h])
    · exact S.fr a (by simp [h])
    · rw [h]; exact h0n
theorem TabAt.appL (S : TabAt C H0 H p dx t l0 c ls r0 rs w m md) {j : Nat} {l : Addr} {r : List Int} (x : Int) (hl : ls[j]? = some l) (hr : rs[j]? = some r) :
    TabAt C H0 (upd H l (.lst (r.map V.int ++ [.int x]))) p dx t l0 c ls r0 (rs.set j (r ++ [x])) w m md := by
  have nd := S.nd
  simp only [List.nodup_cons, List.mem_cons, not_or] at nd
  obtain ⟨⟨n1, n2, n3⟩, ⟨n4, n5⟩, n6, n7⟩ := nd
  have lm := List.mem_of_getElem? hl
  refine ⟨same_upd' S.sm (S.fr l (by simp [lm])), by rw [upd_ne (show p ≠ l from fun e => n3 (by rw [e]; exact lm))]; exact S.hp, by rw [upd_ne (show t ≠ l from fun e => n5 (by rw [e]; exact lm))]; exact S.ht, by rw [upd_ne (show l0 ≠ l from fun e => n6 (by rw [e]; exact lm))]; exact S.h0, by rw [List.length_set]; exact S.hl, fun i l' r' a b => ?_, S.nd, S.fr⟩
  by_cases e : i = j
  · subst e
    rw [hl] at a
    cases a
    rw [List.getElem?_set_self (List.getElem?_eq_some_iff.mp hr).1] at b
    cases b
    rw [upd_same, List.map_append]; rfl
  · rw [List.getElem?_set_ne (Ne.symm e)] at b
    have : l' ≠ l := fun z => by
      subst z
      obtain ⟨h1, e1⟩ := List.getElem?_eq_some_iff.mp a
      obtain ⟨h2, e2⟩ := List.getElem?_eq_some_iff.mp hl
      exact e (nodup_at n7 h1 h2 (e1.trans e2.symm))
    rw [upd_ne this]
    exact S.hr i l' r' a b
end
end SM

namespace SM
open PySem L2
theorem atI_of {α : Type} {xs : List α} {z : Int} {j : Nat} {v : α} (e : z = (j : Int)) (h : xs[j]? = some v) : atI xs z = some v := by
  subst e; exact atI_nat h
theorem getD_at {cs : List Int} {j : Nat} (h : j < cs.length) : (cs.map V.int)[j]? = some (.int (cs.getD j 0)) := by
  rw [ints_at h, List.getD_eq_getElem?_getD, List.getElem?_eq_getElem h]; rfl
section
variable {P : Program} {w : World} {K : PySem.W.Frag} {mg : Str → Option Value} {base : Heap} {W : Ad}
/-! ### ways_to_share -/
def spShare : Sp := fun vs H Q _ => ∃ (a n : Int) (md : Str), vs = [.int a, .int n, .str md] ∧ 0 ≤ a ∧ 0 ≤ n ∧ n < 18000 ∧ Q (.int (shr md n a)) H
theorem ok_share (T : Tx K mg W) (D : Df K mg "ways_to_share" s_ways_to_share ["first", "size", "mode"]) : Cal P w K mg base CX0 1 "ways_to_share" ["first", "size", "mode"] spShare := by
  obtain ⟨f, fd, g, F, b⟩ := D
  refine ⟨f, fd, g, F.kp, b, F.ok sc_ways_to_share (fun vs H Q E h => ?_) (fun cdv A outer s H vs Q E hr h => ?_)⟩
  · obtain ⟨a, n, md, rfl, _⟩ := h
    rfl
  · obtain ⟨a, n, md, rfl, h0, h1, h2, q⟩ := h
    refine ⟨_, (pss_one (ps_ret (pe_ifExp (pt_cmpR op_eq (pv 2) (pe_glob (by rfl) T.g_LABELLED T.r_LABELLED) (nomark _)) (pe_callBfun cr_comb (by rfl) T.m_comb (pa_cons (pv 1) (pa_cons (pv 0) pa_nil))) pe_int))), ?_⟩
    refine ⟨_, rfl, rfl, _, rfl, ite2 (fun e => ?_) (fun e => ?_)⟩
    · have e' : md = "labelled" := V.str.inj (of_decide_eq_true e)
      refine ⟨_, rfl, _, rfl, _, _, rfl, h1, h0, h2, fun _ => ?_⟩
      unfold shr at q
      rw [if_pos e'] at q
      exact q
    · have e' : ¬ md = "labelled" := fun z => e (decide_eq_true (by rw [z]))
      unfold shr at q
      rw [if_neg e'] at q
      exact q
/-! ### Members.__init__ -/
def spInit (C : Addr) : Sp := fun vs H Q _ => ∃ (p dx c : Addr) (wd md : Str) (m : Option Int), vs = [.ref p, .str wd, oV m, .ref c, .str md] ∧ H p = some (.ins C dx []) ∧
  ∀ (t l0 : Addr) (H' : Hp), H t = none → H l0 = none → t ≠ l0 → H' p = some (.ins C dx (flds wd m c md t)) → H' t = some (.lst [.ref l0, .ref c]) → H' l0 = some (.lst []) → (∀ b o, H b = some o → b ≠ p → H' b = some o) → Q .non H'
theorem ok_init (T : Tx K mg W) (D : DfM K W.cMembers "__init__" "Members.__init__" s_Members_init ["self", "word", "most", "counts", "mode"]) :
    CalM P w K mg base CX0 1 W.cMembers "__init__" ["self", "word", "most", "counts", "mode"] (spInit W.cMembers) := by
  obtain ⟨f, fd, mt, F, b⟩ := D
  refine ⟨f, fd, mt, b, F.ok sc_Members_init (fun vs H Q E h => ?_) (fun cdv A outer s H vs Q E hr h => ?_)⟩
  · obtain ⟨p, dx, c, wd, md, m, rfl, _⟩ := h
    rfl
  · obtain ⟨p, dx, c, wd, md, m, rfl, hp, q⟩ := h
    refine ⟨_, (pss_cons (ps_fld (pv 0) (pv 1) rfl)
  (pss_cons (ps_fld (pv 0) (pv 2) rfl)
  (pss_cons (ps_fld (pv 0) (pv 3) rfl)
  (pss_cons (ps_fld (pv 0) (pv 4) rfl)
  (pss_one (ps_fld (pv 0) (pe_lst (pa_cons (pe_lst pa_nil) (pa_cons (pv 3) pa_nil))) rfl)))))), ?_⟩
    refine ⟨_, rfl, _, rfl, p, _, dx, _, rfl, hp, T.cl_Members, T.f_word, by decide, ?_⟩
    refine ⟨_, rfl, _, rfl, p, _, dx, _, rfl, upd_same, T.cl_Members, T.f_most, by show 1 < 1000; decide, ?_⟩
    refine ⟨_, rfl, _, rfl, p, _, dx, _, rfl, upd_same, T.cl_Members, T.f_counts, ?_, ?_⟩
    · have : ∀ (f g : Str) (v : V) (fs : List (Str × V)), (putF f v fs).length ≤ fs.length + 1 := by
        intro f g v fs
        induction fs with
        | nil => exact Nat.le_refl _
        | cons x r ih =>
          obtain ⟨a, b⟩ := x
          show (if a = f then (a, v) :: r else (a, b) :: putF f v r).length ≤ r.length + 1 + 1
          split
          · exact Nat.le_succ _
          · exact Nat.succ_le_succ ih
      have h1 := this "most" "most" (oV m) (putF "word" (.str wd) [])
      have h2 := this "word" "word" (.str wd) []
      simp only [List.length_nil] at h2
      omega
    refine ⟨_, rfl, _, rfl, p, _, dx, _, rfl, upd_same, T.cl_Members, T.f_mode, ?_, ?_⟩
    · have : ∀ (f : Str) (v : V) (fs : List (Str × V)), (putF f v fs).length ≤ fs.length + 1 := by
        intro f v fs
        induction fs with
        | nil => exact Nat.le_refl _
        | cons x r ih =>
          obtain ⟨a, b⟩ := x
          show (if a = f then (a, v) :: r else (a, b) :: putF f v r).length ≤ r.length + 1 + 1
          split
          · exact Nat.le_succ _
          · exact Nat.succ_le_succ ih
      have h1 := this "most" (oV m) (putF "word" (.str wd) [])
      have h2 := this "word" (.str wd) []
      have h3 := this "counts" (.ref c) (putF "most" (oV m) (putF "word" (.str wd) []))
      simp only [List.length_nil] at h2
      omega
    refine ⟨Nat.zero_le _, fun l0 n0 => ⟨_, rfl, sz _ (by show 2 ≤ 100000; decide), fun t nt => ?_⟩⟩
    rw [upd_upd, upd_upd, upd_upd] at n0 nt ⊢
    have hp0 : l0 ≠ p := fun e => by rw [e, upd_same] at n0; cases n0
    have ht0 : t ≠ l0 := fun e => by rw [e, upd_same] at nt; cases nt
    rw [upd_ne ht0] at nt
    have htp : t ≠ p := fun e => by rw [e, upd_same] at nt; cases nt
    rw [upd_ne htp] at nt
    rw [upd_ne hp0] at n0
    refine ⟨_, rfl, p, _, dx, _, rfl, by rw [upd_ne htp.symm, upd_ne hp0.symm]; exact upd_same, T.cl_Members, T.f_table, ?_, ?_⟩
    · have : ∀ (f : Str) (v : V) (fs : List (Str × V)), (putF f v fs).length ≤ fs.length + 1 := by
        intro f v fs
        induction fs with
        | nil => exact Nat.le_refl _
        | cons x r ih =>
          obtain ⟨a, b⟩ := x
          show (if a = f then (a, v) :: r else (a, b) :: putF f v r).length ≤ r.length + 1 + 1
          split
          · exact Nat.le_succ _
          · exact Nat.succ_le_succ ih
      have h1 := this "most" (oV m) (putF "word" (.str wd) [])
      have h2 := this "word" (.str wd) []
      have h3 := this "counts" (.ref c) (putF "most" (oV m) (putF "word" (.str wd) []))
      have h4 := this "mode" (.str md) (putF "counts" (.ref c) (putF "most" (oV m) (putF "word" (.str wd) [])))
      simp only [List.length_nil] at h2
      omega
    refine q t l0 _ nt n0 ht0 upd_same ?_ ?_ fun b o hb nb => ?_
    · rw [upd_ne htp, upd_same]
    · rw [upd_ne hp0, upd_ne ht0.symm, upd_same]
    · rw [upd_ne nb, upd_ne (ne_of_none hb nt), upd_ne (ne_of_none hb n0), upd_ne nb]
      exact hb
/-! ### Members.shared_counts -/
/-- the state of a Members object ahead of a call: what all its methods ask -/
def spShared (K : PySem.W.Frag) (C : Addr) : Sp := fun vs H Q _ => ∃ (H0 : Hp) (p dx t l0 c : Addr) (ls : List Addr) (r0 : List Int) (rs : List (List Int)) (wd md : Str) (m : Option Int) (cs : List Int) (k : Nat),
  vs = [.ref p, .int k] ∧ TabAt C H0 H p dx t l0 c ls r0 rs wd m md ∧ SqL K H c (cs.map V.int) ∧ Bn cs ∧ k ≤ 61 ∧ k ≤ cs.length ∧
  ∀ (q : Addr) (H' : Hp), Same H H' → H q = none → H' q = some (.lst ((shl md cs k).map V.int)) → Q (.ref q) H'
theorem ok_shared (T : Tx K mg W) (D : DfM K W.cMembers "shared_counts" "Members.shared_counts" s_Members_shared_counts ["self", "size"]) (C1 : Cal P w K mg base CX0 1 "ways_to_share" ["first", "size", "mode"] spShare) :
    CalM P w K mg base CX0 2 W.cMembers "shared_counts" ["self", "size"] (spShared K W.cMembers) := by
  obtain ⟨f, fd, mt, F, b⟩ := D
  obtain ⟨f1, fd1, g_ways_to_share, k_ways_to_share, b_ways_to_share, G_ways_to_share⟩ := C1.ex
  refine ⟨f, fd, mt, b, F.ok sc_Members_shared_counts (fun vs H Q E h => ?_) (fun cdv A outer s H vs Q E hr h => ?_)⟩
  · obtain ⟨_, _, _, _, _, _, _, _, _, _, _, _, _, _, rfl, _⟩ := h
    rfl
  · obtain ⟨H0, p, dx, t, l0, c, ls, r0, rs, wd, md, m, cs, k, rfl, S, hc, hsm, hk, hkl, q⟩ := h
    refine ⟨_, (pss_one (ps_ret (pe_op op_cat (pe_lst (pa_cons pe_int pa_nil)) (pe_lc (own := [("at", 2)]) rfl sc_Members_shared_counts.nd (pi_range2 (by rfl) T.n_range (pa_cons pe_int (pa_cons (pv 1) pa_nil))) (blkOk_by (own := [("at", 2)]) (N := ["self", "size", "at"]) (sc := defScope s_Members_shared_counts) (by decide +kernel)) (fun _ _ _ _ _ => (pg_name (i := 2) sc_Members_shared_counts.nd rfl (.inl rfl))) (fun _ _ _ _ _ => pts_nil) (fun _ _ _ _ _ => (pe_op op_mulW (pe_call G_ways_to_share (hr.mono (by decide)) (by rfl) g_ways_to_share k_ways_to_share b_ways_to_share .nil pass0 (pa_cons (pv 2) (pa_cons (pv 1) (pa_cons (pe_fldB (K := K) rfl (pv 0) (by rfl)) pa_nil)))) (pe_ix (ix_listB (K := K) rfl) (pe_fldB (K := K) rfl (pv 0) (by rfl)) (pv 2) (fun _ _ => rfl)))))))), ?_⟩
    refine ⟨sz _ (by show 1 ≤ 100000; decide), fun l hl => ⟨_, rfl, _, _, rfl, ⟨by omega, by omega, by omega, by omega⟩, fun Dn hD => ?_⟩⟩
    have s1 : Same H (upd H l (.lst [.int 0])) := same_upd hl
    have en : ((k : Int) - 1).toNat = k - 1 := by omega
    rw [en]
    refine lc_rangeM (lo := 1) (j := 2) (fun i => V.int (shr md k (1 + (i : Int)) * cs.getD (i + 1) 0)) (by omega) hD (fun i hi H1 s2 R kk => ?_) (fun H1 s2 h1 => ?_)
    · have S1 := S.mono (s1.trans s2)
      have hc1 := (s1.trans s2).seq hc
      have hlt : i + 1 < cs.length := by omega
      refine ⟨_, rfl, _, rfl, _, rfl, p, _, dx, _, _, rfl, S1.hp, T.cl_Members, T.f_mode, l_mode, _, _, _, rfl, by omega, by omega, by omega, ?_⟩
      refine ⟨_, rfl, p, _, dx, _, _, rfl, S1.hp, T.cl_Members, T.f_counts, l_counts, _, rfl, c, _, _, _, rfl, rfl, hc1, atI_of (j := i + 1) (by omega) (getD_at hlt), _, _, rfl, rfl, ?_, kk H1 (.refl H1)⟩
      have h1 := shr_p (md := md) (n := k) (i := i + 1) hk (by omega)
      have h2 := hsm.get (i + 1)
      rw [show (1 : Int) + (i : Int) = ((i + 1 : Nat) : Int) by omega]
      exact wide_mul (nb h1.1 h1.2) (nb h2.1 h2.2) (by decide) (by decide) (by decide)
    · have s3 := s2 l _ upd_same
      refine ⟨l, Dn, _, _, rfl, rfl, s3, h1, sz _ ?_, fun r hr1 => ?_⟩
      · rw [List.length_map, List.length_range]; simp; omega
      · refine q r _ ((s1.trans s2).trans (same_upd hr1)) ((s1.trans s2).free hr1) ?_
        rw [upd_same]
        unfold shl
        rw [List.map_cons, List.map_map]
        congr 2
        show V.int 0 :: _ = _
        congr 1
        refine List.map_congr_left fun i _ => ?_
        show V.int (shr md k (1 + (i : Int)) * cs.getD (i + 1) 0) = V.int (shr md k ((i : Int) + 1) * cs.getD (i + 1) 0)
        rw [Int.add_comm]
end
end SM

namespace SM
open PySem L2
section
variable {P : Program} {w : World} {K : PySem.W.Frag} {mg : Str → Option Value} {base : Heap} {W : Ad}
/-! ### Members.next_rows -/
def spNextRows (K : PySem.W.Frag) (C : Addr) : Sp := fun vs H Q _ => ∃ (H0 : Hp) (p dx t l0 c : Addr) (ls : List Addr) (r0 : List Int) (rs : List (List Int)) (wd md : Str) (m : Option Int) (cs : List Int) (k j : Nat) (sh o : Addr) (ol : List Int),
  vs = [.ref p, .ref sh, .int ((j : Int) + 2), .int k] ∧ TabAt C H0 H p dx t l0 c ls r0 rs wd m md ∧ SqL K H sh ((shl md cs k).map V.int) ∧ Bn cs ∧ k ≤ 61 ∧ j + 2 ≤ k ∧
  (c :: ls)[j]? = some o ∧ SqL K H o (ol.map V.int) ∧ (∀ n, n < k → ol[n]? = some (tab md cs (j + 1) n)) ∧
  ∀ H', Same H H' → Q (.int (tab md cs (j + 2) k)) H'
theorem ok_nextRows (T : Tx K mg W) (D : DfM K W.cMembers "next_rows" "Members.next_rows" s_Members_next_rows ["self", "shared", "members", "size"]) :
    CalM P w K mg base CX0 1 W.cMembers "next_rows" ["self", "shared", "members", "size"] (spNextRows K W.cMembers) := by
  obtain ⟨f, fd, mt, F, b⟩ := D
  refine ⟨f, fd, mt, b, F.ok sc_Members_next_rows (fun vs H Q E h => ?_) (fun cdv A outer s H vs Q E hr h => ?_)⟩
  · obtain ⟨_, _, _, _, _, _, _, _, _, _, _, _, _, _, _, _, _, _, rfl, _⟩ := h
    rfl
  · obtain ⟨H0, p, dx, t, l0, c, ls, r0, rs, wd, md, m, cs, k, j, sh, o, ol, rfl, S, hsh, hsm, hk, hjk, ho, hol, hget, q⟩ := h
    refine ⟨_, (pss_cons (ps_set (i := 4) sc_Members_next_rows.nd rfl (.inr rfl) (pe_ix ix_list (pe_fld (pv 0) rfl) (pe_op op_sub (pv 2) pe_int) (fun _ _ => rfl)))
  (pss_one (ps_ret (pe_callB (cr_sum rfl) (by rfl) T.n_sum (by decide +kernel) (pa_cons (pe_lc (own := [("at", 5)]) rfl sc_Members_next_rows.nd (pi_range2 (by rfl) T.n_range (pa_cons pe_int (pa_cons (pe_op op_add (pe_op op_sub (pv 3) (pv 2)) pe_int) pa_nil))) (blkOk_by (own := [("at", 5)]) (N := ["self", "shared", "members", "size", "others", "at"]) (sc := defScope s_Members_next_rows) (by decide +kernel)) (fun _ _ _ _ _ => (pg_name (i := 5) sc_Members_next_rows.nd rfl (.inl rfl))) (fun _ _ _ _ _ => pts_nil) (fun _ _ _ _ _ => (pe_op op_mulW (pe_ix (ix_listB (K := K) rfl) (pv 1) (pv 5) (fun _ _ => rfl)) (pe_ix (ix_listB (K := K) rfl) (pv 4) (pe_op op_sub (pv 3) (pv 5)) (fun _ _ => rfl))))) pa_nil))))), ?_⟩
    refine ⟨_, rfl, p, _, dx, _, _, rfl, S.hp, T.cl_Members, T.f_table, l_table, _, rfl, _, _, rfl, rfl, t, _, _, .ref o, rfl, rfl, sq_of S.ht, atI_of (j := j + 1) (by omega) ?_, ?_⟩
    · rw [List.getElem?_cons_succ, ← List.map_cons (f := V.ref), List.getElem?_map, ho]; rfl
    refine ⟨_, rfl, _, rfl, _, _, rfl, rfl, _, _, rfl, rfl, _, _, rfl, ⟨by omega, by omega, by omega, by omega⟩, fun Dn hD => ?_⟩
    have en : ((k : Int) - ((j : Int) + 2) + 2 - 1).toNat = k - (j + 1) := by omega
    rw [en]
    refine lc_rangeM (lo := 1) (j := 5) (fun i => V.int (shr md k ((i : Int) + 1) * cs.getD (i + 1) 0 * tab md cs (j + 1) (k - (i + 1)))) (by omega) hD (fun i hi H1 s2 R kk => ?_) (fun H1 s2 h1 => ?_)
    · refine ⟨_, rfl, _, rfl, sh, _, _, .int (shr md k ((i : Int) + 1) * cs.getD (i + 1) 0), rfl, rfl, s2.seq hsh, atI_of (j := i + 1) (by omega) ?_, ?_⟩
      · rw [List.getElem?_map, shl_get (by omega)]; rfl
      refine ⟨_, rfl, _, rfl, _, rfl, _, _, rfl, rfl, o, _, _, .int (tab md cs (j + 1) (k - (i + 1))), rfl, rfl, s2.seq hol, atI_of (j := k - (i + 1)) (by omega) ?_, _, _, rfl, rfl, ?_, kk H1 (.refl H1)⟩
      · rw [List.getElem?_map, hget _ (by omega)]; rfl
      · have h1 := shr_mul (md := md) (n := k) (i := i + 1) hk (by omega) hsm
        have h2 := tab_le (md := md) hsm (j + 1) (k - (i + 1)) (by omega)
        exact wide_mul (nb h1.1 h1.2) (nb h2.1 h2.2) (by omega) (by omega) (by omega)
    · refine ⟨Dn, (List.range (k - (j + 1))).map fun i : Nat => shr md k ((i : Int) + 1) * cs.getD (i + 1) 0 * tab md cs (j + 1) (k - (i + 1)), rfl, sq_of ?_, ?_⟩
      · rw [h1, List.map_map]; rfl
      · exact q H1 s2
/-! ### Members.next_sets -/
def spNextSets (K : PySem.W.Frag) (C : Addr) : Sp := fun vs H Q _ => ∃ (H0 : Hp) (p dx t l0 c : Addr) (ls : List Addr) (r0 : List Int) (rs : List (List Int)) (wd md : Str) (m : Option Int) (cs : List Int) (k j : Nat),
  vs = [.ref p, .int ((j : Int) + 2), .int k] ∧ TabAt C H0 H p dx t l0 c ls r0 rs wd m md ∧ Bn cs ∧ k ≤ 61 ∧ j + 2 ≤ k ∧ k < cs.length ∧ SqL K H c (cs.map V.int) ∧ md ≠ "rigid" ∧
  (∀ i, i < j + 2 → ∃ (o : Addr) (ol : List Int), (l0 :: c :: ls)[i]? = some o ∧ SqL K H o (ol.map V.int) ∧ ∀ n, n < k → ol[n]? = some (hs cs i n)) ∧
  ∀ H', Same H H' → Q (.int (hs cs (j + 2) k)) H'
theorem ok_nextSets (T : Tx K mg W) (D : DfM K W.cMembers "next_sets" "Members.next_sets" s_Members_next_sets ["self", "members", "size"]) :
    CalM P w K mg base CX0 1 W.cMembers "next_sets" ["self", "members", "size"] (spNextSets K W.cMembers) := by
  obtain ⟨f, fd, mt, F, b⟩ := D
  refine ⟨f, fd, mt, b, F.ok sc_Members_next_sets (fun vs H Q E h => ?_) (fun cdv A outer s H vs Q E hr h => ?_)⟩
  · obtain ⟨_, _, _, _, _, _, _, _, _, _, _, _, _, _, _, rfl, _⟩ := h
    rfl
  · obtain ⟨H0, p, dx, t, l0, c, ls, r0, rs, wd, md, m, cs, k, j, rfl, S, hsm, hk, hjk, hkl, hc, hmd, hcell, q⟩ := h
    refine ⟨_, (pss_cons (ps_set (i := 3) sc_Members_next_sets.nd rfl (.inl rfl) pe_int)
  (pss_cons (ps_for PassesOwn.never rfl (pi_range2 (by rfl) T.n_range (pa_cons pe_int (pa_cons (pe_op op_add (pv 1) pe_int) pa_nil))) (pg_name (i := 4) sc_Members_next_sets.nd rfl (.inr rfl)) (
    (pss_cons (ps_set (i := 5) sc_Members_next_sets.nd rfl (.inr rfl) (pe_ix ix_list (pe_fld (pv 0) rfl) (pe_op op_sub (pv 1) (pv 4)) (fun _ _ => rfl)))
    (pss_cons (ps_set (i := 6) sc_Members_next_sets.nd rfl (.inl rfl) (pe_op op_fdiv (pe_op op_add (pe_op op_sub (pv 2) (pv 1)) (pv 4)) (pv 4)))
    (pss_cons (ps_set (i := 7) sc_Members_next_sets.nd rfl (.inl rfl) (pe_callB (cr_sum rfl) (by rfl) T.n_sum (by decide +kernel) (pa_cons (pe_lc (own := [("at", 8)]) rfl sc_Members_next_sets.nd (pi_range2 (by rfl) T.n_range (pa_cons pe_int (pa_cons (pe_op op_add (pv 6) pe_int) pa_nil))) (blkOk_by (own := [("at", 8)]) (N := ["self", "members", "size", "total", "equal", "others", "last", "ways", "at"]) (sc := defScope s_Members_next_sets) (by decide +kernel)) (fun _ _ _ _ _ => (pg_name (i := 8) sc_Members_next_sets.nd rfl (.inl rfl))) (fun _ _ _ _ _ => pts_nil) (fun _ _ _ _ _ => (pe_op op_mulW (pe_ix (ix_listB (K := K) rfl) (pe_fldB (K := K) rfl (pv 0) (by rfl)) (pv 8) (fun _ _ => rfl)) (pe_ix (ix_listB (K := K) rfl) (pv 5) (pe_op op_sub (pv 2) (pe_op op_mulW (pv 4) (pv 8))) (fun _ _ => rfl))))) pa_nil)))
    (pss_cons (ps_if (PW.pt (pw_and (pt_cmpR op_eq (pe_fld (pv 0) rfl) (pe_glob (by rfl) T.g_RIGID T.r_RIGID) (nomark _)) (pw_and1 (pt_cmpR op_eq (pe_op op_mod (pv 4) pe_int) pe_int (nomark _))))) (
      (pss_one (ps_never))) (pss_nil))
    (pss_one (ps_aug (i := 3) sc_Members_next_sets.nd rfl (.inl rfl) (pv 7) ip_add))))))))
  (pss_one (ps_ret (pe_op op_fdiv (pv 3) (pv 1)))))), ?_⟩
    refine ⟨_, rfl, _, _, rfl, rfl, _, _, rfl, ⟨by omega, by omega, by omega, by omega⟩, ?_⟩
    rw [show ((j : Int) + 2 + 1 - 1).toNat = j + 2 by omega]
    refine for_range (lo := 1) (n := j + 2) (fun i σ H' => ∃ y4 y5 y6 y7, σ = [some (.ref p), some (.int ((j : Int) + 2)), some (.int k), some (.int ((List.range i).map fun i : Nat => ((List.range ((k - (j + 2)) / (i + 1) + 1)).map fun z : Nat => cs.getD (z + 1) 0 * hs cs (j + 1 - i) (k - (i + 1) * (z + 1))).sum).sum), y4, y5, y6, y7, none] ∧ Same H H')
      ⟨none, none, none, none, rfl, .refl H⟩ ?_ ?_
    · rintro i σ H1 hi ⟨y4, y5, y6, y7, rfl, s1⟩
      obtain ⟨o, ol, go, hol, hget⟩ := hcell (j + 1 - i) (by omega)
      have S1 := S.mono s1
      refine ⟨_, rfl, p, _, dx, _, _, rfl, S1.hp, T.cl_Members, T.f_table, l_table, _, rfl, _, rfl, _, _, rfl, rfl, t, _, _, .ref o, rfl, rfl, sq_of S1.ht, atI_of (j := j + 1 - i) (by omega) ?_, ?_⟩
      · rw [← List.map_cons (f := V.ref), ← List.map_cons (f := V.ref), List.getElem?_map, go]; rfl
      refine ⟨_, rfl, _, rfl, _, _, rfl, rfl, _, rfl, _, _, rfl, rfl, _, rfl, _, _, rfl, rfl, ⟨by omega, by omega⟩, ?_⟩
      have el : ((k : Int) - ((j : Int) + 2) + (1 + (i : Int))) / (1 + (i : Int)) = (((k - (j + 2)) / (i + 1) + 1 : Nat) : Int) := by
        rw [show ((k : Int) - ((j : Int) + 2) + (1 + (i : Int))) = ((k - (j + 2) + (i + 1) : Nat) : Int) by omega, show (1 + (i : Int)) = ((i + 1 : Nat) : Int) by omega, ← Int.natCast_ediv, Nat.add_div_right _ (by omega)]
      have hlast : (k - (j + 2)) / (i + 1) + 1 ≤ k := last_le (by omega) (by omega)
      have hlast2 : ((k - (j + 2)) / (i + 1)) * (i + 1) ≤ k - (j + 2) := Nat.div_mul_le_self _ _
      dsimp only
      rw [el]
      generalize hL : (k - (j + 2)) / (i + 1) + 1 = L at hlast ⊢
      have hL2 : ∀ z, z < L → (i + 1) * (z + 1) ≤ k - (j + 1 - i) ∧ 1 ≤ (i + 1) * (z + 1) := by
        intro z hz
        have hz' : z ≤ (k - (j + 2)) / (i + 1) := by omega
        have h5 := Nat.mul_le_mul_left (i + 1) hz'
        have e1 : (i + 1) * (z + 1) = (i + 1) * z + (i + 1) := Nat.mul_succ _ _
        have e2 : (i + 1) * ((k - (j + 2)) / (i + 1)) ≤ k - (j + 2) := Nat.mul_div_le _ _
        omega
      refine ⟨_, rfl, _, _, rfl, rfl, _, _, rfl, ⟨by omega, by omega, by omega, by omega⟩, fun Dn hD => ?_⟩
      rw [show ((L : Int) + 1 - 1).toNat = L by omega]
      refine lc_rangeM (lo := 1) (j := 8) (fun z => V.int (cs.getD (z + 1) 0 * hs cs (j + 1 - i) (k - (i + 1) * (z + 1)))) (by omega) hD (fun z hz H2 s2 R kk => ?_) (fun H2 s2 h2 => ?_)
      · have S2 := S1.mono s2
        have h12 := s1.trans s2
        obtain ⟨z1, z2⟩ := hL2 z hz
        have zk : z + 1 < cs.length := by
          have h6 : z + 1 ≤ (i + 1) * (z + 1) := Nat.le_mul_of_pos_left _ (by omega)
          have h7 : k - (j + 1 - i) ≤ k := Nat.sub_le _ _
          generalize (i + 1) * (z + 1) = y at z1 z2 h6
          omega
        have b1 := hsm.get (z + 1)
        have b2 := hs_le hsm (j + 1 - i) (k - (i + 1) * (z + 1)) (by omega)
        refine ⟨_, rfl, p, _, dx, _, _, rfl, S2.hp, T.cl_Members, T.f_counts, l_counts, _, rfl, c, _, _, _, rfl, rfl, h12.seq hc, atI_of (j := z + 1) (by omega) (getD_at zk), ?_⟩
        refine ⟨_, rfl, _, rfl, _, rfl, _, rfl, _, _, rfl, rfl, ?_, _, _, rfl, rfl, o, _, _, .int (hs cs (j + 1 - i) (k - (i + 1) * (z + 1))), rfl, rfl, h12.seq hol, atI_of (j := k - (i + 1) * (z + 1)) ?_ ?_, _, _, rfl, rfl, ?_, kk H2 (.refl H2)⟩
        · rw [show (1 + (i : Int)) = ((i + 1 : Nat) : Int) by omega, show (1 + (z : Int)) = ((z + 1 : Nat) : Int) by omega]
          exact wide_mul (a := 10) (b := 10) (by rw [Int.natAbs_natCast]; omega) (by rw [Int.natAbs_natCast]; omega) (by decide) (by decide) (by decide)
        · show (k : Int) - (1 + (i : Int)) * (1 + (z : Int)) = _
          rw [show (1 + (i : Int)) = ((i + 1 : Nat) : Int) by omega, show (1 + (z : Int)) = ((z + 1 : Nat) : Int) by omega, ← Int.natCast_mul]
          omega
        · rw [List.getElem?_map, hget _ (by omega)]; rfl
        · exact wide_mul (nb b1.1 b1.2) (nb b2.1 b2.2) (by omega) (by omega) (by omega)
      · refine ⟨Dn, (List.range L).map fun z : Nat => cs.getD (z + 1) 0 * hs cs (j + 1 - i) (k - (i + 1) * (z + 1)), rfl, sq_of ?_, ?_⟩
        · rw [h2, List.map_map]; rfl
        have S2 := S1.mono s2
        refine ⟨_, rfl, p, _, dx, _, _, rfl, S2.hp, T.cl_Members, T.f_mode, l_mode, rfl, _, rfl, ?_⟩
        have em : decide (V.str md = V.str "rigid") = false := decide_eq_false fun z => hmd (V.str.inj z)
        rw [em]
        refine iteF (iteF ?_)
        have es : ((List.range (i + 1)).map fun i : Nat => ((List.range ((k - (j + 2)) / (i + 1) + 1)).map fun z : Nat => cs.getD (z + 1) 0 * hs cs (j + 1 - i) (k - (i + 1) * (z + 1))).sum).sum =
            ((List.range i).map fun i : Nat => ((List.range ((k - (j + 2)) / (i + 1) + 1)).map fun z : Nat => cs.getD (z + 1) 0 * hs cs (j + 1 - i) (k - (i + 1) * (z + 1))).sum).sum + ((List.range L).map fun z : Nat => cs.getD (z + 1) 0 * hs cs (j + 1 - i) (k - (i + 1) * (z + 1))).sum := by
          rw [List.range_succ, List.map_append, List.sum_append, ← hL]
          simp only [List.map_cons, List.map_nil, List.sum_cons, List.sum_nil, Int.add_zero]
        refine ⟨_, rfl, _, rfl, _, _, rfl, rfl, some (.int (1 + i)), some (.ref o), some (.int L), some (.int ((List.range L).map fun z : Nat => cs.getD (z + 1) 0 * hs cs (j + 1 - i) (k - (i + 1) * (z + 1))).sum), ?_, s1.trans s2⟩
        rw [es]
        rfl
    · rintro σ H1 ⟨y4, y5, y6, y7, rfl, s1⟩
      refine ⟨_, rfl, _, rfl, _, _, rfl, rfl, ⟨by omega, by omega⟩, ?_⟩
      have := q H1 s1
      rw [hs_2 (by omega)] at this
      exact this
end
end SM

namespace SM
open PySem L2
/-! ### the numbers of rows -/
def lim : Option Int → Nat → Nat
  | none, s => s
  | some i, s => min s i.toNat
def nl (m : Option Int) (k : Nat) : Nat := lim m (k - 1) - 1
def rsT (wd md : Str) (cs : List Int) (n k : Nat) : List (List Int) := (List.range n).map fun j => rowT wd md cs (j + 2) k
/-- the rows within grow: the first i are told -/
def rsAt (wd md : Str) (cs : List Int) (n k i : Nat) : List (List Int) := (List.range n).map fun j => if j < i then rowT wd md cs (j + 2) (k + 1) else rowT wd md cs (j + 2) k
section
variable {wd md : Str} {cs : List Int}
theorem rsAt_len {n k i : Nat} : (rsAt wd md cs n k i).length = n := by
  unfold rsAt
  rw [List.length_map, List.length_range]
theorem rsAt_get {n k i j : Nat} (h : j < n) : (rsAt wd md cs n k i)[j]? = some (if j < i then rowT wd md cs (j + 2) (k + 1) else rowT wd md cs (j + 2) k) := by
  unfold rsAt
  rw [List.getElem?_map, List.getElem?_range h]; rfl
theorem rsAt_more {n k i : Nat} (hi : i ≤ n) (hk : k ≤ n + 2) : rsAt wd md cs n k i ++ [List.replicate k 0] = rsAt wd md cs (n + 1) k i := by
  unfold rsAt
  rw [List.range_succ, List.map_append, List.map_singleton, if_neg (by omega), rowT_zero hk]
theorem rsAt_set {n k i : Nat} : (rsAt wd md cs n k i).set i (rowT wd md cs (i + 2) k ++ [tg wd md cs (i + 2) k]) = rsAt wd md cs n k (i + 1) := by
  apply List.ext_getElem?
  intro j
  by_cases hj : j < n
  · by_cases e : j = i
    · subst e
      rw [List.getElem?_set_self (by rw [rsAt_len]; exact hj), rsAt_get hj, if_pos (Nat.lt_succ_self _), rowT_succ]
    · rw [List.getElem?_set_ne (Ne.symm e), rsAt_get hj, rsAt_get hj]
      by_cases h1 : j < i
      · rw [if_pos h1, if_pos (by omega)]
      · rw [if_neg h1, if_neg (by omega)]
  · rw [List.getElem?_eq_none (by rw [List.length_set, rsAt_len]; omega), List.getElem?_eq_none (by rw [rsAt_len]; omega)]
theorem rsAt_0 {n k : Nat} : rsAt wd md cs n k 0 = rsT wd md cs n k := by
  unfold rsAt rsT
  refine List.map_congr_left fun j _ => ?_
  rw [if_neg (Nat.not_lt_zero _)]
theorem rsAt_all {n k i : Nat} (h : n ≤ i) : rsAt wd md cs n k i = rsT wd md cs n (k + 1) := by
  unfold rsAt rsT
  refine List.map_congr_left fun j hj => ?_
  have := List.mem_range.mp hj
  rw [if_pos (by omega)]
end
section
variable {P : Program} {w : World} {K : PySem.W.Frag} {mg : Str → Option Value} {base : Heap} {W : Ad}
theorem ite_tC {c : Prop} [Decidable c] {Q : VK} {a b v : V} {σ : St} {H : Hp} (e1 : c → a = v) (e2 : ¬ c → b = v) (h : Q v H) : if c then tC a σ H Q else tC b σ H Q := by
  by_cases hc : c
  · rw [if_pos hc, e1 hc]; exact h
  · rw [if_neg hc, e2 hc]; exact h
theorem rd_limit {C : Addr} {σ : St} {H : Hp} {Q : VK} {p dx t c : Addr} {wd md : Str} {m : Option Int} {k : Nat} (cl : Cls K C) (fm : NoAttr K C "most") (h0 : σ[0]? = some (some (.ref p))) (h1 : σ[1]? = some (some (.int k)))
    (hp : H p = some (.ins C dx (flds wd m c md t))) (hm : ∀ i, m = some i → 0 ≤ i) (q : Q (.int (lim m k : Nat)) H) :
    tIf (tB (tIsN (tFld K (tVar 0) "most"))) (tVar 1) (tCB (fun xs H Q => ∃ i j, xs = [.int i, .int j] ∧ Q (.int (if j < i then j else i)) H) (tCons (tVar 1) (tCons (tFld K (tVar 0) "most") tNil))) σ H Q := by
  cases m with
  | none => exact ⟨_, h0, p, C, dx, _, _, rfl, hp, cl, fm, l_most, true, rfl, iteT ⟨_, h1, q⟩⟩
  | some i =>
    have hi := hm i rfl
    refine ⟨_, h0, p, C, dx, _, _, rfl, hp, cl, fm, l_most, false, rfl, iteF ⟨_, h1, _, h0, p, C, dx, _, _, rfl, hp, cl, fm, l_most, _, _, rfl, ?_⟩⟩
    have e : (if i < (k : Int) then i else (k : Int)) = ((lim (some i) k : Nat) : Int) := by
      rw [show lim (some i) k = min k i.toNat from rfl]
      split <;> omega
    rw [e]
    exact q
/-- the test for sets without labels -/
theorem rd_unl {C : Addr} {σ : St} {H : Hp} {Q : Bool → Hp → Prop} {p dx t c : Addr} {wd md : Str} {m : Option Int} (cl : Cls K C) (fw : NoAttr K C "word") (fm : NoAttr K C "mode") (h0 : σ[0]? = some (some (.ref p)))
    (hp : H p = some (.ins C dx (flds wd m c md t))) (q : Q (unl wd md) H) :
    tAnd (tTest (tOp rEq (tFld K (tVar 0) "word") (tC (.str "set")))) (tTest (tOp rNe (tFld K (tVar 0) "mode") (tC (.str "labelled")))) σ H Q := by
  unfold unl at q
  have e1 : ∀ a b : Str, decide (V.str a = V.str b) = decide (a = b) := fun a b => by
    by_cases h : a = b
    · rw [h]; simp
    · rw [decide_eq_false h, decide_eq_false (fun z => h (V.str.inj z))]
  refine ⟨_, h0, p, C, dx, _, _, rfl, hp, cl, fw, l_word, rfl, _, rfl, ?_⟩
  rw [e1]
  by_cases h : wd = "set"
  · rw [decide_eq_true h] at q ⊢
    refine iteT ⟨_, h0, p, C, dx, _, _, rfl, hp, cl, fm, l_mode, rfl, _, rfl, ?_⟩
    rw [e1]
    exact q
  · rw [decide_eq_false h] at q ⊢
    exact iteF q
/-! ### Members.grow -/
def spGrow (K : PySem.W.Frag) (C : Addr) : Sp := fun vs H Q _ => ∃ (H0 : Hp) (p dx t l0 c : Addr) (ls : List Addr) (wd md : Str) (m : Option Int) (cs : List Int) (k : Nat),
  vs = [.ref p] ∧ TabAt C H0 H p dx t l0 c ls (rowT wd md cs 0 k) (rsT wd md cs (nl m k) k) wd m md ∧ SqL K H0 c (cs.map V.int) ∧ Bn cs ∧ k < cs.length ∧ cs.length ≤ 61 ∧ (∀ i, m = some i → 0 ≤ i) ∧
  md ≠ "rigid" ∧
  ∀ (ls' : List Addr) (H' : Hp), TabAt C H0 H' p dx t l0 c ls' (rowT wd md cs 0 (k + 1)) (rsT wd md cs (nl m (k + 1)) (k + 1)) wd m md → (∀ b o, H b = some o → b ∉ t :: l0 :: ls → H' b = some o) → Q .non H'
theorem ok_grow (T : Tx K mg W) (D : DfM K W.cMembers "grow" "Members.grow" s_Members_grow ["self"]) (C1 : CalM P w K mg base CX0 2 W.cMembers "shared_counts" ["self", "size"] (spShared K W.cMembers))
    (C2 : CalM P w K mg base CX0 1 W.cMembers "next_rows" ["self", "shared", "members", "size"] (spNextRows K W.cMembers)) (C3 : CalM P w K mg base CX0 1 W.cMembers "next_sets" ["self", "members", "size"] (spNextSets K W.cMembers)) :
    CalM P w K mg base CX0 3 W.cMembers "grow" ["self"] (spGrow K W.cMembers) := by
  obtain ⟨f, fd, mt, F, b⟩ := D
  obtain ⟨f1, fd1, M_Members_shared_counts, B_Members_shared_counts, G_Members_shared_counts⟩ := C1.ex
  obtain ⟨f2, fd2, M_Members_next_rows, B_Members_next_rows, G_Members_next_rows⟩ := C2.ex
  obtain ⟨f3, fd3, M_Members_next_sets, B_Members_next_sets, G_Members_next_sets⟩ := C3.ex
  refine ⟨f, fd, mt, b, F.ok sc_Members_grow (fun vs H Q E h => ?_) (fun cdv A outer s H vs Q E hr h => ?_)⟩
  · obtain ⟨_, _, _, _, _, _, _, _, _, _, _, _, rfl, _⟩ := h
    rfl
  · obtain ⟨H0, p, dx, t, l0, c, ls, wd, md, m, cs, k, rfl, S, hc0, hsm, hk, hcl, hm, hmd, q⟩ := h
    refine ⟨_, (pss_cons (ps_set (i := 1) sc_Members_grow.nd rfl (.inl rfl) (pe_callB call_len_seq (by rfl) T.n_len (by decide +kernel) (pa_cons (pe_ix ix_list (pe_fld (pv 0) rfl) pe_int (fun _ _ => rfl)) pa_nil)))
  (pss_cons (ps_expr (pe_bm PySem.F.plainAttrs_list PySem.F.slot_list_append PySem.F.type_list_append mt_append (pe_ix ix_list (pe_fld (pv 0) rfl) pe_int (fun _ _ => rfl)) (pa_cons (pe_ifExp (pt_cmpR op_eq (pv 1) pe_int (nomark _)) pe_int pe_int) pa_nil)))
  (pss_cons (ps_set (i := 2) sc_Members_grow.nd rfl (.inl rfl) (pe_ifExp (pt_cmp (pc_isN (pe_fld (pv 0) rfl)) rfl) (pv 1) (pe_callB (call_min2 rfl) (by rfl) T.n_min (by decide +kernel) (pa_cons (pv 1) (pa_cons (pe_fld (pv 0) rfl) pa_nil)))))
  (pss_cons (ps_set (i := 3) sc_Members_grow.nd rfl (.inl rfl) (pe_meth (pv 0) T.cl_Members M_Members_shared_counts G_Members_shared_counts (hr.mono (by decide)) B_Members_shared_counts .nil pass0 (pa_cons (pv 1) pa_nil)))
  (pss_one (ps_for PassesOwn.never rfl (pi_range2 (by rfl) T.n_range (pa_cons pe_int (pa_cons (pe_op op_add (pv 2) pe_int) pa_nil))) (pg_name (i := 4) sc_Members_grow.nd rfl (.inl rfl)) (
    (pss_cons (ps_if (pt_cmpR op_eq (pv 4) (pe_callB call_len_seq (by rfl) T.n_len (by decide +kernel) (pa_cons (pe_fld (pv 0) rfl) pa_nil)) (nomark _)) (
      (pss_one (ps_expr (pe_bm PySem.F.plainAttrs_list PySem.F.slot_list_append PySem.F.type_list_append mt_append (pe_fld (pv 0) rfl) (pa_cons (pe_op op_rep (pe_lst (pa_cons pe_int pa_nil)) (pv 1)) pa_nil))))) (pss_nil))
    (pss_one (ps_if (PW.pt (pw_and (pt_cmpR op_eq (pe_fld (pv 0) rfl) pe_str (nomark _)) (pw_and1 (pt_cmpR op_ne (pe_fld (pv 0) rfl) (pe_glob (by rfl) T.g_LABELLED T.r_LABELLED) (nomark _))))) (
      (pss_one (ps_expr (pe_bm PySem.F.plainAttrs_list PySem.F.slot_list_append PySem.F.type_list_append mt_append (pe_ix ix_list (pe_fld (pv 0) rfl) (pv 4) (fun _ _ => rfl)) (pa_cons (pe_meth (pv 0) T.cl_Members M_Members_next_sets G_Members_next_sets (hr.mono (by decide)) B_Members_next_sets .nil pass0 (pa_cons (pv 4) (pa_cons (pv 1) pa_nil))) pa_nil))))) (
      (pss_one (ps_expr (pe_bm PySem.F.plainAttrs_list PySem.F.slot_list_append PySem.F.type_list_append mt_append (pe_ix ix_list (pe_fld (pv 0) rfl) (pv 4) (fun _ _ => rfl)) (pa_cons (pe_meth (pv 0) T.cl_Members M_Members_next_rows G_Members_next_rows (hr.mono (by decide)) B_Members_next_rows .nil pass0 (pa_cons (pv 3) (pa_cons (pv 4) (pa_cons (pv 1) pa_nil)))) pa_nil))))))))))))))), ?_⟩
    -- size = len(self.table[0])
    refine ⟨_, rfl, p, _, dx, _, _, rfl, S.hp, T.cl_Members, T.f_table, l_table, t, _, _, .ref l0, rfl, rfl, sq_of S.ht, atI_nat (j := 0) rfl, l0, _, rfl, .inl (sq_of S.h0), ?_⟩
    have ek : (((rowT wd md cs 0 k).map V.int).length : Int) = k := by rw [List.length_map, rowT_len]
    rw [ek]
    -- self.table[0].append(..)
    refine ⟨_, rfl, p, _, dx, _, _, rfl, S.hp, T.cl_Members, T.f_table, l_table, t, _, _, .ref l0, rfl, rfl, sq_of S.ht, atI_nat (j := 0) rfl, .inl ⟨rfl, _, sq_of S.h0⟩, _, rfl, rfl, _, rfl, ?_⟩
    refine ite_tC (v := .int (tg wd md cs 0 k)) (fun e => ?_) (fun e => ?_) ?_
    · have : (k : Int) = 0 := V.int.inj (of_decide_eq_true e)
      rw [tg_0, if_pos (by omega)]
    · have : ¬ k = 0 := fun z => e (decide_eq_true (by rw [z]; rfl))
      rw [tg_0, if_neg this]
    refine ⟨l0, _, _, rfl, rfl, S.h0, szl _ (by rw [List.length_map, rowT_len]; omega), ?_⟩
    have S1 := S.app0 (tg wd md cs 0 k)
    rw [← rowT_succ] at S1
    generalize hH1 : upd H l0 (.lst ((rowT wd md cs 0 k).map V.int ++ [.int (tg wd md cs 0 k)])) = H1 at S1 ⊢
    have fr1 : ∀ b o, H b = some o → b ∉ t :: l0 :: ls → H1 b = some o := fun b o hb nb => by
      rw [← hH1, upd_ne (fun e => nb (by simp [e]))]
      exact hb
    -- limit
    refine rd_limit T.cl_Members T.f_most rfl rfl S1.hp hm ?_
    -- shared = ..
    refine ⟨_, rfl, p, dx, _, rfl, S1.hp, l_no (by decide +kernel) (by decide +kernel) (by decide +kernel) (by decide +kernel) (by decide +kernel), _, rfl, H0, p, dx, t, l0, c, ls, _, _, wd, md, m, cs, k, rfl, S1, S1.sm.seq hc0, hsm, by omega, by omega, fun sh H2 s2 nsh hsh => ?_⟩
    have S2 := S1.mono s2
    have fr2 : ∀ b o, H b = some o → b ∉ t :: l0 :: ls → H2 b = some o := fun b o hb nb => s2 _ _ (fr1 b o hb nb)
    have hshr : sh ∉ t :: l0 :: ls := fun hm => by
      simp only [List.mem_cons] at hm
      rcases hm with e | e | e
      · rw [e, S1.ht] at nsh; cases nsh
      · rw [e, S1.h0] at nsh; cases nsh
      · obtain ⟨j, hj, ej⟩ := List.mem_iff_getElem.mp e
        have g1 : ls[j]? = some sh := by rw [List.getElem?_eq_getElem hj, ej]
        have g2 := List.getElem?_eq_getElem (l := rsT wd md cs (nl m k) k) (i := j) (by rw [← S1.hl]; exact hj)
        rw [S1.hr j sh _ g1 g2] at nsh; cases nsh
    -- for members in range(2, limit + 1)
    have hlim : lim m k ≤ k := by
      cases m with
      | none => exact Nat.le_refl _
      | some i => exact Nat.min_le_left _ _
    refine ⟨_, rfl, _, _, rfl, rfl, _, _, rfl, ⟨by omega, by omega, by omega, by omega⟩, ?_⟩
    have en : ((lim m k : Int) + 1 - 2).toNat = nl m (k + 1) := by
      unfold nl
      rw [Nat.add_sub_cancel]
      omega
    rw [en]
    have hab : nl m k ≤ nl m (k + 1) := by
      unfold nl
      cases m with
      | none => show k - 1 - 1 ≤ k - 1; omega
      | some i => show min (k - 1) i.toNat - 1 ≤ min k i.toNat - 1; omega
    have hz : ∀ i, i < nl m (k + 1) → nl m k ≤ i → k ≤ i + 2 ∧ i + 2 ≤ k := by
      intro i h1 h2
      unfold nl at h1 h2
      cases m with
      | none =>
        have h1 : i < k - 1 := h1
        have h2 : k - 1 - 1 ≤ i := h2
        omega
      | some qq =>
        have h1 : i < min k qq.toNat - 1 := h1
        have h2 : min (k - 1) qq.toNat - 1 ≤ i := h2
        omega
    have hik : ∀ i, i < nl m (k + 1) → i + 2 ≤ k := by
      intro i h1
      unfold nl at h1
      rw [Nat.add_sub_cancel] at h1
      omega
    refine for_range (lo := 2) (fun i σ H' => ∃ (y4 : Option V) (ls2 : List Addr), σ = [some (.ref p), some (.int k), some (.int (lim m k : Nat)), some (.ref sh), y4] ∧
      TabAt W.cMembers H0 H' p dx t l0 c ls2 (rowT wd md cs 0 (k + 1)) (rsAt wd md cs (max (nl m k) i) k i) wd m md ∧ H' sh = some (.lst ((shl md cs k).map V.int)) ∧ sh ∉ t :: l0 :: ls2 ∧
      (∀ l ∈ ls2, l ∈ ls ∨ H l = none) ∧ (∀ l ∈ ls, l ∈ ls2) ∧ (∀ b o, H b = some o → b ∉ t :: l0 :: ls → H' b = some o)) ⟨none, ls, rfl, ?_, hsh, hshr, fun l hl => .inl hl, fun l hl => hl, fr2⟩ ?_ ?_
    · rw [rsAt_0, Nat.max_eq_left (Nat.zero_le _)]
      exact S2
    · rintro i σ H3 hi ⟨y4, ls2, rfl, S3, h3, nsh3, new3, sub3, fr3⟩
      have hi2 := hik i hi
      -- the rest of the turn, once the row is there
      have rest : ∀ (ls3 : List Addr) (H4 : Hp), TabAt W.cMembers H0 H4 p dx t l0 c ls3 (rowT wd md cs 0 (k + 1)) (rsAt wd md cs (max (nl m k) (i + 1)) k i) wd m md → H4 sh = some (.lst ((shl md cs k).map V.int)) → sh ∉ t :: l0 :: ls3 →
          (∀ l ∈ ls3, l ∈ ls ∨ H l = none) → (∀ b o, H b = some o → b ∉ t :: l0 :: ls → H4 b = some o) →
          ∃ (l : Addr) (r : List Int), ls3[i]? = some l ∧ H4 l = some (.lst (r.map V.int)) ∧ r.length = k ∧
            (∀ i', i' < i + 2 → ∃ (o : Addr) (ol : List Int), (l0 :: c :: ls3)[i']? = some o ∧ SqL K H4 o (ol.map V.int) ∧ ∀ n, n < k → ol[n]? = some (tg wd md cs i' n)) ∧
            ∀ H5, Same H4 H5 → (TabAt W.cMembers H0 (upd H5 l (.lst (r.map V.int ++ [.int (tg wd md cs (i + 2) k)]))) p dx t l0 c ls3 (rowT wd md cs 0 (k + 1)) (rsAt wd md cs (max (nl m k) (i + 1)) k (i + 1)) wd m md ∧
              (upd H5 l (.lst (r.map V.int ++ [.int (tg wd md cs (i + 2) k)]))) sh = some (.lst ((shl md cs k).map V.int)) ∧ (∀ b o, H b = some o → b ∉ t :: l0 :: ls → (upd H5 l (.lst (r.map V.int ++ [.int (tg wd md cs (i + 2) k)]))) b = some o)) := by
        intro ls3 H4 S4 h4 nsh4 new4 fr4
        have hlen : ls3.length = max (nl m k) (i + 1) := by rw [S4.hl, rsAt_len]
        have hil : i < ls3.length := by omega
        have gl : ls3[i]? = some ls3[i] := List.getElem?_eq_getElem hil
        have gr : (rsAt wd md cs (max (nl m k) (i + 1)) k i)[i]? = some (rowT wd md cs (i + 2) k) := by
          rw [rsAt_get (by omega), if_neg (Nat.lt_irrefl _)]
        have goal1 : ∀ H5, Same H4 H5 → (TabAt W.cMembers H0 (upd H5 ls3[i] (.lst ((rowT wd md cs (i + 2) k).map V.int ++ [.int (tg wd md cs (i + 2) k)]))) p dx t l0 c ls3 (rowT wd md cs 0 (k + 1)) (rsAt wd md cs (max (nl m k) (i + 1)) k (i + 1)) wd m md ∧
              (upd H5 ls3[i] (.lst ((rowT wd md cs (i + 2) k).map V.int ++ [.int (tg wd md cs (i + 2) k)]))) sh = some (.lst ((shl md cs k).map V.int)) ∧ (∀ b o, H b = some o → b ∉ t :: l0 :: ls → (upd H5 ls3[i] (.lst ((rowT wd md cs (i + 2) k).map V.int ++ [.int (tg wd md cs (i + 2) k)]))) b = some o)) := by
          intro H5 s5
          have S5 := (S4.mono s5).appL (tg wd md cs (i + 2) k) gl gr
          rw [rsAt_set] at S5
          have hmem : ls3[i] ∈ ls3 := List.getElem_mem hil
          refine ⟨S5, ?_, fun b o hb nb => ?_⟩
          · rw [upd_ne (fun e => nsh4 (by rw [e]; simp [hmem]))]
            exact s5 _ _ h4
          · have : b ≠ ls3[i] := fun e => by
              rcases new4 _ hmem with h | h
              · exact nb (by rw [e]; simp [h])
              · rw [← e, hb] at h; cases h
            rw [upd_ne this]
            exact s5 _ _ (fr4 b o hb nb)
        refine ⟨_, _, gl, S4.hr _ _ _ gl gr, rowT_len _ _ _ _ _, fun i' hi' => ?_, goal1⟩
        match i', hi' with
        | 0, _ => exact ⟨l0, _, rfl, sq_of S4.h0, fun n hn => rowT_get (by omega)⟩
        | 1, _ =>
          refine ⟨c, cs, rfl, S4.sm.seq hc0, fun n hn => ?_⟩
          rw [List.getElem?_eq_getElem (by omega), tg_1, List.getD_eq_getElem?_getD, List.getElem?_eq_getElem (by omega)]; rfl
        | z + 2, hi' =>
          have gl' : ls3[z]? = some ls3[z] := List.getElem?_eq_getElem (by omega)
          have gr' : (rsAt wd md cs (max (nl m k) (i + 1)) k i)[z]? = some (rowT wd md cs (z + 2) (k + 1)) := by
            rw [rsAt_get (by omega), if_pos (by omega)]
          exact ⟨ls3[z], _, gl', sq_of (S4.hr _ _ _ gl' gr'), fun n hn => rowT_get (by omega)⟩
      -- if members == len(self.table)
      refine ⟨_, rfl, _, rfl, p, _, dx, _, _, rfl, S3.hp, T.cl_Members, T.f_table, l_table, t, _, rfl, .inl (sq_of S3.ht), rfl, _, rfl, ?_⟩
      have hl3 : ls2.length = max (nl m k) i := by rw [S3.hl, rsAt_len]
      have elen : (((V.ref l0 :: V.ref c :: ls2.map V.ref).length : Nat) : Int) = (ls2.length : Int) + 2 := by
        simp only [List.length_cons, List.length_map]
        omega
      refine ite2 (fun e => ?_) (fun e => ?_)
      · have e' : (2 : Int) + i = (ls2.length : Int) + 2 := elen ▸ V.int.inj (of_decide_eq_true e)
        have ea : nl m k ≤ i := by omega
        obtain ⟨hz1, hz2⟩ := hz i hi ea
        refine ⟨_, rfl, p, _, dx, _, _, rfl, S3.hp, T.cl_Members, T.f_table, l_table, .inl ⟨rfl, _, sq_of S3.ht⟩, sz _ (by show 1 ≤ 100000; decide), fun z0 nz0 => ⟨_, rfl, z0, k, _, rfl, rfl, upd_same, by omega, by omega, sz _ (by simp; omega), fun n nn => ?_⟩⟩
        have s4 : Same H3 (upd H3 z0 (.lst [.int 0])) := same_upd nz0
        have s5 := s4.trans (same_upd (o := HO.lst (List.replicate (k : Int).toNat [V.int 0]).flatten) nn)
        have S5 := S3.mono s5
        have nn3 : H3 n = none := s4.free nn
        have rep : (List.replicate (k : Int).toNat [V.int 0]).flatten = (List.replicate k (0 : Int)).map V.int := by
          rw [Int.toNat_natCast, List.map_replicate]
          induction k with
          | zero => rfl
          | succ j ih => simp [List.replicate_succ]
        have nreg : n ∉ p :: t :: l0 :: ls2 := fun hm => by
          simp only [List.mem_cons] at hm
          rcases hm with e | e | e | e
          · rw [e, S3.hp] at nn3; cases nn3
          · rw [e, S3.ht] at nn3; cases nn3
          · rw [e, S3.h0] at nn3; cases nn3
          · obtain ⟨j, hj, ej⟩ := List.mem_iff_getElem.mp e
            have g1 : ls2[j]? = some n := by rw [List.getElem?_eq_getElem hj, ej]
            have g2 := List.getElem?_eq_getElem (l := rsAt wd md cs (max (nl m k) i) k i) (i := j) (by rw [← S3.hl]; exact hj)
            rw [S3.hr j n _ g1 g2] at nn3; cases nn3
        refine ⟨t, _, _, rfl, rfl, S5.ht, szl _ (by simp; omega), ?_⟩
        have S4 := S5.appT (n := n) (r := List.replicate k 0) (by rw [upd_same, rep]) nreg (S3.sm.free nn3)
        have hmx : max (nl m k) i = i := Nat.max_eq_right ea
        rw [hmx, rsAt_more (Nat.le_refl _) hz1] at S4
        have hmx' : max (nl m k) (i + 1) = i + 1 := Nat.max_eq_right (by omega)
        rw [← hmx'] at S4
        have nsn : sh ≠ n := fun e => by rw [e] at h3; rw [h3] at nn3; cases nn3
        have nst : sh ≠ t := fun e => nsh3 (by simp [e])
        have h4 : (upd (upd (upd H3 z0 (.lst [.int 0])) n (HO.lst (List.replicate (k : Int).toNat [V.int 0]).flatten)) t (HO.lst ((V.ref l0 :: V.ref c :: ls2.map V.ref) ++ [V.ref n]))) sh = some (.lst ((shl md cs k).map V.int)) := by
          rw [upd_ne nst]
          exact s5 _ _ h3
        have nHn : H n = none := by
          cases e1 : H n with
          | none => rfl
          | some o =>
            by_cases hb : n ∈ t :: l0 :: ls
            · simp only [List.mem_cons] at hb
              rcases hb with e2 | e2 | e2
              · exact absurd (by simp [e2]) nreg
              · exact absurd (by simp [e2]) nreg
              · exact absurd (e2 : n ∈ ls) fun e3 => by
                  -- the addresses of the older rows stay among the newer ones
                  exact nreg (by simp [sub3 n e3])
            · rw [fr3 n o e1 hb] at nn3; cases nn3
        have nsh4 : sh ∉ t :: l0 :: (ls2 ++ [n]) := fun hm => by
          simp only [List.mem_cons, List.mem_append, List.mem_nil_iff, or_false] at hm
          rcases hm with e | e | e | e
          · exact nsh3 (by simp [e])
          · exact nsh3 (by simp [e])
          · exact nsh3 (by simp [e])
          · exact nsn e
        have new4 : ∀ l ∈ ls2 ++ [n], l ∈ ls ∨ H l = none := fun l hl => by
          rcases List.mem_append.mp hl with h | h
          · exact new3 l h
          · simp at h
            rw [h]; exact .inr nHn
        have fr4 : ∀ b o, H b = some o → b ∉ t :: l0 :: ls → (upd (upd (upd H3 z0 (.lst [.int 0])) n (HO.lst (List.replicate (k : Int).toNat [V.int 0]).flatten)) t (HO.lst ((V.ref l0 :: V.ref c :: ls2.map V.ref) ++ [V.ref n]))) b = some o := fun b o hb nb => by
          rw [upd_ne (fun e => nb (by simp [e]))]
          exact s5 _ _ (fr3 b o hb nb)
        have sub4 : ∀ l ∈ ls, l ∈ ls2 ++ [n] := fun l hl => List.mem_append_left _ (sub3 l hl)
        generalize (upd (upd (upd H3 z0 (.lst [.int 0])) n (HO.lst (List.replicate (k : Int).toNat [V.int 0]).flatten)) t (HO.lst ((V.ref l0 :: V.ref c :: ls2.map V.ref) ++ [V.ref n]))) = H4 at S4 h4 fr4 ⊢
        generalize ls2 ++ [n] = ls3 at S4 nsh4 new4 sub4
        obtain ⟨l, r, gl, hl4, hrl, cells, fin⟩ := rest ls3 H4 S4 h4 nsh4 new4 fr4
        refine rd_unl T.cl_Members T.f_word T.f_mode rfl S4.hp ?_
        have gT : (V.ref l0 :: V.ref c :: ls3.map V.ref)[i + 2]? = some (V.ref l) := by
          rw [List.getElem?_cons_succ, List.getElem?_cons_succ, List.getElem?_map, gl]; rfl
        cases hu : unl wd md with
        | false =>
          refine iteF ?_
          obtain ⟨o, ol, go, hol, hget⟩ := cells (i + 1) (by omega)
          rw [List.getElem?_cons_succ] at go
          refine ⟨_, rfl, p, _, dx, _, _, rfl, S4.hp, T.cl_Members, T.f_table, l_table, _, rfl, t, _, _, .ref l, rfl, rfl, sq_of S4.ht, atI_of (j := i + 2) (by omega) gT, .inl ⟨rfl, _, sq_of hl4⟩, ?_⟩
          refine ⟨_, rfl, p, dx, _, rfl, S4.hp, l_no (by decide +kernel) (by decide +kernel) (by decide +kernel) (by decide +kernel) (by decide +kernel), _, rfl, _, rfl, _, rfl, H0, p, dx, t, l0, c, ls3, _, _, wd, md, m, cs, k, i, sh, o, ol, by rw [Int.add_comm 2]; rfl, S4, sq_of h4, hsm, by omega, hi2, go, hol, fun n hn => by rw [hget n hn, tg_t hu], fun H5 s5 => ?_⟩
          obtain ⟨f1, f2, f3⟩ := fin H5 s5
          rw [tg_t hu] at f1 f2 f3
          refine ⟨l, _, _, rfl, rfl, s5 _ _ hl4, szl _ (by rw [List.length_map, hrl]; omega), ?_⟩
          exact ⟨_, ls3, rfl, f1, f2, nsh4, new4, sub4, f3⟩
        | true =>
          refine iteT ?_
          refine ⟨_, rfl, p, _, dx, _, _, rfl, S4.hp, T.cl_Members, T.f_table, l_table, _, rfl, t, _, _, .ref l, rfl, rfl, sq_of S4.ht, atI_of (j := i + 2) (by omega) gT, .inl ⟨rfl, _, sq_of hl4⟩, ?_⟩
          refine ⟨_, rfl, p, dx, _, rfl, S4.hp, l_no (by decide +kernel) (by decide +kernel) (by decide +kernel) (by decide +kernel) (by decide +kernel), _, rfl, _, rfl, H0, p, dx, t, l0, c, ls3, _, _, wd, md, m, cs, k, i, by rw [Int.add_comm 2]; rfl, S4, hsm, by omega, hi2, hk, S4.sm.seq hc0, hmd, fun i' hi' => ?_, fun H5 s5 => ?_⟩
          · obtain ⟨o, ol, go, hol, hget⟩ := cells i' hi'
            exact ⟨o, ol, go, hol, fun n hn => by rw [hget n hn, tg_u hu]⟩
          obtain ⟨f1, f2, f3⟩ := fin H5 s5
          rw [tg_u hu] at f1 f2 f3
          refine ⟨l, _, _, rfl, rfl, s5 _ _ hl4, szl _ (by rw [List.length_map, hrl]; omega), ?_⟩
          exact ⟨_, ls3, rfl, f1, f2, nsh4, new4, sub4, f3⟩
      · have e' : ¬ (2 : Int) + i = (ls2.length : Int) + 2 := fun z => e (decide_eq_true (by rw [elen, z]))
        have ea : i < nl m k := by omega
        have S4 := S3
        rw [Nat.max_eq_left (by omega), ← Nat.max_eq_left (show i + 1 ≤ nl m k by omega)] at S4
        have h4 := h3
        have nsh4 := nsh3
        have new4 := new3
        have fr4 := fr3
        have sub4 := sub3
        generalize H3 = H4 at S4 h4 fr4 ⊢
        generalize ls2 = ls3 at S4 nsh4 new4 sub4
        obtain ⟨l, r, gl, hl4, hrl, cells, fin⟩ := rest ls3 H4 S4 h4 nsh4 new4 fr4
        refine rd_unl T.cl_Members T.f_word T.f_mode rfl S4.hp ?_
        have gT : (V.ref l0 :: V.ref c :: ls3.map V.ref)[i + 2]? = some (V.ref l) := by
          rw [List.getElem?_cons_succ, List.getElem?_cons_succ, List.getElem?_map, gl]; rfl
        cases hu : unl wd md with
        | false =>
          refine iteF ?_
          obtain ⟨o, ol, go, hol, hget⟩ := cells (i + 1) (by omega)
          rw [List.getElem?_cons_succ] at go
          refine ⟨_, rfl, p, _, dx, _, _, rfl, S4.hp, T.cl_Members, T.f_table, l_table, _, rfl, t, _, _, .ref l, rfl, rfl, sq_of S4.ht, atI_of (j := i + 2) (by omega) gT, .inl ⟨rfl, _, sq_of hl4⟩, ?_⟩
          refine ⟨_, rfl, p, dx, _, rfl, S4.hp, l_no (by decide +kernel) (by decide +kernel) (by decide +kernel) (by decide +kernel) (by decide +kernel), _, rfl, _, rfl, _, rfl, H0, p, dx, t, l0, c, ls3, _, _, wd, md, m, cs, k, i, sh, o, ol, by rw [Int.add_comm 2]; rfl, S4, sq_of h4, hsm, by omega, hi2, go, hol, fun n hn => by rw [hget n hn, tg_t hu], fun H5 s5 => ?_⟩
          obtain ⟨f1, f2, f3⟩ := fin H5 s5
          rw [tg_t hu] at f1 f2 f3
          refine ⟨l, _, _, rfl, rfl, s5 _ _ hl4, szl _ (by rw [List.length_map, hrl]; omega), ?_⟩
          exact ⟨_, ls3, rfl, f1, f2, nsh4, new4, sub4, f3⟩
        | true =>
          refine iteT ?_
          refine ⟨_, rfl, p, _, dx, _, _, rfl, S4.hp, T.cl_Members, T.f_table, l_table, _, rfl, t, _, _, .ref l, rfl, rfl, sq_of S4.ht, atI_of (j := i + 2) (by omega) gT, .inl ⟨rfl, _, sq_of hl4⟩, ?_⟩
          refine ⟨_, rfl, p, dx, _, rfl, S4.hp, l_no (by decide +kernel) (by decide +kernel) (by decide +kernel) (by decide +kernel) (by decide +kernel), _, rfl, _, rfl, H0, p, dx, t, l0, c, ls3, _, _, wd, md, m, cs, k, i, by rw [Int.add_comm 2]; rfl, S4, hsm, by omega, hi2, hk, S4.sm.seq hc0, hmd, fun i' hi' => ?_, fun H5 s5 => ?_⟩
          · obtain ⟨o, ol, go, hol, hget⟩ := cells i' hi'
            exact ⟨o, ol, go, hol, fun n hn => by rw [hget n hn, tg_u hu]⟩
          obtain ⟨f1, f2, f3⟩ := fin H5 s5
          rw [tg_u hu] at f1 f2 f3
          refine ⟨l, _, _, rfl, rfl, s5 _ _ hl4, szl _ (by rw [List.length_map, hrl]; omega), ?_⟩
          exact ⟨_, ls3, rfl, f1, f2, nsh4, new4, sub4, f3⟩
    · rintro σ H3 ⟨y4, ls2, rfl, S3, h3, nsh3, new3, sub3, fr3⟩
      rw [Nat.max_eq_right hab, rsAt_all (Nat.le_refl _)] at S3
      exact q ls2 H3 S3 fr3
end
end SM

namespace SM
open PySem L2
theorem dec_str (a b : Str) : decide (V.str a = V.str b) = decide (a = b) := by
  by_cases h : a = b
  · rw [h]; simp
  · rw [decide_eq_false h, decide_eq_false (fun z => h (V.str.inj z))]
theorem fdiv_one (v : Int) : v.fdiv 1 = v := by
  rw [Int.fdiv_eq_ediv_of_nonneg _ (by decide), Int.ediv_one]
theorem q_fdiv1 {R : VK} {v : Int} {H : Hp} (h : R (.int v) H) : R ((fun i j : Int => V.int (i.fdiv j)) v 1) H := by
  show R (.int (v.fdiv 1)) H
  rw [fdiv_one]
  exact h
section
variable {P : Program} {w : World} {K : PySem.W.Frag} {mg : Str → Option Value} {base : Heap} {W : Ad}
/-- a place of the table -/
def Cell (K : PySem.W.Frag) (H : Hp) (l0 c : Addr) (ls : List Addr) (j n : Nat) (v : Int) : Prop := ∃ (l : Addr) (ol : List Int), (l0 :: c :: ls)[j]? = some l ∧ SqL K H l (ol.map V.int) ∧ ol[n]? = some v
theorem Cell.mono {H H' : Hp} {l0 c : Addr} {ls : List Addr} {j n : Nat} {v : Int} (h : Cell K H l0 c ls j n v) (s : Same H H') : Cell K H' l0 c ls j n v := by
  obtain ⟨l, ol, a, b, d⟩ := h
  exact ⟨l, ol, a, s.seq b, d⟩
/-- self.table[a][b] -/
theorem rd_cell {C : Addr} {H0 H : Hp} {p dx t l0 c : Addr} {ls : List Addr} {r0 : List Int} {rs : List (List Int)} {wd md : Str} {m : Option Int} {j n : Nat} {v : Int} {σ : St} {Q : VK} {ta tb : TE}
    (S : TabAt C H0 H p dx t l0 c ls r0 rs wd m md) (cl : Cls K C) (ft : NoAttr K C "table") (hc : Cell K H l0 c ls j n v) (h0 : σ[0]? = some (some (.ref p)))
    (ha : ∀ R : VK, R (.int j) H → ta σ H R) (hb : ∀ R : VK, R (.int n) H → tb σ H R) (q : Q (.int v) H) :
    tOp (rIxL K) (tOp (rIxL K) (tFld K (tVar 0) "table") ta) tb σ H Q := by
  obtain ⟨l, ol, g1, g2, g3⟩ := hc
  refine ⟨_, h0, p, C, dx, _, _, rfl, S.hp, cl, ft, l_table, ha _ ⟨t, _, _, .ref l, rfl, rfl, sq_of S.ht, atI_nat (j := j) ?_, hb _ ⟨l, _, _, .int v, rfl, rfl, g2, atI_nat (j := n) ?_, q⟩⟩⟩
  · rw [← List.map_cons (f := V.ref), ← List.map_cons (f := V.ref), List.getElem?_map, g1]; rfl
  · rw [List.getElem?_map, g3]; rfl
/-! ### Members.rings -/
def ringL (j n : Nat) : List Nat := (List.range (Nat.gcd j n)).filter fun i => decide (Nat.gcd j n % (i + 1) = 0)
def ringV (g : Nat → Nat → Int) (j n : Nat) : Int := ((ringL j n).map fun i => phi (i + 1) * g (j / (i + 1)) (n / (i + 1))).sum / (j : Int)
theorem phi_le (n : Nat) : 0 ≤ phi n ∧ phi n ≤ n := by
  unfold phi
  have := List.length_filter_le (fun i => Nat.gcd (i + 1) n == 1) (List.range n)
  rw [List.length_range] at this
  omega
def spRings (K : PySem.W.Frag) (C : Addr) : Sp := fun vs H Q _ => ∃ (H0 : Hp) (p dx t l0 c : Addr) (ls : List Addr) (r0 : List Int) (rs : List (List Int)) (wd md : Str) (m : Option Int) (j n : Nat) (g : Nat → Nat → Int),
  vs = [.ref p, .int j, .int n] ∧ TabAt C H0 H p dx t l0 c ls r0 rs wd m md ∧ (∀ a b, a ≤ j → b ≤ n → Cell K H l0 c ls a b (g a b)) ∧ md ≠ "rigid" ∧ 1 ≤ j ∧ j ≤ 1000 ∧ n ≤ 1000 ∧ ∀ H', Same H H' → Q (.int (ringV g j n)) H'
theorem ok_rings0 (T : Tx K mg W) (D : DfM K W.cMembers "rings" "Members.rings" s_Members_rings ["self", "members", "size"]) (C1 : Cal P w K mg base CX0 1 "divisors" ["number"] spDivs)
    (C2 : Cal P w K mg base CX0 1 "totient" ["number"] spPhi) : CalM P w K mg base CX0 2 W.cMembers "rings" ["self", "members", "size"] (spRings K W.cMembers) := by
  obtain ⟨f, fd, mt, F, b⟩ := D
  obtain ⟨f1, fd1, g_divisors, k_divisors, b_divisors, G_divisors⟩ := C1.ex
  obtain ⟨f2, fd2, g_totient, k_totient, b_totient, G_totient⟩ := C2.ex
  refine ⟨f, fd, mt, b, F.ok sc_Members_rings (fun vs H Q E h => ?_) (fun cdv A outer s H vs Q E hr h => ?_)⟩
  · obtain ⟨_, _, _, _, _, _, _, _, _, _, _, _, _, _, _, rfl, _⟩ := h
    rfl
  · obtain ⟨H0, p, dx, t, l0, c, ls, r0, rs, wd, md, m, j, n, g, rfl, S, hc, hmd, hj1, hj, hn, q⟩ := h
    refine ⟨_, (pss_cons (ps_set (i := 3) sc_Members_rings.nd rfl (.inl rfl) pe_int)
  (pss_cons (ps_for PassesOwn.never rfl (pi_list (pe_call G_divisors (hr.mono (by decide)) (by rfl) g_divisors k_divisors b_divisors .nil pass0 (pa_cons (pe_callBfun cr_gcd (by rfl) T.m_gcd (pa_cons (pv 1) (pa_cons (pv 2) pa_nil))) pa_nil))) (pg_name (i := 4) sc_Members_rings.nd rfl (.inl rfl)) (
    (pss_cons (ps_set (i := 5) sc_Members_rings.nd rfl (.inl rfl) (pe_ifExp (pt_cmpR op_eq (pe_fld (pv 0) rfl) (pe_glob (by rfl) T.g_RIGID T.r_RIGID) (nomark _)) pe_never (pe_call G_totient (hr.mono (by decide)) (by rfl) g_totient k_totient b_totient .nil pass0 (pa_cons (pv 4) pa_nil))))
    (pss_one (ps_aug (i := 3) sc_Members_rings.nd rfl (.inl rfl) (pe_op op_mul (pv 5) (pe_ix ix_list (pe_ix ix_list (pe_fld (pv 0) rfl) (pe_op op_fdiv (pv 1) (pv 4)) (fun _ _ => rfl)) (pe_op op_fdiv (pv 2) (pv 4)) (fun _ _ => rfl))) ip_add)))))
  (pss_one (ps_ret (pe_op op_fdiv (pv 3) (pv 1)))))), ?_⟩
    have hgj : Nat.gcd j n ≤ j := Nat.le_of_dvd (by omega) (Nat.gcd_dvd_left j n)
    refine ⟨_, rfl, _, rfl, _, _, rfl, Nat.gcd j n, (by show [V.int ((Nat.gcd ((j : Int).natAbs) ((n : Int).natAbs) : Nat) : Int)] = _; rw [Int.natAbs_natCast, Int.natAbs_natCast]), by omega, fun pd H1 s1 nd hd => ?_⟩
    have hdl : (divs (Nat.gcd j n)).map V.int = (ringL j n).map fun i : Nat => V.int ((i : Int) + 1) := by
      unfold divs ringL
      rw [List.map_map]; rfl
    rw [hdl] at hd
    refine ⟨pd, rfl, ⟨_, sq_of hd⟩, for_list (K := K) (a := pd) (xs := (ringL j n).map fun i : Nat => V.int ((i : Int) + 1)) (fun i σ H' => ∃ y4 y5, σ = [some (.ref p), some (.int j), some (.int n), some (.int ((((ringL j n).take i).map fun i => phi (i + 1) * g (j / (i + 1)) (n / (i + 1))).sum)), y4, y5] ∧ Same H1 H') ⟨none, none, rfl, .refl _⟩ (fun i σ H' _ ⟨_, _, _, s⟩ => sq_of (s _ _ hd)) ?_ ?_⟩
    · rintro i x σ H' hi ⟨y4, y5, rfl, s2⟩
      obtain ⟨z, hz, rfl⟩ : ∃ z, (ringL j n)[i]? = some z ∧ x = V.int ((z : Int) + 1) := by
        rw [List.getElem?_map] at hi
        cases e : (ringL j n)[i]? with
        | none => rw [e] at hi; cases hi
        | some z => rw [e] at hi; exact ⟨z, rfl, (Option.some.inj hi).symm⟩
      have hzl : z < Nat.gcd j n := List.mem_range.mp (List.mem_filter.mp (List.mem_of_getElem? hz)).1
      have S2 := S.mono (s1.trans s2)
      refine ⟨_, rfl, p, _, dx, _, _, rfl, S2.hp, T.cl_Members, T.f_mode, l_mode, rfl, _, rfl, ?_⟩
      rw [dec_str, decide_eq_false hmd]
      refine iteF ⟨_, rfl, z + 1, rfl, by omega, fun H3 s3 => ?_⟩
      have S3 := S2.mono s3
      have hc3 := (hc (j / (z + 1)) (n / (z + 1)) (Nat.div_le_self _ _) (Nat.div_le_self _ _)).mono ((s1.trans s2).trans s3)
      refine ⟨_, rfl, _, rfl, ?_⟩
      refine rd_cell S3 T.cl_Members T.f_table hc3 rfl (j := j / (z + 1)) (n := n / (z + 1)) (fun R k => ⟨_, rfl, _, rfl, _, _, rfl, rfl, ⟨by omega, by omega⟩, k⟩) (fun R k => ⟨_, rfl, _, rfl, _, _, rfl, rfl, ⟨by omega, by omega⟩, k⟩) ?_
      have hp := phi_le (z + 1)
      refine ⟨_, _, rfl, rfl, .inl ⟨by omega, by omega⟩, _, _, rfl, rfl, some (.int ((z : Int) + 1)), some (.int (phi (z + 1))), ?_, (s2.trans s3)⟩
      rw [take_more hz, List.map_append, List.sum_append]
      simp only [List.map_cons, List.map_nil, List.sum_cons, List.sum_nil, Int.add_zero]
      rfl
    · rintro σ H' ⟨y4, y5, rfl, s2⟩
      rw [List.length_map, List.take_length]
      refine ⟨_, rfl, _, rfl, _, _, rfl, rfl, ⟨by omega, by omega⟩, ?_⟩
      exact q H' (s1.trans s2)
/-! ### Members.exactly -/
def fct (j : Nat) : Int := ((Builtin.Math.factorialNat j : Nat) : Int)
def exG (wd md : Str) (cs : List Int) (j n : Nat) : Int :=
  if wd = "row" ∨ unl wd md = true then tg wd md cs j n else if wd = "set" then tg wd md cs j n / fct j else if md = "labelled" then tg wd md cs j n / (j : Int) else ringV (fun a b => tg wd md cs a b) j n
def factOk : Bool := (List.range 62).all fun a => decide (0 < fct a) && decide ((fct a).natAbs.log2 < 9000)
theorem factOk_t : factOk = true := by decide +kernel
theorem fct_ok {a : Nat} (h : a ≤ 61) : CDivW 0 (fct a) := by
  have h0 := factOk_t
  unfold factOk at h0
  rw [List.all_eq_true] at h0
  have h1 := h0 a (List.mem_range.mpr (by omega))
  rw [Bool.and_eq_true, decide_eq_true_eq, decide_eq_true_eq] at h1
  exact h1
def spExactly (K : PySem.W.Frag) (C : Addr) : Sp := fun vs H Q _ => ∃ (H0 : Hp) (p dx t l0 c : Addr) (ls : List Addr) (r0 : List Int) (rs : List (List Int)) (wd md : Str) (m : Option Int) (cs : List Int) (j n : Nat),
  vs = [.ref p, .int j, .int n] ∧ TabAt C H0 H p dx t l0 c ls r0 rs wd m md ∧ (∀ a b, a ≤ j → b ≤ n → Cell K H l0 c ls a b (tg wd md cs a b)) ∧ md ≠ "rigid" ∧ n ≤ 61 ∧ j ≤ 61 ∧ (wd = "row" ∨ wd = "set" ∨ 1 ≤ j) ∧ ∀ H', Same H H' → Q (.int (exG wd md cs j n)) H'
theorem ok_exactly (T : Tx K mg W) (D : DfM K W.cMembers "exactly" "Members.exactly" s_Members_exactly ["self", "members", "size"])
    (C1 : CalM P w K mg base CX0 2 W.cMembers "rings" ["self", "members", "size"] (spRings K W.cMembers)) : CalM P w K mg base CX0 3 W.cMembers "exactly" ["self", "members", "size"] (spExactly K W.cMembers) := by
  obtain ⟨f, fd, mt, F, b⟩ := D
  obtain ⟨f1, fd1, M_Members_rings, B_Members_rings, G_Members_rings⟩ := C1.ex
  refine ⟨f, fd, mt, b, F.ok sc_Members_exactly (fun vs H Q E h => ?_) (fun cdv A outer s H vs Q E hr h => ?_)⟩
  · obtain ⟨_, _, _, _, _, _, _, _, _, _, _, _, _, _, _, rfl, _⟩ := h
    rfl
  · obtain ⟨H0, p, dx, t, l0, c, ls, r0, rs, wd, md, m, cs, j, n, rfl, S, hcell, hmd, hn, hj, hw, q⟩ := h
    have hc := hcell j n (Nat.le_refl _) (Nat.le_refl _)
    refine ⟨_, (pss_cons (ps_if (PW.pt (pw_or (pt_cmpR op_eq (pe_fld (pv 0) rfl) pe_str (nomark _)) (pw_or1 (PW.pt (pw_and (pt_cmpR op_eq (pe_fld (pv 0) rfl) pe_str (nomark _)) (pw_and1 (pt_cmpR op_ne (pe_fld (pv 0) rfl) (pe_glob (by rfl) T.g_LABELLED T.r_LABELLED) (nomark _)))))))) (
    (pss_one (ps_ret (pe_ix ix_list (pe_ix ix_list (pe_fld (pv 0) rfl) (pv 1) (fun _ _ => rfl)) (pv 2) (fun _ _ => rfl))))) (pss_nil))
  (pss_cons (ps_if (pt_cmpR op_eq (pe_fld (pv 0) rfl) pe_str (nomark _)) (
    (pss_one (ps_ret (pe_op op_fdivW (pe_ix ix_list (pe_ix ix_list (pe_fld (pv 0) rfl) (pv 1) (fun _ _ => rfl)) (pv 2) (fun _ _ => rfl)) (pe_callBfun cr_factorial (by rfl) T.m_factorial (pa_cons (pv 1) pa_nil)))))) (pss_nil))
  (pss_cons (ps_if (pt_cmpR op_eq (pe_fld (pv 0) rfl) (pe_glob (by rfl) T.g_LABELLED T.r_LABELLED) (nomark _)) (
    (pss_one (ps_ret (pe_op op_fdiv (pe_ix ix_list (pe_ix ix_list (pe_fld (pv 0) rfl) (pv 1) (fun _ _ => rfl)) (pv 2) (fun _ _ => rfl)) (pv 1))))) (pss_nil))
  (pss_one (ps_ret (pe_meth (pv 0) T.cl_Members M_Members_rings G_Members_rings (hr.mono (by decide)) B_Members_rings .nil pass0 (pa_cons (pv 1) (pa_cons (pv 2) pa_nil)))))))), ?_⟩
    refine ⟨_, rfl, p, _, dx, _, _, rfl, S.hp, T.cl_Members, T.f_word, l_word, rfl, _, rfl, ?_⟩
    rw [dec_str]
    by_cases h1 : wd = "row"
    · have q' := q H (.refl H)
      unfold exG at q'
      rw [if_pos (.inl h1)] at q'
      rw [decide_eq_true h1]
      refine iteT (iteT ?_)
      exact rd_cell S T.cl_Members T.f_table hc rfl (fun R k => ⟨_, rfl, k⟩) (fun R k => ⟨_, rfl, k⟩) q'
    · rw [decide_eq_false h1]
      refine iteF ?_
      refine rd_unl T.cl_Members T.f_word T.f_mode rfl S.hp ?_
      cases hu : unl wd md with
      | true =>
        have q' := q H (.refl H)
        unfold exG at q'
        rw [if_pos (.inr hu)] at q'
        refine iteT ?_
        exact rd_cell S T.cl_Members T.f_table hc rfl (fun R k => ⟨_, rfl, k⟩) (fun R k => ⟨_, rfl, k⟩) q'
      | false =>
        have hno : ¬ (wd = "row" ∨ unl wd md = true) := fun z => z.elim h1 (fun y => by rw [hu] at y; cases y)
        refine iteF ?_
        refine ⟨_, rfl, p, _, dx, _, _, rfl, S.hp, T.cl_Members, T.f_word, l_word, rfl, _, rfl, ?_⟩
        rw [dec_str]
        by_cases h2 : wd = "set"
        · have q' := q H (.refl H)
          unfold exG at q'
          rw [if_neg hno, if_pos h2] at q'
          rw [decide_eq_true h2]
          refine iteT ?_
          refine rd_cell S T.cl_Members T.f_table hc rfl (fun R k => ⟨_, rfl, k⟩) (fun R k => ⟨_, rfl, k⟩) ?_
          refine ⟨_, rfl, _, rfl, by omega, by omega, ⟨_, fct j, rfl, ?_, fct_ok hj, q'⟩⟩
          rw [Int.toNat_natCast]; rfl
        · rw [decide_eq_false h2]
          refine iteF ?_
          refine ⟨_, rfl, p, _, dx, _, _, rfl, S.hp, T.cl_Members, T.f_mode, l_mode, rfl, _, rfl, ?_⟩
          rw [dec_str]
          have hj1 : 1 ≤ j := (hw.resolve_left h1).resolve_left h2
          by_cases h3 : md = "labelled"
          · have q' := q H (.refl H)
            unfold exG at q'
            rw [if_neg hno, if_neg h2, if_pos h3] at q'
            rw [decide_eq_true h3]
            refine iteT ?_
            refine rd_cell S T.cl_Members T.f_table hc rfl (fun R k => ⟨_, rfl, k⟩) (fun R k => ⟨_, rfl, k⟩) ?_
            exact ⟨_, rfl, _, _, rfl, rfl, ⟨by omega, by omega⟩, q'⟩
          · rw [decide_eq_false h3]
            refine iteF ?_
            refine ⟨_, rfl, p, dx, _, rfl, S.hp, l_no (by decide +kernel) (by decide +kernel) (by decide +kernel) (by decide +kernel) (by decide +kernel), _, rfl, _, rfl, H0, p, dx, t, l0, c, ls, r0, rs, wd, md, m, j, n, fun a b => tg wd md cs a b, rfl, S, hcell, hmd, hj1, by omega, by omega, fun H' s' => ?_⟩
            have q' := q H' s'
            unfold exG at q'
            rw [if_neg hno, if_neg h2, if_neg h3] at q'
            exact q'
/-! ### Members.within -/
def spWithin (K : PySem.W.Frag) (C : Addr) : Sp := fun vs H Q _ => ∃ (H0 : Hp) (p dx t l0 c : Addr) (ls : List Addr) (r0 : List Int) (rs : List (List Int)) (wd md : Str) (m : Option Int) (cs : List Int) (lo n : Nat),
  vs = [.ref p, .int lo, oV m, .int n] ∧ TabAt C H0 H p dx t l0 c ls r0 rs wd m md ∧ md ≠ "rigid" ∧ n ≤ 61 ∧ lo ≤ 1000 ∧ (∀ i, m = some i → 0 ≤ i) ∧ (wd = "row" ∨ wd = "set" ∨ 1 ≤ lo) ∧
  (∀ a b, a ≤ lim m (max n 1) → b ≤ n → Cell K H l0 c ls a b (tg wd md cs a b)) ∧
  ∀ H', Same H H' → Q (.int ((List.range (lim m (max n 1) + 1 - lo)).map fun i => exG wd md cs (lo + i) n).sum) H'
theorem ok_within (T : Tx K mg W) (D : DfM K W.cMembers "within" "Members.within" s_Members_within ["self", "least", "most", "size"])
    (C1 : CalM P w K mg base CX0 3 W.cMembers "exactly" ["self", "members", "size"] (spExactly K W.cMembers)) : CalM P w K mg base CX0 4 W.cMembers "within" ["self", "least", "most", "size"] (spWithin K W.cMembers) := by
  obtain ⟨f, fd, mt, F, b⟩ := D
  obtain ⟨f1, fd1, M_Members_exactly, B_Members_exactly, G_Members_exactly⟩ := C1.ex
  refine ⟨f, fd, mt, b, F.ok sc_Members_within (fun vs H Q E h => ?_) (fun cdv A outer s H vs Q E hr h => ?_)⟩
  · obtain ⟨_, _, _, _, _, _, _, _, _, _, _, _, _, _, _, rfl, _⟩ := h
    rfl
  · obtain ⟨H0, p, dx, t, l0, c, ls, r0, rs, wd, md, m, cs, lo, n, rfl, S, hmd, hn, hlo, hm, hwl, hcell, q⟩ := h
    refine ⟨_, (pss_cons (ps_set (i := 4) sc_Members_within.nd rfl (.inl rfl) (pe_callB (call_max2 rfl) (by rfl) T.n_max (by decide +kernel) (pa_cons (pv 3) (pa_cons pe_int pa_nil))))
  (pss_cons (ps_set (i := 5) sc_Members_within.nd rfl (.inl rfl) (pe_ifExp (pt_cmp (pc_isN (pv 2)) rfl) (pv 4) (pe_callB (call_min2 rfl) (by rfl) T.n_min (by decide +kernel) (pa_cons (pv 4) (pa_cons (pv 2) pa_nil)))))
  (pss_one (ps_ret (pe_callB (cr_sum rfl) (by rfl) T.n_sum (by decide +kernel) (pa_cons (pe_lc (own := [("members", 6)]) rfl sc_Members_within.nd (pi_range2 (by rfl) T.n_range (pa_cons (pv 1) (pa_cons (pe_op op_add (pv 5) pe_int) pa_nil))) (blkOk_by (own := [("members", 6)]) (N := ["self", "least", "most", "size", "greatest", "last", "members"]) (sc := defScope s_Members_within) (by decide +kernel)) (fun _ _ _ _ _ => (pg_name (i := 6) sc_Members_within.nd rfl (.inl rfl))) (fun _ _ _ _ _ => pts_nil) (fun _ _ _ _ _ => (pe_meth (pv 0) T.cl_Members M_Members_exactly G_Members_exactly (hr.mono (by decide)) B_Members_exactly .nil pass0 (pa_cons (pv 6) (pa_cons (pv 3) pa_nil))))) pa_nil)))))), ?_⟩
    refine ⟨_, rfl, _, _, rfl, ?_⟩
    have e1 : (if (1 : Int) > (n : Int) then (1 : Int) else (n : Int)) = ((max n 1 : Nat) : Int) := by
      split <;> omega
    rw [e1]
    have rd : ∀ (Q' : VK) (σ : St), σ[2]? = some (some (oV m)) → σ[4]? = some (some (.int ((max n 1 : Nat) : Int))) → Q' (.int (lim m (max n 1) : Nat)) H →
        tIf (tB (tIsN (tVar 2))) (tVar 4) (tCB (fun xs H Q => ∃ i j, xs = [.int i, .int j] ∧ Q (.int (if j < i then j else i)) H) (tCons (tVar 4) (tCons (tVar 2) tNil))) σ H Q' := by
      intro Q' σ h2 h4 q'
      cases m with
      | none => exact ⟨_, h2, true, rfl, iteT ⟨_, h4, q'⟩⟩
      | some i =>
        have hi := hm i rfl
        refine ⟨_, h2, false, rfl, iteF ⟨_, h4, _, h2, _, _, rfl, ?_⟩⟩
        have e : (if i < ((max n 1 : Nat) : Int) then i else ((max n 1 : Nat) : Int)) = ((lim (some i) (max n 1) : Nat) : Int) := by
          rw [show lim (some i) (max n 1) = min (max n 1) i.toNat from rfl]
          split <;> omega
        rw [e]
        exact q'
    refine rd _ _ rfl rfl ?_
    have hlim : lim m (max n 1) ≤ max n 1 := by
      cases m with
      | none => exact Nat.le_refl _
      | some i => exact Nat.min_le_left _ _
    generalize lim m (max n 1) = L at hcell q hlim ⊢
    refine ⟨_, rfl, _, rfl, _, _, rfl, rfl, _, _, rfl, ⟨by omega, by omega, by omega, by omega⟩, fun Dn hD => ?_⟩
    have en : ((L : Int) + 1 - (lo : Int)).toNat = L + 1 - lo := by omega
    rw [en]
    refine lc_rangeM (lo := (lo : Int)) (j := 6) (fun i => V.int (exG wd md cs (lo + i) n)) (by omega) hD (fun i hi H1 s2 R kk => ?_) (fun H1 s2 h1 => ?_)
    · have S1 := S.mono s2
      exact ⟨_, rfl, p, dx, _, rfl, S1.hp, l_no (by decide +kernel) (by decide +kernel) (by decide +kernel) (by decide +kernel) (by decide +kernel), _, rfl, _, rfl, H0, p, dx, t, l0, c, ls, r0, rs, wd, md, m, cs, lo + i, n, by rfl, S1, fun a b ha hb => (hcell a b (by omega) hb).mono s2, hmd, hn, by omega, hwl.imp id (fun z => z.imp id (fun y => by omega)), fun H' s' => kk H' s'⟩
    · refine ⟨Dn, (List.range (L + 1 - lo)).map fun i => exG wd md cs (lo + i) n, rfl, sq_of ?_, ?_⟩
      · rw [h1, List.map_map]; rfl
      · exact q H1 s2
end
end SM

namespace SM
open PySem L2
theorem TabAt.rebase {C : Addr} {B H : Hp} {q : Addr} {o o' : HO} {p dx t l0 c : Addr} {ls : List Addr} {r0 : List Int} {rs : List (List Int)} {w md : Str} {m : Option Int} (S : TabAt C (upd B q o) H p dx t l0 c ls r0 rs w m md) :
    TabAt C (upd B q o') (upd H q o') p dx t l0 c ls r0 rs w m md := by
  have nq : ∀ a ∈ p :: t :: l0 :: ls, a ≠ q := fun a ha e => by
    have := S.fr a ha
    rw [e, upd_same] at this
    cases this
  have hB : ∀ a ∈ p :: t :: l0 :: ls, B a = none := fun a ha => by
    have := S.fr a ha
    rw [upd_ne (nq a ha)] at this
    exact this
  refine ⟨fun b x e => ?_, ?_, ?_, ?_, S.hl, fun j l r a b => ?_, S.nd, fun a ha => ?_⟩
  · by_cases h : b = q
    · subst h
      rw [upd_same] at e ⊢
      exact e
    · rw [upd_ne h] at e ⊢
      exact S.sm b x (by rw [upd_ne h]; exact e)
  · rw [upd_ne (nq p (by simp))]; exact S.hp
  · rw [upd_ne (nq t (by simp))]; exact S.ht
  · rw [upd_ne (nq l0 (by simp))]; exact S.h0
  · have hm : l ∈ ls := List.mem_of_getElem? a
    rw [upd_ne (nq l (by simp [hm]))]
    exact S.hr j l r a b
  · rw [upd_ne (nq a ha)]
    exact hB a ha
/-! ### rows, sets, rings -/
def inW (wd : Str) : Bool := inV (.str wd) [.str "row", .str "set", .str "ring"]
theorem isR_of {wd : Str} (h : inW wd = true) : wd = "row" ∨ wd = "set" ∨ wd = "ring" := by
  unfold inW inV at h
  simp only [List.any_cons, List.any_nil, Bool.or_false, Bool.or_eq_true, eqV, beq_iff_eq] at h
  rcases h with h | h | h
  · exact .inl h.symm
  · exact .inr (.inl h.symm)
  · exact .inr (.inr h.symm)
def outG (wd md : Str) (cs : List Int) (m : Option Int) (lo n : Nat) : Int := ((List.range (lim m (max n 1) + 1 - lo)).map fun i => exG wd md cs (lo + i) n).sum
def spCW : Sp := fun vs H Q _ => ∃ (wd : Str) (a : Addr) (cs : List Int) (l : Nat) (m : Option Int) (lb : Bool), vs = [.str wd, .ref a, .int l, oV m, .bl lb] ∧ H a = some (.lst (cs.map V.int)) ∧ Bn cs ∧ 1 ≤ cs.length ∧ cs.length ≤ 61 ∧ inW wd = true ∧ areB wd l m = true ∧
  (cs.getD 0 0 = 0 ∨ moreB m = false) ∧ l ≤ 1000 ∧ ∀ (p : Addr) (H' : Hp), Same H H' → H p = none → H' p = some (.lst (((List.range cs.length).map fun n => outG wd (modeS lb) cs m l n).map V.int)) → Q (.ref p) H'
section
variable {P : Program} {w : World} {K : PySem.W.Frag} {mg : Str → Option Value} {base : Heap} {W : Ad}
theorem ok_CW (T : Tx K mg W) (D : Df K mg "_counts_within" s__counts_within ["word", "counts", "least", "most", "labelled"])
    (C1 : Cal P w K mg base CX0 2 "check_counts" ["counts"] spCheck) (C2 : Cal P w K mg base CX0 2 "are_bounds" ["word", "least", "most"] spBounds) (C3 : Cal P w K mg base CX0 1 "more_than_one" ["most"] spMore)
    (C4 : Cal P w K mg base CX0 1 "mode_of" ["labelled"] spMode) (MKI : ∃ f, Mk K W.cMembers f ∧ ∃ fd, Binds K fd ["self", "word", "most", "counts", "mode"] [] ∧ FnOk P w K mg base CX0 1 f fd ["self", "word", "most", "counts", "mode"] (spInit W.cMembers))
    (C5 : CalM P w K mg base CX0 3 W.cMembers "grow" ["self"] (spGrow K W.cMembers)) (C6 : CalM P w K mg base CX0 4 W.cMembers "within" ["self", "least", "most", "size"] (spWithin K W.cMembers)) :
    Cal P w K mg base CX0 5 "_counts_within" ["word", "counts", "least", "most", "labelled"] spCW := by
  obtain ⟨f, fd, g, F, b⟩ := D
  obtain ⟨f1, fd1, g_check_counts, k_check_counts, b_check_counts, G_check_counts⟩ := C1.ex
  obtain ⟨f2, fd2, g_are_bounds, k_are_bounds, b_are_bounds, G_are_bounds⟩ := C2.ex
  obtain ⟨f3, fd3, g_more_than_one, k_more_than_one, b_more_than_one, G_more_than_one⟩ := C3.ex
  obtain ⟨f4, fd4, g_mode_of, k_mode_of, b_mode_of, G_mode_of⟩ := C4.ex
  obtain ⟨fi, MK_Members, fdi, B_Members_init, G_Members_init⟩ := MKI
  obtain ⟨f5, fd5, M_Members_grow, B_Members_grow, G_Members_grow⟩ := C5.ex
  obtain ⟨f6, fd6, M_Members_within, B_Members_within, G_Members_within⟩ := C6.ex
  refine ⟨f, fd, g, F.kp, b, F.ok sc__counts_within (fun vs H Q E h => ?_) (fun cdv A outer s H vs Q E hr h => ?_)⟩
  · obtain ⟨_, _, _, _, _, _, rfl, _⟩ := h
    rfl
  · obtain ⟨wd, a, cs, lo, m, lb, rfl, hA, hsm, hc1, hc61, hw, hb, hhm, hl, k⟩ := h
    have hcl : 1 ≤ cs.length ∧ cs.length ≤ 61 := ⟨hc1, hc61⟩
    refine ⟨_, (pss_cons (ps_expr (pe_call G_check_counts (hr.mono (by decide)) (by rfl) g_check_counts k_check_counts b_check_counts .nil pass0 (pa_cons (pv 1) pa_nil)))
  (pss_cons (ps_if (PW.pt (pw_or (pt_cmpR op_notIn_seq (pv 0) (pe_glob (by rfl) T.g_MEMBER_WORDS T.r_MEMBER_WORDS) (by rfl)) (pw_or1 (pt_not (pt_val (pe_call G_are_bounds (hr.mono (by decide)) (by rfl) g_are_bounds k_are_bounds b_are_bounds .nil pass0 (pa_cons (pv 0) (pa_cons (pv 2) (pa_cons (pv 3) pa_nil))))))))) (
    (pss_one (ps_never))) (pss_nil))
  (pss_cons (ps_if (PW.pt (pw_and (pt_cmpR op_gt (pe_ix ix_list (pv 1) pe_int (fun _ _ => rfl)) pe_int (nomark _)) (pw_and1 (pt_val (pe_call G_more_than_one (hr.mono (by decide)) (by rfl) g_more_than_one k_more_than_one b_more_than_one .nil pass0 (pa_cons (pv 3) pa_nil)))))) (
    (pss_one (ps_never))) (pss_nil))
  (pss_cons (ps_set (i := 5) sc__counts_within.nd rfl (.inl rfl) (pe_make MK_Members G_Members_init (hr.mono (by decide)) (by rfl) T.g_Members B_Members_init .nil pass0 (pa_cons (pv 0) (pa_cons (pv 3) (pa_cons (pv 1) (pa_cons (pe_call G_mode_of (hr.mono (by decide)) (by rfl) g_mode_of k_mode_of b_mode_of .nil pass0 (pa_cons (pv 4) pa_nil)) pa_nil))))))
  (pss_cons (ps_set (i := 6) sc__counts_within.nd rfl (.inl rfl) (pe_lst pa_nil))
  (pss_cons (ps_for PassesOwn.never rfl (pi_range1 (by rfl) T.n_range (pa_cons (pe_callB call_len_seq (by rfl) T.n_len (by decide +kernel) (pa_cons (pv 1) pa_nil)) pa_nil)) (pg_name (i := 7) sc__counts_within.nd rfl (.inl rfl)) (
    (pss_cons (ps_expr (pe_meth0 (pv 5) T.cl_Members M_Members_grow G_Members_grow (hr.mono (by decide)) B_Members_grow .nil pass0))
    (pss_one (ps_expr (pe_bm PySem.F.plainAttrs_list PySem.F.slot_list_append PySem.F.type_list_append mt_append (pv 6) (pa_cons (pe_meth (pv 5) T.cl_Members M_Members_within G_Members_within (hr.mono (by decide)) B_Members_within .nil pass0 (pa_cons (pv 2) (pa_cons (pv 3) (pa_cons (pv 7) pa_nil)))) pa_nil)))))))
  (pss_one (ps_ret (pv 6))))))))), ?_⟩
    refine ⟨_, rfl, a, cs, rfl, hA, fun x hx => (hsm x hx).1, hc1, hc61, fun H1 s1 => ?_⟩
    have hA1 := s1 _ _ hA
    refine ⟨_, rfl, W.aMW, _, rfl, .inr (T.s_MW _), rfl, rfl, _, rfl, ?_⟩
    have : (if (true : Bool) = true then !inV (V.str wd) [.str "row", .str "set", .str "ring"] else inV (V.str wd) [.str "row", .str "set", .str "ring"]) = false := by
      show (!inW wd) = false
      rw [hw]; rfl
    rw [this]
    refine iteF ?_
    refine ⟨_, rfl, _, rfl, _, rfl, wd, lo, m, rfl, _, rfl, ?_⟩
    rw [hb]
    refine iteF ?_
    -- counts[0] > 0 and more_than_one(most)
    refine ⟨_, rfl, a, _, _, .int (cs.getD 0 0), rfl, rfl, sq_of hA1, atI_nat (j := 0) (getD_at (by omega)), _, _, rfl, rfl, _, rfl, ?_⟩
    refine ite2 (fun c1 => ?_) (fun c1 => ?_)
    · have c1' : (0 : Int) < cs.getD 0 0 := of_decide_eq_true c1
      have hmf : moreB m = false := hhm.resolve_left (by omega)
      refine ⟨_, rfl, m, rfl, _, rfl, ?_⟩
      rw [hmf]
      refine iteF ?_
      have hwl : wd = "row" ∨ wd = "set" ∨ 1 ≤ lo := by
        by_cases h1 : wd = "ring"
        · right; right
          unfold areB lowB at hb
          rw [if_pos h1] at hb
          simp only [Bool.and_eq_true, decide_eq_true_eq] at hb
          omega
        · rcases isR_of hw with e | e | e
          · exact .inl e
          · exact .inr (.inl e)
          · exact absurd e h1
      have hm0 : ∀ i, m = some i → 0 ≤ i := by
        intro i e
        subst e
        unfold areB upB at hb
        simp only [Bool.and_eq_true, decide_eq_true_eq] at hb
        omega
      have hmd : modeS lb ≠ "rigid" := by cases lb <;> decide +kernel
      -- told = Members(..)
      refine ⟨_, rfl, _, rfl, _, rfl, _, rfl, lb, rfl, fun x dx nx ndx nne => ⟨x, dx, a, wd, modeS lb, m, rfl, upd_same, fun t l0 H2 nt nl0 tne hp2 ht2 h02 keep => ⟨rfl, ?_⟩⟩⟩
      have s2 : Same H1 H2 := fun b o e => keep b o (by rw [upd_ne (ne_of_none e nx), upd_ne (ne_of_none e ndx)]; exact e) (ne_of_none e nx)
      have ntx : t ≠ x := fun e => by rw [e, upd_same] at nt; cases nt
      have nlx : l0 ≠ x := fun e => by rw [e, upd_same] at nl0; cases nl0
      rw [upd_ne ntx] at nt
      rw [upd_ne nlx] at nl0
      have ntd : t ≠ dx := fun e => by rw [e, upd_same] at nt; cases nt
      have nld : l0 ≠ dx := fun e => by rw [e, upd_same] at nl0; cases nl0
      rw [upd_ne ntd] at nt
      rw [upd_ne nld] at nl0
      -- made = []
      refine ⟨Nat.zero_le _, fun q nq => ?_⟩
      have nqx : x ≠ q := fun e => by rw [← e, hp2] at nq; cases nq
      have nqt : t ≠ q := fun e => by rw [← e, ht2] at nq; cases nq
      have nql : l0 ≠ q := fun e => by rw [← e, h02] at nq; cases nq
      have hq1 : H1 q = none := s2.free nq
      have St : TabAt W.cMembers (upd H1 q (.lst [])) (upd H2 q (.lst [])) x dx t l0 a [] (rowT wd (modeS lb) cs 0 0) (rsT wd (modeS lb) cs (nl m 0) 0) wd m (modeS lb) := by
        have e0 : nl m 0 = 0 := by
          unfold nl
          have : lim m (0 - 1) ≤ 0 := by
            cases m with
            | none => exact Nat.le_refl _
            | some i => exact Nat.min_le_left _ _
          omega
        rw [e0]
        refine ⟨fun b o e => ?_, by rw [upd_ne nqx]; exact hp2, by rw [upd_ne nqt]; exact ht2, by rw [upd_ne nql]; exact h02, rfl, fun j l r e => by simp at e, by simp [ntx.symm, nlx.symm, tne], fun b hb => ?_⟩
        · by_cases hbq : b = q
          · rw [hbq, upd_same] at e ⊢; exact e
          · rw [upd_ne hbq] at e ⊢; exact s2 _ _ e
        · simp only [List.mem_cons, List.mem_nil_iff, or_false] at hb
          rcases hb with e | e | e
          · rw [e, upd_ne nqx]; exact nx
          · rw [e, upd_ne nqt]; exact nt
          · rw [e, upd_ne nql]; exact nl0
      have hA2 : ∀ o, (upd H1 q o) a = some (.lst (cs.map V.int)) := fun o => by
        rw [upd_ne (ne_of_none hA1 hq1)]; exact hA1
      -- the loop
      refine ⟨_, rfl, a, _, rfl, .inl (sq_of (St.sm _ _ (hA2 _))), cs.length, by rw [List.length_map], by omega, by omega, ?_⟩
      rw [Int.toNat_natCast]
      refine for_range (lo := 0) (n := cs.length) (fun i σ H' => ∃ (y7 : Option V) (ls : List Addr), σ = [some (.str wd), some (.ref a), some (.int lo), some (oV m), some (.bl lb), some (.ref x), some (.ref q), y7] ∧
        TabAt W.cMembers (upd H1 q (.lst (((List.range i).map fun n => outG wd (modeS lb) cs m lo n).map V.int))) H' x dx t l0 a ls (rowT wd (modeS lb) cs 0 i) (rsT wd (modeS lb) cs (nl m i) i) wd m (modeS lb)) ⟨none, [], rfl, St⟩ ?_ ?_
      · rintro i σ H3 hi ⟨y7, ls, rfl, S3⟩
        have hc0 : SqL K (upd H1 q (.lst (((List.range i).map fun n => outG wd (modeS lb) cs m lo n).map V.int))) a (cs.map V.int) := sq_of (hA2 _)
        refine ⟨_, rfl, x, dx, _, rfl, S3.hp, l_no (by decide +kernel) (by decide +kernel) (by decide +kernel) (by decide +kernel) (by decide +kernel), _, x, dx, t, l0, a, ls, wd, modeS lb, m, cs, i, rfl, S3, hc0, hsm, hi, hcl.2, hm0, hmd, fun ls' H4 S4 _ => ?_⟩
        have hq4 : H4 q = some (.lst (((List.range i).map fun n => outG wd (modeS lb) cs m lo n).map V.int)) := S4.sm _ _ upd_same
        have hcell : ∀ a' b', a' ≤ lim m (max i 1) → b' ≤ i → Cell K H4 l0 a ls' a' b' (tg wd (modeS lb) cs a' b') := by
          intro j b' h2 hb'
          match j, h2 with
          | 0, _ => exact ⟨l0, _, rfl, sq_of S4.h0, rowT_get (by omega)⟩
          | 1, _ =>
            refine ⟨a, cs, rfl, S4.sm.seq hc0, ?_⟩
            rw [List.getElem?_eq_getElem (by omega), tg_1, List.getD_eq_getElem?_getD, List.getElem?_eq_getElem (by omega)]; rfl
          | j' + 2, h2 =>
            have hj : j' < nl m (i + 1) := by
              unfold nl
              rw [Nat.add_sub_cancel]
              cases m with
              | none =>
                have h2' : j' + 2 ≤ max i 1 := h2
                show j' < i - 1
                omega
              | some z =>
                have h2' : j' + 2 ≤ min (max i 1) z.toNat := h2
                show j' < min i z.toNat - 1
                omega
            have gl : ls'[j']? = some (ls'[j']'(by rw [S4.hl]; unfold rsT; simpa using hj)) := List.getElem?_eq_getElem _
            have gr : (rsT wd (modeS lb) cs (nl m (i + 1)) (i + 1))[j']? = some (rowT wd (modeS lb) cs (j' + 2) (i + 1)) := by
              unfold rsT
              rw [List.getElem?_map, List.getElem?_range hj]; rfl
            exact ⟨_, _, gl, sq_of (S4.hr _ _ _ gl gr), rowT_get (by omega)⟩
        refine ⟨_, rfl, .inl ⟨rfl, _, sq_of hq4⟩, _, rfl, x, dx, _, rfl, S4.hp, l_no (by decide +kernel) (by decide +kernel) (by decide +kernel) (by decide +kernel) (by decide +kernel), _, rfl, _, rfl, _, rfl, _, x, dx, t, l0, a, ls', _, _, wd, modeS lb, m, cs, lo, i, by rw [Int.zero_add]; rfl, S4, hmd, by omega, hl, hm0, hwl, hcell, fun H5 s5 => ?_⟩
        refine ⟨q, _, _, rfl, rfl, s5 _ _ hq4, szl _ (by simp; omega), ?_⟩
        refine ⟨_, ls', rfl, ?_⟩
        have S6 := (S4.mono s5).rebase (o' := HO.lst ((((List.range i).map fun n => outG wd (modeS lb) cs m lo n).map V.int) ++ [V.int (outG wd (modeS lb) cs m lo i)]))
        rw [show (((List.range (i + 1)).map fun n => outG wd (modeS lb) cs m lo n).map V.int) = (((List.range i).map fun n => outG wd (modeS lb) cs m lo n).map V.int) ++ [V.int (outG wd (modeS lb) cs m lo i)] by
          rw [List.range_succ, List.map_append, List.map_append]; rfl]
        exact S6
      · rintro σ H3 ⟨y7, ls, rfl, S3⟩
        have hq3 := S3.sm _ _ (upd_same (H := H1) (a := q))
        have s13 : Same H1 H3 := fun b o e => S3.sm b o (by rw [upd_ne (ne_of_none e hq1)]; exact e)
        exact ⟨_, rfl, k q H3 (s1.trans s13) (s1.free hq1) hq3⟩
    · refine iteF ?_
      have hwl : wd = "row" ∨ wd = "set" ∨ 1 ≤ lo := by
        by_cases h1 : wd = "ring"
        · right; right
          unfold areB lowB at hb
          rw [if_pos h1] at hb
          simp only [Bool.and_eq_true, decide_eq_true_eq] at hb
          omega
        · rcases isR_of hw with e | e | e
          · exact .inl e
          · exact .inr (.inl e)
          · exact absurd e h1
      have hm0 : ∀ i, m = some i → 0 ≤ i := by
        intro i e
        subst e
        unfold areB upB at hb
        simp only [Bool.and_eq_true, decide_eq_true_eq] at hb
        omega
      have hmd : modeS lb ≠ "rigid" := by cases lb <;> decide +kernel
      -- told = Members(..)
      refine ⟨_, rfl, _, rfl, _, rfl, _, rfl, lb, rfl, fun x dx nx ndx nne => ⟨x, dx, a, wd, modeS lb, m, rfl, upd_same, fun t l0 H2 nt nl0 tne hp2 ht2 h02 keep => ⟨rfl, ?_⟩⟩⟩
      have s2 : Same H1 H2 := fun b o e => keep b o (by rw [upd_ne (ne_of_none e nx), upd_ne (ne_of_none e ndx)]; exact e) (ne_of_none e nx)
      have ntx : t ≠ x := fun e => by rw [e, upd_same] at nt; cases nt
      have nlx : l0 ≠ x := fun e => by rw [e, upd_same] at nl0; cases nl0
      rw [upd_ne ntx] at nt
      rw [upd_ne nlx] at nl0
      have ntd : t ≠ dx := fun e => by rw [e, upd_same] at nt; cases nt
      have nld : l0 ≠ dx := fun e => by rw [e, upd_same] at nl0; cases nl0
      rw [upd_ne ntd] at nt
      rw [upd_ne nld] at nl0
      -- made = []
      refine ⟨Nat.zero_le _, fun q nq => ?_⟩
      have nqx : x ≠ q := fun e => by rw [← e, hp2] at nq; cases nq
      have nqt : t ≠ q := fun e => by rw [← e, ht2] at nq; cases nq
      have nql : l0 ≠ q := fun e => by rw [← e, h02] at nq; cases nq
      have hq1 : H1 q = none := s2.free nq
      have St : TabAt W.cMembers (upd H1 q (.lst [])) (upd H2 q (.lst [])) x dx t l0 a [] (rowT wd (modeS lb) cs 0 0) (rsT wd (modeS lb) cs (nl m 0) 0) wd m (modeS lb) := by
        have e0 : nl m 0 = 0 := by
          unfold nl
          have : lim m (0 - 1) ≤ 0 := by
            cases m with
            | none => exact Nat.le_refl _
            | some i => exact Nat.min_le_left _ _
          omega
        rw [e0]
        refine ⟨fun b o e => ?_, by rw [upd_ne nqx]; exact hp2, by rw [upd_ne nqt]; exact ht2, by rw [upd_ne nql]; exact h02, rfl, fun j l r e => by simp at e, by simp [ntx.symm, nlx.symm, tne], fun b hb => ?_⟩
        · by_cases hbq : b = q
          · rw [hbq, upd_same] at e ⊢; exact e
          · rw [upd_ne hbq] at e ⊢; exact s2 _ _ e
        · simp only [List.mem_cons, List.mem_nil_iff, or_false] at hb
          rcases hb with e | e | e
          · rw [e, upd_ne nqx]; exact nx
          · rw [e, upd_ne nqt]; exact nt
          · rw [e, upd_ne nql]; exact nl0
      have hA2 : ∀ o, (upd H1 q o) a = some (.lst (cs.map V.int)) := fun o => by
        rw [upd_ne (ne_of_none hA1 hq1)]; exact hA1
      -- the loop
      refine ⟨_, rfl, a, _, rfl, .inl (sq_of (St.sm _ _ (hA2 _))), cs.length, by rw [List.length_map], by omega, by omega, ?_⟩
      rw [Int.toNat_natCast]
      refine for_range (lo := 0) (n := cs.length) (fun i σ H' => ∃ (y7 : Option V) (ls : List Addr), σ = [some (.str wd), some (.ref a), some (.int lo), some (oV m), some (.bl lb), some (.ref x), some (.ref q), y7] ∧
        TabAt W.cMembers (upd H1 q (.lst (((List.range i).map fun n => outG wd (modeS lb) cs m lo n).map V.int))) H' x dx t l0 a ls (rowT wd (modeS lb) cs 0 i) (rsT wd (modeS lb) cs (nl m i) i) wd m (modeS lb)) ⟨none, [], rfl, St⟩ ?_ ?_
      · rintro i σ H3 hi ⟨y7, ls, rfl, S3⟩
        have hc0 : SqL K (upd H1 q (.lst (((List.range i).map fun n => outG wd (modeS lb) cs m lo n).map V.int))) a (cs.map V.int) := sq_of (hA2 _)
        refine ⟨_, rfl, x, dx, _, rfl, S3.hp, l_no (by decide +kernel) (by decide +kernel) (by decide +kernel) (by decide +kernel) (by decide +kernel), _, x, dx, t, l0, a, ls, wd, modeS lb, m, cs, i, rfl, S3, hc0, hsm, hi, hcl.2, hm0, hmd, fun ls' H4 S4 _ => ?_⟩
        have hq4 : H4 q = some (.lst (((List.range i).map fun n => outG wd (modeS lb) cs m lo n).map V.int)) := S4.sm _ _ upd_same
        have hcell : ∀ a' b', a' ≤ lim m (max i 1) → b' ≤ i → Cell K H4 l0 a ls' a' b' (tg wd (modeS lb) cs a' b') := by
          intro j b' h2 hb'
          match j, h2 with
          | 0, _ => exact ⟨l0, _, rfl, sq_of S4.h0, rowT_get (by omega)⟩
          | 1, _ =>
            refine ⟨a, cs, rfl, S4.sm.seq hc0, ?_⟩
            rw [List.getElem?_eq_getElem (by omega), tg_1, List.getD_eq_getElem?_getD, List.getElem?_eq_getElem (by omega)]; rfl
          | j' + 2, h2 =>
            have hj : j' < nl m (i + 1) := by
              unfold nl
              rw [Nat.add_sub_cancel]
              cases m with
              | none =>
                have h2' : j' + 2 ≤ max i 1 := h2
                show j' < i - 1
                omega
              | some z =>
                have h2' : j' + 2 ≤ min (max i 1) z.toNat := h2
                show j' < min i z.toNat - 1
                omega
            have gl : ls'[j']? = some (ls'[j']'(by rw [S4.hl]; unfold rsT; simpa using hj)) := List.getElem?_eq_getElem _
            have gr : (rsT wd (modeS lb) cs (nl m (i + 1)) (i + 1))[j']? = some (rowT wd (modeS lb) cs (j' + 2) (i + 1)) := by
              unfold rsT
              rw [List.getElem?_map, List.getElem?_range hj]; rfl
            exact ⟨_, _, gl, sq_of (S4.hr _ _ _ gl gr), rowT_get (by omega)⟩
        refine ⟨_, rfl, .inl ⟨rfl, _, sq_of hq4⟩, _, rfl, x, dx, _, rfl, S4.hp, l_no (by decide +kernel) (by decide +kernel) (by decide +kernel) (by decide +kernel) (by decide +kernel), _, rfl, _, rfl, _, rfl, _, x, dx, t, l0, a, ls', _, _, wd, modeS lb, m, cs, lo, i, by rw [Int.zero_add]; rfl, S4, hmd, by omega, hl, hm0, hwl, hcell, fun H5 s5 => ?_⟩
        refine ⟨q, _, _, rfl, rfl, s5 _ _ hq4, szl _ (by simp; omega), ?_⟩
        refine ⟨_, ls', rfl, ?_⟩
        have S6 := (S4.mono s5).rebase (o' := HO.lst ((((List.range i).map fun n => outG wd (modeS lb) cs m lo n).map V.int) ++ [V.int (outG wd (modeS lb) cs m lo i)]))
        rw [show (((List.range (i + 1)).map fun n => outG wd (modeS lb) cs m lo n).map V.int) = (((List.range i).map fun n => outG wd (modeS lb) cs m lo n).map V.int) ++ [V.int (outG wd (modeS lb) cs m lo i)] by
          rw [List.range_succ, List.map_append, List.map_append]; rfl]
        exact S6
      · rintro σ H3 ⟨y7, ls, rfl, S3⟩
        have hq3 := S3.sm _ _ (upd_same (H := H1) (a := q))
        have s13 : Same H1 H3 := fun b o e => S3.sm b o (by rw [upd_ne (ne_of_none e hq1)]; exact e)
        exact ⟨_, rfl, k q H3 (s1.trans s13) (s1.free hq1) hq3⟩
end
end SM

/-! Sums, the binomial convolution, and sets without labels: plain mathematics. -/
namespace SMath
def S : Nat → (Nat → Int) → Int
  | 0, _ => 0
  | n + 1, f => S n f + f n
theorem S_list (n : Nat) (f : Nat → Int) : ((List.range n).map f).sum = S n f := by
  induction n with
  | zero => rfl
  | succ n ih => rw [List.range_succ, List.map_append, List.sum_append, ih]; simp [S]
theorem S_congr {n : Nat} {f g : Nat → Int} (h : ∀ i, i < n → f i = g i) : S n f = S n g := by
  induction n with
  | zero => rfl
  | succ n ih => rw [S, S, ih fun i hi => h i (Nat.lt_succ_of_lt hi), h n (Nat.lt_succ_self n)]
theorem S_add (n : Nat) (f g : Nat → Int) : S n (fun i => f i + g i) = S n f + S n g := by
  induction n with
  | zero => rfl
  | succ n ih => rw [S, S, S, ih]; omega
theorem S_mul (n : Nat) (c : Int) (f : Nat → Int) : S n (fun i => c * f i) = c * S n f := by
  induction n with
  | zero => simp [S]
  | succ n ih => rw [S, S, ih, Int.mul_add]
theorem S_zero (n : Nat) : S n (fun _ => 0) = 0 := by
  induction n with
  | zero => rfl
  | succ n ih => rw [S, ih]; rfl
theorem S_zero' {n : Nat} {f : Nat → Int} (h : ∀ i, i < n → f i = 0) : S n f = 0 := (S_congr h).trans (S_zero n)
theorem S_first (n : Nat) (f : Nat → Int) : S (n + 1) f = f 0 + S n (fun i => f (i + 1)) := by
  induction n with
  | zero => simp [S]
  | succ n ih => rw [S, ih, S]; omega
theorem S_ext {n k : Nat} {f : Nat → Int} (h : ∀ i, n ≤ i → i < n + k → f i = 0) : S (n + k) f = S n f := by
  induction k with
  | zero => rfl
  | succ k ih => rw [← Nat.add_assoc, S, ih fun i a b => h i a (by omega), h (n + k) (by omega) (by omega)]; omega
theorem S_ext' {n m : Nat} {f : Nat → Int} (hm : n ≤ m) (h : ∀ i, n ≤ i → i < m → f i = 0) : S m f = S n f := by
  obtain ⟨k, rfl⟩ := Nat.exists_eq_add_of_le hm
  exact S_ext h
theorem S_swap (n m : Nat) (f : Nat → Nat → Int) : S n (fun i => S m (f i)) = S m (fun j => S n (fun i => f i j)) := by
  induction n with
  | zero => simp [S, S_zero]
  | succ n ih => rw [S, ih, ← S_add]; rfl
/-! ### binomials -/
def bin : Nat → Nat → Int
  | _, 0 => 1
  | 0, _ + 1 => 0
  | n + 1, k + 1 => bin n k + bin n (k + 1)
theorem bin_0 (n : Nat) : bin n 0 = 1 := by cases n <;> rfl
theorem bin_gt : ∀ {n k : Nat}, n < k → bin n k = 0
  | 0, k + 1, _ => rfl
  | n + 1, k + 1, h => by rw [bin, bin_gt (by omega), bin_gt (by omega)]; rfl
/-! ### the convolution with binomials -/
def bc (f g : Nat → Int) (n : Nat) : Int := S (n + 1) fun k => bin n k * f k * g (n - k)
def dl (f : Nat → Int) : Nat → Int := fun n => f (n + 1)
theorem bc_dl (f g : Nat → Int) (n : Nat) : bc f g (n + 1) = bc (dl f) g n + bc f (dl g) n := by
  have e1 : bc f g (n + 1) = f 0 * g (n + 1) + (S (n + 1) (fun k => bin n k * f (k + 1) * g (n - k)) + S (n + 1) (fun k => bin n (k + 1) * f (k + 1) * g (n - k))) := by
    unfold bc
    rw [S_first, ← S_add]
    have a : bin (n + 1) 0 * f 0 * g (n + 1 - 0) = f 0 * g (n + 1) := by rw [bin_0, Int.one_mul]; rfl
    have b : S (n + 1) (fun i => bin (n + 1) (i + 1) * f (i + 1) * g (n + 1 - (i + 1))) = S (n + 1) (fun k => bin n k * f (k + 1) * g (n - k) + bin n (k + 1) * f (k + 1) * g (n - k)) := S_congr fun i _ => by
      rw [bin, Int.add_mul, Int.add_mul, Nat.add_sub_add_right]
    rw [a, b]
  have e2 : bc f (dl g) n = f 0 * g (n + 1) + S (n + 1) (fun k => bin n (k + 1) * f (k + 1) * g (n - k)) := by
    have a : bc f (dl g) n = S (n + 2) (fun k => bin n k * f k * g (n + 1 - k)) := by
      rw [S, bin_gt (Nat.lt_succ_self n), Int.zero_mul, Int.zero_mul, Int.add_zero]
      unfold bc dl
      exact S_congr fun i hi => by rw [show n - i + 1 = n + 1 - i by omega]
    rw [a, S_first, bin_0, Int.one_mul]
    show f 0 * g (n + 1) + _ = _
    congr 1
    exact S_congr fun i _ => by rw [Nat.add_sub_add_right]
  rw [e1, e2]
  unfold bc dl
  omega
theorem bc_0 (f g : Nat → Int) : bc f g 0 = f 0 * g 0 := by
  unfold bc
  simp [S, bin_0]
theorem bc_left (n : Nat) : ∀ f g h : Nat → Int, bc f (bc g h) n = bc g (bc f h) n := by
  induction n with
  | zero =>
    intro f g h
    rw [bc_0, bc_0, bc_0, bc_0, ← Int.mul_assoc, ← Int.mul_assoc, Int.mul_comm (f 0)]
  | succ n ih =>
    intro f g h
    have e : ∀ f g h : Nat → Int, bc f (bc g h) (n + 1) = bc (dl f) (bc g h) n + (bc f (bc (dl g) h) n + bc f (bc g (dl h)) n) := by
      intro f g h
      rw [bc_dl]
      congr 1
      have : ∀ k, dl (bc g h) k = bc (dl g) h k + bc g (dl h) k := fun k => bc_dl g h k
      unfold bc at this ⊢
      rw [← S_add]
      refine S_congr fun i _ => ?_
      rw [this, Int.mul_add]
    rw [e, e, ih (dl f) g h, ih f (dl g) h, ih f g (dl h)]
    omega
theorem bc_mul (f g : Nat → Int) (c : Int) (n : Nat) : bc f (fun k => c * g k) n = c * bc f g n := by
  unfold bc
  rw [← S_mul]
  exact S_congr fun i _ => by rw [← Int.mul_assoc, Int.mul_comm (bin n i * f i) c, Int.mul_assoc]
theorem bc_congr {f g h k : Nat → Int} {n : Nat} (h1 : ∀ i, i ≤ n → f i = h i) (h2 : ∀ i, i ≤ n → g i = k i) : bc f g n = bc h k n := by
  unfold bc
  exact S_congr fun i hi => by rw [h1 i (by omega), h2 (n - i) (by omega)]
/-- rows of m labelled members -/
def R (c : Nat → Int) : Nat → Nat → Int
  | 0 => fun n => if n = 0 then 1 else 0
  | m + 1 => bc c (R c m)
/-- the row with the least label taken off -/
theorem R_dl (c : Nat → Int) : ∀ m n, R c (m + 1) (n + 1) = ((m : Int) + 1) * bc (dl c) (R c m) n
  | 0, n => by
    show bc c (R c 0) (n + 1) = _
    rw [bc_dl]
    have e : bc c (dl (R c 0)) n = 0 := by
      unfold bc
      refine S_zero' fun i _ => ?_
      show _ * (if n - i + 1 = 0 then (1 : Int) else 0) = 0
      rw [if_neg (by omega), Int.mul_zero]
    rw [e]
    simp
  | m + 1, n => by
    show bc c (R c (m + 1)) (n + 1) = _
    rw [bc_dl]
    have e : bc c (dl (R c (m + 1))) n = ((m : Int) + 1) * bc (dl c) (R c (m + 1)) n := by
      have : ∀ k, dl (R c (m + 1)) k = ((m : Int) + 1) * bc (dl c) (R c m) k := fun k => R_dl c m k
      rw [bc_congr (fun _ _ => rfl) (fun k _ => this k), bc_mul, bc_left]
      rfl
    rw [e]
    have : ((m + 1 : Nat) : Int) = (m : Int) + 1 := by omega
    rw [this, Int.add_mul ((m : Int) + 1) 1, Int.one_mul]
    omega
end SMath

namespace SMath
/-! ### series shifted -/
def sh (s : Nat) (f : Nat → Int) (n : Nat) : Int := if s ≤ n then f (n - s) else 0
theorem sh_0 (f : Nat → Int) : sh 0 f = f := by
  funext n
  unfold sh
  rw [if_pos (Nat.zero_le n), Nat.sub_zero]
theorem sh_sh (s t : Nat) (f : Nat → Int) : sh s (sh t f) = sh (t + s) f := by
  funext n
  unfold sh
  by_cases h1 : s ≤ n
  · rw [if_pos h1]
    by_cases h2 : t ≤ n - s
    · rw [if_pos h2, if_pos (by omega), show n - s - t = n - (t + s) by omega]
    · rw [if_neg h2, if_neg (by omega)]
  · rw [if_neg h1, if_neg (by omega)]
theorem sh_add (s : Nat) (f g : Nat → Int) : sh s (fun n => f n + g n) = fun n => sh s f n + sh s g n := by
  funext n
  unfold sh
  split <;> simp
theorem sh_mul (s : Nat) (c : Int) (f : Nat → Int) : sh s (fun n => c * f n) = fun n => c * sh s f n := by
  funext n
  unfold sh
  split <;> simp
theorem sh_S (s k : Nat) (f : Nat → Nat → Int) : sh s (fun n => S k (fun i => f i n)) = fun n => S k (fun i => sh s (f i) n) := by
  funext n
  unfold sh
  split
  · rfl
  · rw [S_zero]
/-! ### the recurrence by members -/
structure Op (P : Nat → (Nat → Int) → Nat → Int) : Prop where
  add : ∀ e f g, P e (fun n => f n + g n) = fun n => P e f n + P e g n
  comm : ∀ e s f, P e (sh s f) = sh s (P e f)
def Rec (P : Nat → (Nat → Int) → Nat → Int) (B : Nat → Nat → Int) : Prop := ∀ (m n : Nat), ((m : Int) + 1) * B (m + 1) n = S (m + 1) fun e => P (e + 1) (B (m - e)) n
def geo (s : Nat) (B : Nat → Nat → Int) : Nat → Nat → Int
  | 0 => B 0
  | m + 1 => fun n => B (m + 1) n + sh s (geo s B m) n
theorem op_step {P : Nat → (Nat → Int) → Nat → Int} (hP : Op P) (s : Nat) : Op fun e f n => P e f n + sh (e * s) f n := by
  refine ⟨fun e f g => ?_, fun e t f => ?_⟩
  · funext n
    rw [hP.add, sh_add]
    dsimp only
    omega
  · funext n
    rw [sh_add, hP.comm, sh_sh, sh_sh, Nat.add_comm t]
theorem rec_step {P : Nat → (Nat → Int) → Nat → Int} {B : Nat → Nat → Int} (hP : Op P) (hB : Rec P B) (s : Nat) : Rec (fun e f n => P e f n + sh (e * s) f n) (geo s B) := by
  intro m
  induction m with
  | zero =>
    intro n
    have h := hB 0 n
    simp only [S, Int.zero_add, Nat.sub_self, Nat.sub_zero] at h ⊢
    show ((0 : Nat) + 1 : Int) * (B 1 n + sh s (B 0) n) = P 1 (B 0) n + sh (1 * s) (B 0) n
    have h' : B 1 n = P 1 (B 0) n := by simpa using h
    rw [h', Nat.one_mul]
    simp
  | succ m ih =>
    intro n
    -- the first part of the right side
    have a1 : S (m + 2) (fun e => P (e + 1) (geo s B (m + 1 - e)) n) = S (m + 2) (fun e => P (e + 1) (B (m + 1 - e)) n) + S (m + 1) (fun e => sh s (P (e + 1) (geo s B (m - e))) n) := by
      rw [S, show S (m + 2) (fun e => P (e + 1) (B (m + 1 - e)) n) = S (m + 1) (fun e => P (e + 1) (B (m + 1 - e)) n) + P (m + 1 + 1) (B (m + 1 - (m + 1))) n from rfl, Nat.sub_self]
      have : S (m + 1) (fun e => P (e + 1) (geo s B (m + 1 - e)) n) = S (m + 1) (fun e => P (e + 1) (B (m + 1 - e)) n) + S (m + 1) (fun e => sh s (P (e + 1) (geo s B (m - e))) n) := by
        rw [← S_add]
        refine S_congr fun e he => ?_
        rw [show m + 1 - e = (m - e) + 1 by omega]
        show P (e + 1) (fun n => B (m - e + 1) n + sh s (geo s B (m - e)) n) n = _
        rw [hP.add, hP.comm]
      rw [this]
      show _ + P (m + 1 + 1) (B 0) n = _
      omega
    have a2 : S (m + 2) (fun e => sh ((e + 1) * s) (geo s B (m + 1 - e)) n) = sh s (geo s B (m + 1)) n + S (m + 1) (fun e => sh s (sh ((e + 1) * s) (geo s B (m - e))) n) := by
      rw [S_first, Nat.zero_add, Nat.one_mul, Nat.sub_zero]
      congr 1
      refine S_congr fun e _ => ?_
      rw [sh_sh, Nat.add_sub_add_right, show (e + 1 + 1) * s = (e + 1) * s + s by rw [Nat.succ_mul (e + 1)]]
    have a3 : S (m + 1) (fun e => sh s (P (e + 1) (geo s B (m - e))) n) + S (m + 1) (fun e => sh s (sh ((e + 1) * s) (geo s B (m - e))) n) = ((m : Int) + 1) * sh s (geo s B (m + 1)) n := by
      have h : (fun n => ((m : Int) + 1) * geo s B (m + 1) n) = fun n => S (m + 1) fun e => P (e + 1) (geo s B (m - e)) n + sh ((e + 1) * s) (geo s B (m - e)) n := funext fun n => ih n
      have h2 := congrFun (congrArg (sh s) h) n
      rw [sh_mul, sh_S] at h2
      have h2' : ((m : Int) + 1) * sh s (geo s B (m + 1)) n = S (m + 1) fun e => sh s (fun n => P (e + 1) (geo s B (m - e)) n + sh ((e + 1) * s) (geo s B (m - e)) n) n := h2
      rw [h2', ← S_add]
      refine S_congr fun e _ => ?_
      rw [sh_add]
    have h := hB (m + 1) n
    rw [S_add, a1, a2, ← h]
    have hc : ((m + 1 : Nat) : Int) = (m : Int) + 1 := by omega
    rw [hc]
    show ((m : Int) + 1 + 1) * (B (m + 1 + 1) n + sh s (geo s B (m + 1)) n) = _
    rw [Int.mul_add]
    have h5 : ((m : Int) + 1 + 1) * sh s (geo s B (m + 1)) n = ((m : Int) + 1) * sh s (geo s B (m + 1)) n + sh s (geo s B (m + 1)) n := by rw [Int.add_mul ((m : Int) + 1) 1, Int.one_mul]
    rw [h5, ← a3]
    omega
/-! ### the bag -/
def geoN (s : Nat) : Nat → (Nat → Nat → Int) → Nat → Nat → Int
  | 0, B => B
  | v + 1, B => geo s (geoN s v B)
def d2 : Nat → Nat → Int := fun m n => if m = 0 ∧ n = 0 then 1 else 0
def bag (c : Nat → Nat) : Nat → Nat → Nat → Int
  | 0 => d2
  | L + 1 => geoN (L + 1) (c (L + 1)) (bag c L)
def Pc (c : Nat → Nat) (L e : Nat) (f : Nat → Int) (n : Nat) : Int := S L fun i => (c (i + 1) : Int) * sh (e * (i + 1)) f n
theorem op_Pc (c : Nat → Nat) (L : Nat) : Op (Pc c L) := by
  refine ⟨fun e f g => ?_, fun e s f => ?_⟩
  · funext n
    unfold Pc
    rw [← S_add]
    refine S_congr fun i _ => ?_
    rw [sh_add, Int.mul_add]
  · funext n
    show S L (fun i => (c (i + 1) : Int) * sh (e * (i + 1)) (sh s f) n) = sh s (fun n => S L fun i => (c (i + 1) : Int) * sh (e * (i + 1)) f n) n
    rw [sh_S]
    refine S_congr fun i _ => ?_
    rw [sh_mul, sh_sh, sh_sh, Nat.add_comm s]
theorem rec_geoN {P : Nat → (Nat → Int) → Nat → Int} {B : Nat → Nat → Int} (hP : Op P) (hB : Rec P B) (s : Nat) : ∀ v : Nat, Op (fun e f n => P e f n + (v : Int) * sh (e * s) f n) ∧ Rec (fun e f n => P e f n + (v : Int) * sh (e * s) f n) (geoN s v B)
  | 0 => by
    have e : (fun (e : Nat) (f : Nat → Int) (n : Nat) => P e f n + ((0 : Nat) : Int) * sh (e * s) f n) = P := by
      funext e f n
      simp
    rw [e]
    exact ⟨hP, hB⟩
  | v + 1 => by
    obtain ⟨h1, h2⟩ := rec_geoN hP hB s v
    have e : (fun (e : Nat) (f : Nat → Int) (n : Nat) => P e f n + ((v + 1 : Nat) : Int) * sh (e * s) f n) = fun e f n => (P e f n + (v : Int) * sh (e * s) f n) + sh (e * s) f n := by
      funext e f n
      rw [show ((v + 1 : Nat) : Int) = (v : Int) + 1 by omega, Int.add_mul, Int.one_mul]
      omega
    rw [e]
    exact ⟨op_step h1 s, rec_step h1 h2 s⟩
theorem rec_bag (c : Nat → Nat) : ∀ L, Rec (Pc c L) (bag c L)
  | 0 => by
    intro m n
    have e : S (m + 1) (fun e => Pc c 0 (e + 1) (bag c 0 (m - e)) n) = 0 := S_zero' fun i _ => rfl
    rw [e]
    show ((m : Int) + 1) * (if m + 1 = 0 ∧ n = 0 then (1 : Int) else 0) = 0
    rw [if_neg (by omega), Int.mul_zero]
  | L + 1 => (rec_geoN (op_Pc c L) (rec_bag c L) (L + 1) (c (L + 1))).2
theorem geo_0 (s : Nat) (B : Nat → Nat → Int) : geo s B 0 = B 0 := rfl
theorem geoN_0 (s v : Nat) (B : Nat → Nat → Int) : geoN s v B 0 = B 0 := by
  induction v with
  | zero => rfl
  | succ v ih => show geo s (geoN s v B) 0 = _; rw [geo_0, ih]
theorem bag_0 (c : Nat → Nat) (n : Nat) : ∀ L, bag c L 0 n = if n = 0 then 1 else 0
  | 0 => by
    show (if 0 = 0 ∧ n = 0 then (1 : Int) else 0) = _
    simp
  | L + 1 => by
    show geoN (L + 1) (c (L + 1)) (bag c L) 0 n = _
    rw [geoN_0]
    exact bag_0 c n L
/-- fewer atoms than members -/
theorem bag_small (c : Nat → Nat) (L : Nat) : ∀ m n, n < m → bag c L m n = 0 := by
  intro m
  induction m using Nat.strongRecOn with
  | ind m ih =>
    intro n hn
    match m, hn with
    | m + 1, hn =>
      have h := rec_bag c L m n
      have e : S (m + 1) (fun e => Pc c L (e + 1) (bag c L (m - e)) n) = 0 := by
        refine S_zero' fun e he => ?_
        unfold Pc
        refine S_zero' fun i hi => ?_
        unfold sh
        split
        · have h1 : e + 1 ≤ (e + 1) * (i + 1) := Nat.le_mul_of_pos_right _ (by omega)
          rw [ih (m - e) (by omega) _ (by omega), Int.mul_zero]
        · rw [Int.mul_zero]
      rw [e] at h
      rcases Int.mul_eq_zero.mp h with h | h
      · omega
      · exact h
/-- the closed form of one step of the bag -/
def G : Nat → Nat → Int
  | 0, 0 => 1
  | 0, _ + 1 => 0
  | _ + 1, 0 => 1
  | v + 1, t + 1 => G (v + 1) t + G v (t + 1)
theorem G_0 (v : Nat) : G v 0 = 1 := by cases v <;> simp [G]
theorem geoN_eq (s : Nat) (B : Nat → Nat → Int) : ∀ v m n, geoN s v B m n = S (m + 1) fun t => G v t * sh (t * s) (B (m - t)) n
  | 0, m, n => by
    rw [S_first, G, Nat.zero_mul, sh_0, Int.one_mul, Nat.sub_zero]
    have : S m (fun i => G 0 (i + 1) * sh ((i + 1) * s) (B (m - (i + 1))) n) = 0 := S_zero' fun i _ => by rw [G, Int.zero_mul]
    rw [this, Int.add_zero]
    rfl
  | v + 1, m, n => by
    induction m generalizing n with
    | zero =>
      show geo s (geoN s v B) 0 n = _
      rw [geo_0, geoN_eq s B v 0 n]
      simp [S, G_0]
    | succ m ih =>
      show geoN s v B (m + 1) n + sh s (geoN s (v + 1) B m) n = _
      rw [geoN_eq s B v (m + 1) n]
      have e1 : geoN s (v + 1) B m = fun n => S (m + 1) fun t => G (v + 1) t * sh (t * s) (B (m - t)) n := funext fun n => ih n
      rw [e1, sh_S, S_first (m + 1), S_first (m + 1) (fun t => G (v + 1) t * sh (t * s) (B (m + 1 - t)) n), G_0, G_0, Int.add_assoc, ← S_add]
      congr 1
      refine S_congr fun t _ => ?_
      rw [sh_mul, sh_sh, G, Int.add_mul, Nat.add_sub_add_right, show t * s + s = (t + 1) * s by rw [Nat.succ_mul]]
      dsimp only
      omega
end SMath

/-! Sets without labels, the numbers of members not told: n H(n) = sum of w(k) H(n - k). -/
namespace SMath
theorem S_split (a b : Nat) (f : Nat → Int) : S (a + b) f = S a f + S b fun i => f (a + i) := by
  induction b with
  | zero => simp [S]
  | succ b ih => rw [← Nat.add_assoc, S, ih, S]; omega
theorem S_sub (n : Nat) (f g : Nat → Int) : S n (fun i => f i - g i) = S n f - S n g := by
  induction n with
  | zero => rfl
  | succ n ih => rw [S, S, S, ih]; omega
def Eul (w B : Nat → Int) : Prop := ∀ n : Nat, (n : Int) * B n = S n fun k => w (k + 1) * B (n - (k + 1))
def ind (s k : Nat) : Int := if k % s = 0 then (s : Int) else 0
theorem ind_small {s k : Nat} (h1 : 1 ≤ k) (h2 : k < s) : ind s k = 0 := by
  unfold ind
  rw [if_neg (by rw [Nat.mod_eq_of_lt h2]; omega)]
theorem ind_self (s : Nat) : ind s s = s := by
  unfold ind
  rw [if_pos (Nat.mod_self s)]
theorem ind_add (s k : Nat) : ind s (s + k) = ind s k := by
  unfold ind
  rw [Nat.add_mod_left]
/-- a sum over the multiples of s -/
theorem S_ind {s n : Nat} (hs : 1 ≤ s) (Y : Nat → Int) : S n (fun k => ind s (k + 1) * Y (n - (k + 1))) = sh s (fun m => s * Y m + S m fun k => ind s (k + 1) * Y (m - (k + 1))) n := by
  unfold sh
  by_cases h : s ≤ n
  · rw [if_pos h]
    obtain ⟨r, rfl⟩ := Nat.exists_eq_add_of_le h
    rw [Nat.add_sub_cancel_left]
    have e : s + r = (s - 1) + (1 + r) := by omega
    have e1 : S (s + r) (fun k => ind s (k + 1) * Y (s + r - (k + 1))) = S (s - 1) (fun k => ind s (k + 1) * Y (s + r - (k + 1))) + S (1 + r) (fun i => ind s (s - 1 + i + 1) * Y (s + r - (s - 1 + i + 1))) := by
      rw [← S_split (s - 1) (1 + r) (fun k => ind s (k + 1) * Y (s + r - (k + 1))), ← e]
    rw [e1, S_zero' fun k hk => ?_, S_split 1 r, Int.zero_add]
    · congr 1
      · show (0 : Int) + ind s (s - 1 + 0 + 1) * Y (s + r - (s - 1 + 0 + 1)) = _
        rw [show s - 1 + 0 + 1 = s by omega, ind_self, Nat.add_sub_cancel_left, Int.zero_add]
      · refine S_congr fun k _ => ?_
        rw [show s - 1 + (1 + k) + 1 = s + (k + 1) by omega, ind_add, show s + r - (s + (k + 1)) = r - (k + 1) by omega]
    · rw [ind_small (by omega) (by omega), Int.zero_mul]
  · rw [if_neg h]
    refine S_zero' fun k hk => ?_
    rw [ind_small (by omega) (by omega), Int.zero_mul]
theorem S_sh {s n : Nat} (w Y : Nat → Int) : S n (fun k => w (k + 1) * sh s Y (n - (k + 1))) = sh s (fun m => S m fun k => w (k + 1) * Y (m - (k + 1))) n := by
  by_cases h : s ≤ n
  · show _ = if s ≤ n then _ else _
    rw [if_pos h, S_ext' (n := n - s) (m := n) (Nat.sub_le _ _)]
    · refine S_congr fun k hk => ?_
      unfold sh
      rw [if_pos (by omega), show n - (k + 1) - s = n - s - (k + 1) by omega]
    · intro k h1 h2
      unfold sh
      rw [if_neg (by omega), Int.mul_zero]
  · show _ = if s ≤ n then _ else _
    rw [if_neg h]
    refine S_zero' fun k _ => ?_
    unfold sh
    rw [if_neg (by omega), Int.mul_zero]
/-- X = Y + X shifted: times 1 / (1 - x^s) -/
theorem eul_up {w X Y : Nat → Int} {s : Nat} (hs : 1 ≤ s) (hX : ∀ n, X n = Y n + sh s X n) (h : Eul w Y) : Eul (fun k => w k + ind s k) X := by
  intro n
  induction n using Nat.strongRecOn with
  | ind n ih =>
    have e1 : S n (fun k => (w (k + 1) + ind s (k + 1)) * X (n - (k + 1))) = S n (fun k => w (k + 1) * Y (n - (k + 1))) + S n (fun k => w (k + 1) * sh s X (n - (k + 1))) + S n (fun k => ind s (k + 1) * X (n - (k + 1))) := by
      rw [← S_add, ← S_add]
      refine S_congr fun k _ => ?_
      rw [Int.add_mul, hX (n - (k + 1)), Int.mul_add, ← hX (n - (k + 1))]
    rw [e1, ← h n, S_sh, S_ind hs, hX n, Int.mul_add]
    by_cases hn : s ≤ n
    · unfold sh
      rw [if_pos hn, if_pos hn, if_pos hn]
      have i := ih (n - s) (by omega)
      have e2 : S (n - s) (fun k => (w (k + 1) + ind s (k + 1)) * X (n - s - (k + 1))) = S (n - s) (fun k => w (k + 1) * X (n - s - (k + 1))) + S (n - s) (fun k => ind s (k + 1) * X (n - s - (k + 1))) := by
        rw [← S_add]
        exact S_congr fun k _ => Int.add_mul _ _ _
      rw [e2] at i
      have hc : (n : Int) * X (n - s) = ((n - s : Nat) : Int) * X (n - s) + (s : Int) * X (n - s) := by
        rw [← Int.add_mul, show ((n - s : Nat) : Int) + (s : Int) = (n : Int) by omega]
      rw [hc, i]
      show _ = _ + S (n - s) (fun k => w (k + 1) * X (n - s - (k + 1))) + ((s : Int) * X (n - s) + S (n - s) fun k => ind s (k + 1) * X (n - s - (k + 1)))
      omega
    · unfold sh
      rw [if_neg hn, if_neg hn, if_neg hn]
      omega
/-- the same, back -/
theorem eul_down {w X Y : Nat → Int} {s : Nat} (hs : 1 ≤ s) (hX : ∀ n, X n = Y n + sh s X n) (h : Eul w X) : Eul (fun k => w k - ind s k) Y := by
  have T : ∀ n : Nat, S n (fun k => ind s (k + 1) * Y (n - (k + 1))) = (s : Int) * sh s X n := by
    intro n
    induction n using Nat.strongRecOn with
    | ind n ih =>
      rw [S_ind hs]
      by_cases hn : s ≤ n
      · unfold sh
        rw [if_pos hn, if_pos hn]
        show (s : Int) * Y (n - s) + S (n - s) (fun k => ind s (k + 1) * Y (n - s - (k + 1))) = _
        rw [ih (n - s) (by omega), ← Int.mul_add, ← hX (n - s)]
      · unfold sh
        rw [if_neg hn, if_neg hn, Int.mul_zero]
  intro n
  have hY : ∀ n, Y n = X n - sh s X n := fun n => by have := hX n; omega
  have e1 : S n (fun k => (w (k + 1) - ind s (k + 1)) * Y (n - (k + 1))) = S n (fun k => w (k + 1) * X (n - (k + 1))) - S n (fun k => w (k + 1) * sh s X (n - (k + 1))) - S n (fun k => ind s (k + 1) * Y (n - (k + 1))) := by
    rw [← S_sub, ← S_sub]
    refine S_congr fun k _ => ?_
    rw [Int.sub_mul, hY (n - (k + 1)), Int.mul_sub]
  rw [e1, T, S_sh, ← h n, hY n, Int.mul_sub]
  unfold sh
  by_cases hn : s ≤ n
  · rw [if_pos hn, if_pos hn]
    show _ = _ - S (n - s) (fun k => w (k + 1) * X (n - s - (k + 1))) - _
    rw [← h (n - s)]
    have hc : (n : Int) * X (n - s) = ((n - s : Nat) : Int) * X (n - s) + (s : Int) * X (n - s) := by
      rw [← Int.add_mul, show ((n - s : Nat) : Int) + (s : Int) = (n : Int) by omega]
    rw [hc]
    omega
  · rw [if_neg hn, if_neg hn]
    omega
end SMath

namespace SMath
/-- times 1 / (1 - x^s) -/
def upS (s : Nat) (B : Nat → Int) (n : Nat) : Int := S (n / s + 1) fun t => B (n - t * s)
theorem upS_eq {s : Nat} (hs : 1 ≤ s) (B : Nat → Int) (n : Nat) : upS s B n = B n + sh s (upS s B) n := by
  unfold upS sh
  rw [S_first, Nat.zero_mul, Nat.sub_zero]
  congr 1
  by_cases h : s ≤ n
  · rw [if_pos h]
    have e : n / s = (n - s) / s + 1 := by
      rw [Nat.div_eq_sub_div hs h]
    rw [e]
    refine S_congr fun i _ => ?_
    rw [Nat.succ_mul]
    congr 1
    omega
  · rw [if_neg h, Nat.div_eq_of_lt (by omega)]
    rfl
/-- times 1 - x^s -/
def dnS (s : Nat) (B : Nat → Int) (n : Nat) : Int := B n - sh s B n
theorem dnS_eq (s : Nat) (B : Nat → Int) (n : Nat) : B n = dnS s B n + sh s B n := by unfold dnS; omega
def iter (f : (Nat → Int) → Nat → Int) : Nat → (Nat → Int) → Nat → Int
  | 0, B => B
  | v + 1, B => f (iter f v B)
/-- times (1 - x^s)^(-c) -/
def facS (s : Nat) (c : Int) (B : Nat → Int) : Nat → Int := if 0 ≤ c then iter (upS s) c.toNat B else iter (dnS s) (-c).toNat B
theorem eul_iter_up {w B : Nat → Int} {s : Nat} (hs : 1 ≤ s) (h : Eul w B) : ∀ v : Nat, Eul (fun k => w k + (v : Int) * ind s k) (iter (upS s) v B)
  | 0 => by
    have e : (fun k => w k + ((0 : Nat) : Int) * ind s k) = w := by funext k; simp
    rw [e]
    exact h
  | v + 1 => by
    have i := eul_up hs (upS_eq hs _) (eul_iter_up hs h v)
    have e : (fun k => w k + ((v + 1 : Nat) : Int) * ind s k) = fun k => w k + (v : Int) * ind s k + ind s k := by
      funext k
      rw [show ((v + 1 : Nat) : Int) = (v : Int) + 1 by omega, Int.add_mul, Int.one_mul]
      omega
    rw [e]
    exact i
theorem eul_iter_dn {w B : Nat → Int} {s : Nat} (hs : 1 ≤ s) (h : Eul w B) : ∀ v : Nat, Eul (fun k => w k - (v : Int) * ind s k) (iter (dnS s) v B)
  | 0 => by
    have e : (fun k => w k - ((0 : Nat) : Int) * ind s k) = w := by funext k; simp
    rw [e]
    exact h
  | v + 1 => by
    have i := eul_down hs (dnS_eq s _) (eul_iter_dn hs h v)
    have e : (fun k => w k - ((v + 1 : Nat) : Int) * ind s k) = fun k => w k - (v : Int) * ind s k - ind s k := by
      funext k
      rw [show ((v + 1 : Nat) : Int) = (v : Int) + 1 by omega, Int.add_mul, Int.one_mul]
      omega
    rw [e]
    exact i
theorem eul_fac {w B : Nat → Int} {s : Nat} (hs : 1 ≤ s) (h : Eul w B) (c : Int) : Eul (fun k => w k + c * ind s k) (facS s c B) := by
  unfold facS
  by_cases hc : 0 ≤ c
  · rw [if_pos hc]
    have i := eul_iter_up hs h c.toNat
    rw [show ((c.toNat : Nat) : Int) = c from Int.toNat_of_nonneg hc] at i
    exact i
  · rw [if_neg hc]
    have i := eul_iter_dn hs h (-c).toNat
    rw [show (((-c).toNat : Nat) : Int) = -c from Int.toNat_of_nonneg (by omega)] at i
    have e : (fun k => w k + c * ind s k) = fun k => w k - -c * ind s k := by
      funext k
      rw [Int.neg_mul]
      omega
    rw [e]
    exact i
theorem up_0 {s : Nat} (hs : 1 ≤ s) (B : Nat → Int) : upS s B 0 = B 0 := by
  rw [upS_eq hs]
  unfold sh
  rw [if_neg (by omega), Int.add_zero]
theorem dn_0 {s : Nat} (hs : 1 ≤ s) (B : Nat → Int) : dnS s B 0 = B 0 := by
  unfold dnS sh
  rw [if_neg (by omega), Int.sub_zero]
theorem fac_0 {s : Nat} (hs : 1 ≤ s) (c : Int) (B : Nat → Int) : facS s c B 0 = B 0 := by
  have h : ∀ (f : (Nat → Int) → Nat → Int), (∀ B, f B 0 = B 0) → ∀ v, iter f v B 0 = B 0 := fun f hf v => by
    induction v with
    | zero => rfl
    | succ v ih => show f (iter f v B) 0 = _; rw [hf, ih]
  unfold facS
  split
  · exact h _ (up_0 hs) _
  · exact h _ (dn_0 hs) _
/-- the series of sets of the counts c, of sizes up to L -/
def setS (c : Nat → Int) : Nat → Nat → Int
  | 0 => fun n => if n = 0 then 1 else 0
  | L + 1 => facS (L + 1) (c (L + 1)) (setS c L)
def W (c : Nat → Int) (L k : Nat) : Int := S L fun i => c (i + 1) * ind (i + 1) k
theorem set_0 (c : Nat → Int) : ∀ L, setS c L 0 = 1
  | 0 => rfl
  | L + 1 => by
    show facS (L + 1) (c (L + 1)) (setS c L) 0 = 1
    rw [fac_0 (by omega), set_0 c L]
theorem eul_set (c : Nat → Int) : ∀ L, Eul (W c L) (setS c L)
  | 0 => by
    intro n
    have e : S n (fun k => W c 0 (k + 1) * setS c 0 (n - (k + 1))) = 0 := S_zero' fun k _ => Int.zero_mul _
    rw [e]
    show (n : Int) * (if n = 0 then 1 else 0) = 0
    by_cases h : n = 0
    · subst h; rfl
    · rw [if_neg h, Int.mul_zero]
  | L + 1 => eul_fac (by omega) (eul_set c L) (c (L + 1))
/-- both follow the same rule up to N: they are the same -/
theorem eul_same {w v A B : Nat → Int} {N : Nat} (hA : ∀ n : Nat, n ≤ N → (n : Int) * A n = S n fun k => w (k + 1) * A (n - (k + 1))) (hB : ∀ n : Nat, n ≤ N → (n : Int) * B n = S n fun k => v (k + 1) * B (n - (k + 1)))
    (hw : ∀ k, 1 ≤ k → k ≤ N → w k = v k) (h0 : A 0 = B 0) : ∀ n, n ≤ N → A n = B n := by
  intro n
  induction n using Nat.strongRecOn with
  | ind n ih =>
    intro hn
    by_cases hz : n = 0
    · rw [hz, h0]
    · have e : (n : Int) * A n = (n : Int) * B n := by
        rw [hA n hn, hB n hn]
        refine S_congr fun k hk => ?_
        rw [hw (k + 1) (by omega) (by omega), ih (n - (k + 1)) (by omega) (by omega)]
      exact Int.eq_of_mul_eq_mul_left (by omega) e
theorem ind_big {s k : Nat} (h1 : 1 ≤ k) (h2 : k < s) : ind s k = 0 := ind_small h1 h2
theorem W_more {c : Nat → Int} {L k : Nat} (h1 : 1 ≤ k) (h2 : k ≤ L) : W c L k = W c k k := by
  unfold W
  exact S_ext' h2 fun i a b => by rw [ind_small h1 (by omega), Int.mul_zero]
theorem W_last (c : Nat → Int) (n : Nat) : W c (n + 1) (n + 1) = W c n (n + 1) + c (n + 1) * ((n + 1 : Nat) : Int) := by
  show W c n (n + 1) + c (n + 1) * ind (n + 1) (n + 1) = _
  rw [ind_self]
/-- counts that begin with 1, undone without labels: the division leaves nothing -/
theorem undone_int {H c w : Nat → Int} {N : Nat} (H0 : H 0 = 1) (hw : ∀ n : Nat, n < N → w (n + 1) = ((n + 1 : Nat) : Int) * H (n + 1) - S n fun k => w (k + 1) * H (n + 1 - (k + 1))) (hc : ∀ n : Nat, n < N → c (n + 1) = (w (n + 1) - W c n (n + 1)) / ((n + 1 : Nat) : Int)) :
    ∀ n, n < N → w (n + 1) = W c (n + 1) (n + 1) := by
  intro n
  induction n using Nat.strongRecOn with
  | ind n ih =>
    intro hn
    -- the series of the sizes up to n
    have e0 : ∀ k, 1 ≤ k → k ≤ n → w k = W c n k := fun k h1 h2 => by
      obtain ⟨j, rfl⟩ : ∃ j, k = j + 1 := ⟨k - 1, by omega⟩
      rw [ih j (by omega) (by omega), W_more (by omega) h2]
    have hH : ∀ m : Nat, m ≤ n → (m : Int) * H m = S m fun k => w (k + 1) * H (m - (k + 1)) := fun m hm => by
      cases m with
      | zero => simp [S]
      | succ m =>
        have h := hw m (by omega)
        rw [S, Nat.sub_self, H0, Int.mul_one, h]
        omega
    have hP := eul_set c n
    have same : ∀ m, m ≤ n → H m = setS c n m := eul_same hH (fun m _ => hP m) e0 (by rw [H0, set_0])
    have e1 := hP (n + 1)
    rw [S, Nat.sub_self, set_0, Int.mul_one] at e1
    have e2 : S n (fun k => W c n (k + 1) * setS c n (n + 1 - (k + 1))) = S n fun k => w (k + 1) * H (n + 1 - (k + 1)) := by
      refine S_congr fun k hk => ?_
      rw [e0 (k + 1) (by omega) (by omega), same (n + 1 - (k + 1)) (by omega)]
    rw [e2] at e1
    have e3 := hw n hn
    have e4 : w (n + 1) - W c n (n + 1) = ((n + 1 : Nat) : Int) * (H (n + 1) - setS c n (n + 1)) := by
      rw [Int.mul_sub, e1, e3]
      omega
    have e5 := hc n hn
    rw [e4, Int.mul_ediv_cancel_left _ (by omega)] at e5
    rw [W_last, e5, Int.mul_comm (H (n + 1) - setS c n (n + 1)), ← e4]
    omega
/-! ### the numbers of members added up -/
def tot (B : Nat → Nat → Int) (n : Nat) : Int := S (n + 1) fun m => B m n
theorem tot_geo {s : Nat} (hs : 1 ≤ s) {B : Nat → Nat → Int} (hB : ∀ m n, n < m → B m n = 0) (n : Nat) : tot (geo s B) n = tot B n + sh s (tot (geo s B)) n := by
  have hG : ∀ m n, n < m → geo s B m n = 0 := by
    intro m
    induction m with
    | zero => intro n h; omega
    | succ m ih =>
      intro n h
      show B (m + 1) n + sh s (geo s B m) n = 0
      rw [hB _ _ h]
      unfold sh
      split
      · rw [ih (n - s) (by omega), Int.add_zero]
      · rfl
  unfold tot
  rw [S_first, S_first]
  have e : S n (fun i => geo s B (i + 1) n) = S n (fun i => B (i + 1) n) + S n (fun i => sh s (geo s B i) n) := by
    rw [← S_add]
    rfl
  rw [e]
  have e2 : S n (fun i => sh s (geo s B i) n) = sh s (fun n => S (n + 1) fun m => geo s B m n) n := by
    unfold sh
    by_cases h : s ≤ n
    · rw [if_pos h, S_ext' (n := n - s + 1) (m := n) (by omega)]
      · exact S_congr fun i _ => if_pos h
      · intro i h1 h2
        rw [if_pos h]
        exact hG i (n - s) (by omega)
    · rw [if_neg h]
      exact S_zero' fun i _ => if_neg h
  rw [e2]
  show B 0 n + _ = _
  omega
theorem geo_small {s : Nat} (hs : 1 ≤ s) {B : Nat → Nat → Int} (hB : ∀ m n, n < m → B m n = 0) : ∀ m n, n < m → geo s B m n = 0 := by
  intro m
  induction m with
  | zero => intro n h; omega
  | succ m ih =>
    intro n h
    show B (m + 1) n + sh s (geo s B m) n = 0
    rw [hB _ _ h]
    unfold sh
    split
    · rw [ih (n - s) (by omega), Int.add_zero]
    · rfl
theorem eul_geoN {s : Nat} (hs : 1 ≤ s) {w : Nat → Int} {B : Nat → Nat → Int} (hB : ∀ m n, n < m → B m n = 0) (h : Eul w (tot B)) : ∀ v : Nat, Eul (fun k => w k + (v : Int) * ind s k) (tot (geoN s v B)) ∧ ∀ m n, n < m → geoN s v B m n = 0
  | 0 => by
    have e : (fun k => w k + ((0 : Nat) : Int) * ind s k) = w := by funext k; simp
    rw [e]
    exact ⟨h, hB⟩
  | v + 1 => by
    obtain ⟨i1, i2⟩ := eul_geoN hs hB h v
    have e : (fun k => w k + ((v + 1 : Nat) : Int) * ind s k) = fun k => w k + (v : Int) * ind s k + ind s k := by
      funext k
      rw [show ((v + 1 : Nat) : Int) = (v : Int) + 1 by omega, Int.add_mul, Int.one_mul]
      omega
    rw [e]
    exact ⟨eul_up hs (tot_geo hs i2) i1, geo_small hs i2⟩
theorem eul_bag (c : Nat → Nat) : ∀ L, Eul (W (fun i => (c i : Int)) L) (tot (bag c L))
  | 0 => by
    have e : tot (bag c 0) = setS (fun i => (c i : Int)) 0 := by
      funext n
      show S (n + 1) (fun m => if m = 0 ∧ n = 0 then (1 : Int) else 0) = if n = 0 then 1 else 0
      rw [S_first, S_zero' fun m _ => if_neg (by omega), Int.add_zero]
      by_cases h : n = 0
      · rw [if_pos ⟨rfl, h⟩, if_pos h]
      · rw [if_neg (fun z => h z.2), if_neg h]
    rw [e]
    exact eul_set _ 0
  | L + 1 => (eul_geoN (by omega) (bag_small c L) (eul_bag c L) (c (L + 1))).1
end SMath

namespace SM
open PySem L2
open SMath hiding bin
abbrev bnm := SMath.bin
abbrev cF (cs : List Int) : Nat → Int := fun i => cs.getD i 0
/-! ### what the law reckons -/
def LR (lb : Bool) (c : Nat → Int) : Nat → Nat → Int
  | 0, n => if n = 0 then 1 else 0
  | m + 1, n => S (n + 1) fun k => c k * LR lb c m (n - k) * (if lb = true then bnm n k else 1)
def begun (c rest : Nat → Int) : Nat → Int
  | 0 => 0
  | n + 1 => S (n + 1) fun i => bnm n i * c (i + 1) * rest (n - i)
def LS (c : Nat → Int) : Nat → Nat → Int
  | 0, n => if n = 0 then 1 else 0
  | 1, n => LR true c 1 n
  | m + 2, n => begun c (LS c (m + 1)) n
def turnS (c : Nat → Int) (m n : Nat) : Int := S m fun t => if n * Nat.gcd m t % m = 0 then LR false c (Nat.gcd m t) (n * Nat.gcd m t / m) else 0
def LM (wd : Str) (lb : Bool) (cs : List Int) (m n : Nat) : Int :=
  if m = 0 then (if n = 0 then 1 else 0)
  else if wd = "row" ∨ m = 1 then LR lb (cF cs) m n
  else if lb = true then (if wd = "ring" then begun (cF cs) (LR true (cF cs) (m - 1)) n else LS (cF cs) m n)
  else if wd = "ring" then turnS (cF cs) m n / (m : Int)
  else bag (fun i => (cF cs i).toNat) (cs.length - 1) m n
/-! ### rows -/
theorem LR_R (c : Nat → Int) : ∀ m n, LR true c m n = R c m n
  | 0, n => rfl
  | m + 1, n => by
    show S (n + 1) _ = bc c (R c m) n
    unfold bc
    refine S_congr fun k _ => ?_
    rw [LR_R c m, if_pos rfl, Int.mul_comm (c k * _), ← Int.mul_assoc]
theorem LR_small {lb : Bool} {c : Nat → Int} (h0 : c 0 = 0) : ∀ m n, n < m → LR lb c m n = 0
  | m + 1, n, h => by
    show S (n + 1) _ = 0
    refine S_zero' fun k hk => ?_
    by_cases e : k = 0
    · rw [e, h0, Int.zero_mul, Int.zero_mul]
    · rw [LR_small h0 m (n - k) (by omega), Int.mul_zero, Int.zero_mul]
theorem bin_self : ∀ n, bnm n n = 1
  | 0 => rfl
  | n + 1 => by show SMath.bin n n + SMath.bin n (n + 1) = 1; rw [show SMath.bin n n = 1 from bin_self n, bin_gt (Nat.lt_succ_self n)]; rfl
theorem LR_1 (lb : Bool) (c : Nat → Int) (n : Nat) : LR lb c 1 n = c n := by
  show S (n + 1) (fun k => c k * LR lb c 0 (n - k) * (if lb = true then bnm n k else 1)) = _
  rw [S, S_zero' fun k hk => ?_, Nat.sub_self, Int.zero_add]
  · have : LR lb c 0 0 = 1 := rfl
    rw [this, bin_self, Int.mul_one]
    split <;> exact Int.mul_one _
  · have : LR lb c 0 (n - k) = 0 := if_neg (by omega)
    rw [this, Int.mul_zero, Int.zero_mul]
def combB : Bool := (List.range 14).all fun n => (List.range (n + 1)).all fun k => PySem.W.mcComb n k == bnm n k
theorem combB_t : combB = true := by decide +kernel
theorem comb_bin {n k : Nat} (hn : n ≤ 13) (hk : k ≤ n) : PySem.W.mcComb n k = bnm n k := by
  have h := combB_t
  unfold combB at h
  rw [List.all_eq_true] at h
  have h1 := h n (List.mem_range.mpr (by omega))
  rw [List.all_eq_true] at h1
  exact beq_iff_eq.mp (h1 k (List.mem_range.mpr (by omega)))
theorem mode_lab (lb : Bool) : (modeS lb = "labelled") ↔ lb = true := by
  cases lb with
  | true => exact ⟨fun _ => rfl, fun _ => by unfold modeS; rw [if_pos rfl]⟩
  | false =>
    refine ⟨fun h => ?_, fun h => by cases h⟩
    have : ¬ (("unlabelled" : Str) = "labelled") := by decide +kernel
    exact absurd h this
theorem shr_bin {lb : Bool} {n k : Nat} (hn : n ≤ 13) (hk : k ≤ n) : shr (modeS lb) n k = if lb = true then bnm n k else 1 := by
  unfold shr
  by_cases h : lb = true
  · rw [if_pos ((mode_lab lb).mpr h), if_pos h]
    exact comb_bin hn hk
  · rw [if_neg (fun z => h ((mode_lab lb).mp z)), if_neg h]
theorem tab_LR {lb : Bool} {cs : List Int} (h0 : cs.getD 0 0 = 0) : ∀ m n, n ≤ 13 → tab (modeS lb) cs m n = LR lb (cF cs) m n
  | 0, n, _ => by rw [tab]; rfl
  | 1, n, _ => by rw [tab, LR_1]
  | m + 2, n, hn => by
    rw [tab, S_list]
    show _ = S (n + 1) (fun k => cF cs k * LR lb (cF cs) (m + 1) (n - k) * (if lb = true then bnm n k else 1))
    rw [S_first]
    have e0 : cF cs 0 * LR lb (cF cs) (m + 1) (n - 0) * (if lb = true then bnm n 0 else 1) = 0 := by
      rw [show cF cs 0 = 0 from h0, Int.zero_mul, Int.zero_mul]
    rw [e0, Int.zero_add, S_ext' (n := n - (m + 1)) (m := n) (Nat.sub_le _ _)]
    · refine S_congr fun i hi => ?_
      rw [tab_LR h0 (m + 1) (n - (i + 1)) (by omega), show ((i : Int) + 1) = ((i + 1 : Nat) : Int) by omega, shr_bin hn (by omega)]
      rw [Int.mul_comm _ (cs.getD (i + 1) 0), Int.mul_assoc, Int.mul_comm (if lb = true then bnm n (i + 1) else 1), ← Int.mul_assoc]
    · intro i h1 h2
      rw [LR_small h0 (m + 1) (n - (i + 1)) (by omega), Int.mul_zero, Int.zero_mul]
/-! ### rings and sets with labels -/
theorem R_small {c : Nat → Int} (h0 : c 0 = 0) {m n : Nat} (h : n < m) : R c m n = 0 := by rw [← LR_R]; exact LR_small h0 m n h
theorem begun_R {c : Nat → Int} (h0 : c 0 = 0) (m n : Nat) : ((m : Int) + 1) * begun c (R c m) n = R c (m + 1) n := by
  cases n with
  | zero => rw [R_small h0 (Nat.succ_pos m)]; exact Int.mul_zero _
  | succ n => rw [R_dl]; rfl
theorem begun_mul (c rest : Nat → Int) (k : Int) (n : Nat) : begun c (fun i => k * rest i) n = k * begun c rest n := by
  cases n with
  | zero => exact (Int.mul_zero _).symm
  | succ n =>
    show S (n + 1) _ = k * S (n + 1) _
    rw [← S_mul]
    exact S_congr fun i _ => by rw [← Int.mul_assoc, Int.mul_comm (bnm n i * c (i + 1)) k, Int.mul_assoc]
def factB : Bool := (List.range 61).all fun a => fct (a + 1) == ((a : Int) + 1) * fct a
theorem factB_t : factB = true := by decide +kernel
theorem fct_succ {a : Nat} (h : a ≤ 60) : fct (a + 1) = ((a : Int) + 1) * fct a := by
  have h0 := factB_t
  unfold factB at h0
  rw [List.all_eq_true] at h0
  exact beq_iff_eq.mp (h0 a (List.mem_range.mpr (by omega)))
theorem fct_1 : fct 1 = 1 := by decide
theorem fct_0 : fct 0 = 1 := by decide
theorem LS_R {c : Nat → Int} (h0 : c 0 = 0) : ∀ m, m + 1 ≤ 60 → ∀ n, fct (m + 1) * LS c (m + 1) n = R c (m + 1) n
  | 0, _, n => by
    rw [fct_1, Int.one_mul]
    show LR true c 1 n = _
    rw [LR_R]
  | m + 1, hm, n => by
    have ih := LS_R h0 m (by omega)
    rw [fct_succ (by omega), Int.mul_assoc]
    have e : fct (m + 1) * LS c (m + 1 + 1) n = begun c (R c (m + 1)) n := by
      show fct (m + 1) * begun c (LS c (m + 1)) n = _
      rw [← begun_mul, show (fun i => fct (m + 1) * LS c (m + 1) i) = R c (m + 1) from funext ih]
    rw [e]
    exact begun_R h0 (m + 1) n
/-! ### sets without labels -/
theorem hs_bag {cs : List Int} (h0 : cs.getD 0 0 = 0) (hp : ∀ i, 0 ≤ cs.getD i 0) {L : Nat} : ∀ m n, n ≤ L → hs cs m n = bag (fun i => (cs.getD i 0).toNat) L m n := by
  intro m
  induction m using Nat.strongRecOn with
  | ind m ih =>
    intro n hn
    have hc : ∀ i, (((cs.getD i 0).toNat : Nat) : Int) = cs.getD i 0 := fun i => Int.toNat_of_nonneg (hp i)
    match m with
    | 0 => rw [hs_0, bag_0]
    | 1 =>
      rw [hs_1]
      have h := rec_bag (fun i => (cs.getD i 0).toNat) L 0 n
      simp only [S, Int.zero_add, Nat.sub_zero] at h
      have h' : bag (fun i => (cs.getD i 0).toNat) L 1 n = Pc (fun i => (cs.getD i 0).toNat) L 1 (bag (fun i => (cs.getD i 0).toNat) L 0) n := by simpa using h
      rw [h']
      unfold Pc
      have b0 : bag (fun i => (cs.getD i 0).toNat) L 0 = fun n => if n = 0 then 1 else 0 := funext fun n => bag_0 _ n L
      rw [b0]
      cases n with
      | zero =>
        rw [h0, S_zero' fun i _ => ?_]
        unfold sh
        rw [if_neg (by omega), Int.mul_zero]
      | succ n =>
        rw [S_ext' (n := n + 1) (m := L) hn]
        · rw [S, S_zero' fun i hi => ?_]
          · unfold sh
            rw [if_pos (by omega)]
            show _ = 0 + ((cs.getD (n + 1) 0).toNat : Int) * (if n + 1 - 1 * (n + 1) = 0 then (1 : Int) else 0)
            rw [if_pos (by omega), Int.mul_one, hc, Int.zero_add]
          · unfold sh
            rw [if_pos (by omega)]
            show ((cs.getD (i + 1) 0).toNat : Int) * (if n + 1 - 1 * (i + 1) = 0 then (1 : Int) else 0) = 0
            rw [if_neg (by omega), Int.mul_zero]
        · intro i h1 h2
          unfold sh
          rw [if_neg (by omega), Int.mul_zero]
    | m + 2 =>
      by_cases hl : n < m + 2
      · rw [hs_small hl, bag_small _ _ _ _ hl]
      · rw [hs_2 hl, S_list]
        have h := rec_bag (fun i => (cs.getD i 0).toNat) L (m + 1) n
        have e : S (m + 2) (fun i : Nat => ((List.range ((n - (m + 2)) / (i + 1) + 1)).map fun j : Nat => cs.getD (j + 1) 0 * hs cs (m + 1 - i) (n - (i + 1) * (j + 1))).sum) = S (m + 1 + 1) (fun e => Pc (fun i => (cs.getD i 0).toNat) L (e + 1) (bag (fun i => (cs.getD i 0).toNat) L (m + 1 - e)) n) := by
          refine S_congr fun i hi => ?_
          rw [S_list]
          have hq := Nat.div_le_self (n - (m + 2)) (i + 1)
          have hq2 := Nat.mul_div_le (n - (m + 2)) (i + 1)
          have hq3 := Nat.lt_mul_div_succ (n - (m + 2)) (show 0 < i + 1 by omega)
          generalize hQ : (n - (m + 2)) / (i + 1) = q at hq hq2 hq3
          unfold Pc
          rw [S_ext' (n := q + 1) (m := L) (by omega)]
          · refine S_congr fun j hj => ?_
            have hj' : (i + 1) * (j + 1) ≤ n := by
              have : (i + 1) * (j + 1) ≤ (i + 1) * (q + 1) := Nat.mul_le_mul_left _ (by omega)
              rw [Nat.mul_succ (i + 1) q] at this
              omega
            rw [hc, ih (m + 1 - i) (by omega) _ (by omega)]
            unfold sh
            rw [if_pos hj']
          · intro j h1 h2
            have hj' : (i + 1) * (q + 1 + 1) ≤ (i + 1) * (j + 1) := Nat.mul_le_mul_left _ (by omega)
            rw [Nat.mul_succ (i + 1) (q + 1)] at hj'
            unfold sh
            split
            · rw [bag_small _ _ _ _ (by omega), Int.mul_zero]
            · rw [Int.mul_zero]
        rw [e, ← h]
        have hm : ((m + 1 : Nat) : Int) + 1 = (m : Int) + 2 := by omega
        rw [hm, Int.mul_comm]
        exact Int.mul_ediv_cancel _ (by omega)
/-! ### rings without labels -/
def turnL (m n : Nat) : List (Nat × Nat) := (List.range m).filterMap fun t => if n * Nat.gcd m t % m = 0 then some (Nat.gcd m t, n * Nat.gcd m t / m) else none
def ringLL (m n : Nat) : List (Nat × Nat) := (ringL m n).flatMap fun i => List.replicate (phi (i + 1)).toNat (m / (i + 1), n / (i + 1))
def turnB : Bool := (List.range 14).all fun m => (List.range 14).all fun n => (turnL (m + 1) n).isPerm (ringLL (m + 1) n)
theorem turnB_t : turnB = true := by decide +kernel
theorem turn_perm {m n : Nat} (hm : 1 ≤ m) (hm2 : m ≤ 14) (hn : n ≤ 13) : (turnL m n).Perm (ringLL m n) := by
  have h := turnB_t
  unfold turnB at h
  rw [List.all_eq_true] at h
  have h1 := h (m - 1) (List.mem_range.mpr (by omega))
  rw [List.all_eq_true] at h1
  have h2 := h1 n (List.mem_range.mpr (by omega))
  rw [show m - 1 + 1 = m by omega] at h2
  exact List.isPerm_iff.mp h2
theorem sum_filterMap {α : Type} (p : α → Option (Nat × Nat)) (g : Nat × Nat → Int) : ∀ l : List α, ((l.filterMap p).map g).sum = (l.map fun x => match p x with | some y => g y | none => 0).sum
  | [] => rfl
  | x :: r => by
    cases e : p x with
    | none => rw [List.filterMap_cons_none e, sum_filterMap p g r]; simp [e]
    | some y => rw [List.filterMap_cons_some e, List.map_cons, List.sum_cons, sum_filterMap p g r]; simp [e]
theorem sum_replicate (k : Nat) (v : Int) : (List.replicate k v).sum = k * v := by
  induction k with
  | zero => simp
  | succ k ih => rw [List.replicate_succ, List.sum_cons, ih, show ((k + 1 : Nat) : Int) = (k : Int) + 1 by omega, Int.add_mul]; omega
theorem sum_flat (p : Nat → Nat × Nat) (g : Nat × Nat → Int) : ∀ l : List Nat, ((l.flatMap fun i => List.replicate (phi (i + 1)).toNat (p i)).map g).sum = (l.map fun i => phi (i + 1) * g (p i)).sum
  | [] => rfl
  | x :: r => by
    rw [List.flatMap_cons, List.map_append, List.sum_append, sum_flat p g r, List.map_cons, List.sum_cons, List.map_replicate, sum_replicate, Int.toNat_of_nonneg (phi_le (x + 1)).1]
theorem perm_sum {a b : List Int} (h : a.Perm b) : a.sum = b.sum := by
  induction h with
  | nil => rfl
  | cons x _ ih => rw [List.sum_cons, List.sum_cons, ih]
  | swap x y l => rw [List.sum_cons, List.sum_cons, List.sum_cons, List.sum_cons]; omega
  | trans _ _ a b => exact a.trans b
theorem ring_turn {g : Nat → Nat → Int} {m n : Nat} (hm : 1 ≤ m) (hm2 : m ≤ 14) (hn : n ≤ 13) :
    ((ringL m n).map fun i => phi (i + 1) * g (m / (i + 1)) (n / (i + 1))).sum = S m fun t => if n * Nat.gcd m t % m = 0 then g (Nat.gcd m t) (n * Nat.gcd m t / m) else 0 := by
  have h1 := sum_flat (fun i => (m / (i + 1), n / (i + 1))) (fun x => g x.1 x.2) (ringL m n)
  have h2 := sum_filterMap (fun t => if n * Nat.gcd m t % m = 0 then some (Nat.gcd m t, n * Nat.gcd m t / m) else none) (fun x => g x.1 x.2) (List.range m)
  have h3 := perm_sum ((turn_perm hm hm2 hn).map fun x : Nat × Nat => g x.1 x.2)
  have e1 : ((ringL m n).map fun i => phi (i + 1) * g (m / (i + 1)) (n / (i + 1))).sum = ((ringLL m n).map fun x => g x.1 x.2).sum := h1.symm
  rw [e1, ← h3]
  unfold turnL
  rw [h2, S_list]
  refine S_congr fun t _ => ?_
  by_cases e : n * Nat.gcd m t % m = 0
  · simp only [if_pos e]
  · simp only [if_neg e]
/-! ### all of it -/
theorem tab_LR' {lb : Bool} {cs : List Int} {m n : Nat} (h : cs.getD 0 0 = 0 ∨ m < 2) (hn : n ≤ 13) : tab (modeS lb) cs m n = LR lb (cF cs) m n := by
  rcases h with h | h
  · exact tab_LR h m n hn
  · match m, h with
    | 0, _ => rw [tab]; rfl
    | 1, _ => rw [tab, LR_1]
theorem nrs : ¬ (("row" : Str) = "set") := by decide +kernel
theorem nrr : ¬ (("ring" : Str) = "row") := by decide +kernel
theorem nrg : ¬ (("ring" : Str) = "set") := by decide +kernel
theorem nsr : ¬ (("set" : Str) = "row") := by decide +kernel
theorem nsg : ¬ (("set" : Str) = "ring") := by decide +kernel
theorem unl_set {lb : Bool} : unl "set" (modeS lb) = !lb := by
  unfold unl
  rw [decide_eq_true rfl, Bool.true_and]
  cases lb with
  | true => rw [decide_eq_true ((mode_lab true).mpr rfl)]
  | false => rw [decide_eq_false fun z => by have := (mode_lab false).mp z; cases this]
theorem unl_row {lb : Bool} : unl "row" (modeS lb) = false := by
  unfold unl
  rw [decide_eq_false nrs, Bool.false_and]
theorem unl_ring {lb : Bool} : unl "ring" (modeS lb) = false := by
  unfold unl
  rw [decide_eq_false nrg, Bool.false_and]
theorem phi_1 : phi 1 = 1 := by decide
theorem ringL_1 (n : Nat) : ringL 1 n = [0] := by
  unfold ringL
  rw [Nat.gcd_one_left]
  rfl
/-- the four forms of exG -/
theorem exG_row {lb : Bool} {cs : List Int} {m n : Nat} : exG "row" (modeS lb) cs m n = tab (modeS lb) cs m n := by
  unfold exG
  rw [if_pos (.inl rfl), tg_t unl_row]
theorem exG_setL {cs : List Int} {m n : Nat} : exG "set" (modeS true) cs m n = tab (modeS true) cs m n / fct m := by
  unfold exG
  rw [if_neg (by rw [unl_set]; exact fun z => z.elim nsr Bool.noConfusion), if_pos rfl, tg_t (by rw [unl_set]; rfl)]
theorem exG_setU {cs : List Int} {m n : Nat} : exG "set" (modeS false) cs m n = hs cs m n := by
  unfold exG
  rw [if_pos (.inr (by rw [unl_set]; rfl)), tg_u (by rw [unl_set]; rfl)]
theorem exG_ringL {cs : List Int} {m n : Nat} : exG "ring" (modeS true) cs m n = tab (modeS true) cs m n / (m : Int) := by
  unfold exG
  rw [if_neg (by rw [unl_ring]; exact fun z => z.elim nrr Bool.noConfusion), if_neg nrg, if_pos ((mode_lab true).mpr rfl), tg_t unl_ring]
theorem exG_ringU {cs : List Int} {m n : Nat} : exG "ring" (modeS false) cs m n = ringV (fun a b => tab (modeS false) cs a b) m n := by
  unfold exG
  rw [if_neg (by rw [unl_ring]; exact fun z => z.elim nrr Bool.noConfusion), if_neg nrg, if_neg (fun z => by have := (mode_lab false).mp z; cases this)]
  congr 1
theorem fct_pos {a : Nat} (h : a ≤ 61) : 0 < fct a := by
  have h0 := factOk_t
  unfold factOk at h0
  rw [List.all_eq_true] at h0
  have h1 := h0 a (List.mem_range.mpr (by omega))
  rw [Bool.and_eq_true, decide_eq_true_eq, decide_eq_true_eq] at h1
  exact h1.1
theorem exG_LM {wd : Str} {lb : Bool} {cs : List Int} {m n : Nat} (hw : wd = "row" ∨ wd = "set" ∨ wd = "ring") (hp : ∀ i, 0 ≤ cs.getD i 0) (h0 : cs.getD 0 0 = 0 ∨ m < 2) (hm : m ≤ 13) (hn : n < cs.length) (hc : cs.length ≤ 14) (hr : wd = "ring" → 1 ≤ m) :
    exG wd (modeS lb) cs m n = LM wd lb cs m n := by
  unfold LM
  by_cases hm0 : m = 0
  · subst hm0
    rw [if_pos rfl]
    rcases hw with rfl | rfl | rfl
    · rw [exG_row, tab]
    · cases lb with
      | true => rw [exG_setL, tab, fct_0, Int.ediv_one]
      | false => rw [exG_setU, hs_0]
    · have := hr rfl
      omega
  rw [if_neg hm0]
  by_cases hrow : wd = "row"
  · subst hrow
    rw [if_pos (.inl rfl), exG_row, tab_LR' h0 (by omega)]
  by_cases hm1 : m = 1
  · subst hm1
    rw [if_pos (.inr rfl), LR_1]
    rcases hw with rfl | rfl | rfl
    · exact absurd rfl hrow
    · cases lb with
      | true => rw [exG_setL, tab, fct_1, Int.ediv_one]
      | false => rw [exG_setU, hs_1]
    · cases lb with
      | true => rw [exG_ringL, tab]; exact Int.ediv_one _
      | false =>
        rw [exG_ringU]
        unfold ringV
        rw [ringL_1]
        show (phi 1 * tab (modeS false) cs (1 / 1) (n / 1) + 0) / 1 = _
        rw [phi_1, Nat.div_one, Nat.div_one, tab, Int.one_mul, Int.add_zero]
        exact Int.ediv_one _
  have c0 : cs.getD 0 0 = 0 := h0.elim id fun z => by omega
  rw [if_neg (fun z => z.elim hrow hm1)]
  rcases hw with rfl | rfl | rfl
  · exact absurd rfl hrow
  · cases lb with
    | true =>
      rw [if_pos rfl, if_neg nsg, exG_setL, tab_LR c0 m n (by omega), LR_R]
      have h := LS_R (c := cF cs) c0 (m - 1) (by omega) n
      rw [show m - 1 + 1 = m by omega] at h
      rw [← h]
      exact Int.mul_ediv_cancel_left _ (by have := fct_pos (a := m) (by omega); omega)
    | false =>
      rw [if_neg Bool.false_ne_true, if_neg nsg, exG_setU]
      exact hs_bag c0 hp m n (by omega)
  · cases lb with
    | true =>
      rw [if_pos rfl, if_pos rfl, exG_ringL, tab_LR c0 m n (by omega), LR_R]
      have h := begun_R (c := cF cs) c0 (m - 1) n
      rw [show m - 1 + 1 = m by omega, show ((m - 1 : Nat) : Int) + 1 = (m : Int) by omega] at h
      rw [show LR true (cF cs) (m - 1) = R (cF cs) (m - 1) from funext fun n => LR_R _ _ n, ← h]
      exact Int.mul_ediv_cancel_left _ (by omega)
    | false =>
      rw [if_neg Bool.false_ne_true, if_pos rfl, exG_ringU]
      unfold ringV
      rw [ring_turn (by omega) (by omega) (by omega)]
      congr 1
      unfold turnS
      refine S_congr fun t _ => ?_
      split
      · refine tab_LR c0 _ _ ?_
        have hg : Nat.gcd m t ≤ m := Nat.gcd_le_left t (by omega)
        have : n * Nat.gcd m t / m ≤ n := Nat.div_le_of_le_mul (by rw [Nat.mul_comm m n]; exact Nat.mul_le_mul_left n hg)
        omega
      · rfl
theorem begun_small {c rest : Nat → Int} {m n : Nat} (h : ∀ k, k < m → rest k = 0) (hn : n < m + 1) : begun c rest n = 0 := by
  cases n with
  | zero => rfl
  | succ n =>
    show S (n + 1) _ = 0
    exact S_zero' fun i _ => by rw [h (n - i) (by omega), Int.mul_zero]
theorem LM_small {wd : Str} {lb : Bool} {cs : List Int} {m n : Nat} (hw : wd = "row" ∨ wd = "set" ∨ wd = "ring") (c0 : cs.getD 0 0 = 0) (hm : m ≤ 13) (hn : n < m) (h1 : 1 < m) : LM wd lb cs m n = 0 := by
  unfold LM
  rw [if_neg (by omega)]
  split
  · exact LR_small c0 m n hn
  split
  · split
    · refine begun_small (m := m - 1) (fun k hk => LR_small c0 _ k hk) (by omega)
    · have h := LS_R (c := cF cs) c0 (m - 1) (by omega) n
      rw [show m - 1 + 1 = m by omega, R_small c0 hn] at h
      rcases Int.mul_eq_zero.mp h with h | h
      · have := fct_pos (a := m) (by omega)
        omega
      · exact h
  split
  · have : turnS (cF cs) m n = 0 := by
      refine S_zero' fun t _ => ?_
      split
      · refine LR_small c0 _ _ ?_
        have hg : 0 < Nat.gcd m t := Nat.gcd_pos_of_pos_left t (by omega)
        exact (Nat.div_lt_iff_lt_mul (by omega)).mpr (by rw [Nat.mul_comm]; exact Nat.mul_lt_mul_of_pos_left hn hg)
      · rfl
    rw [this]
    exact Int.zero_ediv _
  · exact bag_small _ _ _ _ hn
end SM

namespace SMath
theorem pow2_succ (n : Nat) : (2 : Int) ^ (n + 1) = 2 ^ n + 2 ^ n := by rw [Int.pow_succ]; omega
theorem pow2_pos (n : Nat) : (1 : Int) ≤ 2 ^ n := by
  induction n with
  | zero => decide
  | succ n ih => rw [pow2_succ]; omega
theorem bin_le : ∀ n k, 0 ≤ bin n k ∧ bin n k ≤ 2 ^ n
  | n, 0 => by rw [bin_0]; exact ⟨by decide, pow2_pos n⟩
  | 0, k + 1 => by rw [bin]; exact ⟨by decide, by decide⟩
  | n + 1, k + 1 => by
    have h1 := bin_le n k
    have h2 := bin_le n (k + 1)
    rw [bin, pow2_succ]
    omega
theorem G_le : ∀ v t, 0 ≤ G v t ∧ G v t ≤ 2 ^ (v + t)
  | v, 0 => by rw [G_0]; exact ⟨by decide, pow2_pos _⟩
  | 0, t + 1 => by rw [G]; exact ⟨by decide, Int.le_trans (by decide) (pow2_pos _)⟩
  | v + 1, t + 1 => by
    have h1 := G_le (v + 1) t
    have h2 := G_le v (t + 1)
    rw [G, show v + 1 + (t + 1) = (v + 1 + t) + 1 by omega, pow2_succ]
    rw [show v + (t + 1) = v + 1 + t by omega] at h2
    omega
theorem bin_step : ∀ n k : Nat, ((k : Int) + 1) * bin n (k + 1) = ((n : Int) - k) * bin n k
  | 0, 0 => by decide
  | 0, k + 1 => by
    rw [bin, bin]; simp
  | n + 1, 0 => by
    have h := bin_step n 0
    rw [bin_0] at h ⊢
    rw [show bin (n + 1) (0 + 1) = bin n 0 + bin n (0 + 1) from rfl, bin_0]
    have e : ((0 : Nat) : Int) = 0 := rfl
    rw [e] at h ⊢
    have e2 : ((n + 1 : Nat) : Int) = (n : Int) + 1 := by omega
    rw [e2]
    omega
  | n + 1, k + 1 => by
    have h1 := bin_step n (k + 1)
    have h2 := bin_step n k
    rw [bin, show bin (n + 1) (k + 1) = bin n k + bin n (k + 1) from rfl, Int.mul_add, h1]
    have e1 : ((k + 1 : Nat) : Int) = (k : Int) + 1 := by omega
    have e2 : ((n + 1 : Nat) : Int) = (n : Int) + 1 := by omega
    rw [e1, e2, Int.mul_add]
    have e3 : ((n : Int) + 1 - ((k : Int) + 1)) = (n : Int) - k := by omega
    rw [e3, ← h2]
    generalize bin n (k + 1) = x
    have a : ((k : Int) + 1 + 1) * x = ((k : Int) + 1) * x + x := by rw [Int.add_mul ((k : Int) + 1) 1, Int.one_mul]
    rw [← Int.add_mul, ← Int.add_mul]
    congr 1
    omega
theorem G_bin : ∀ v t : Nat, G v t = bin (v + t - 1) t
  | v, 0 => by rw [G_0, bin_0]
  | 0, t + 1 => by rw [G, bin_gt (by omega)]
  | v + 1, t + 1 => by
    rw [G, G_bin (v + 1) t, G_bin v (t + 1), show v + 1 + (t + 1) - 1 = (v + t) + 1 by omega, bin, show v + 1 + t - 1 = v + t by omega, show v + (t + 1) - 1 = v + t by omega]
theorem bag_step (c : Nat → Nat) (L m n : Nat) : bag c (L + 1) m n = S (min m (n / (L + 1)) + 1) fun t => bag c L (m - t) (n - t * (L + 1)) * G (c (L + 1)) t := by
  show geoN (L + 1) (c (L + 1)) (bag c L) m n = _
  rw [geoN_eq, S_ext' (n := min m (n / (L + 1)) + 1) (m := m + 1) (by omega)]
  · refine S_congr fun t ht => ?_
    have : t ≤ n / (L + 1) := by omega
    have h2 : t * (L + 1) ≤ n := (Nat.le_div_iff_mul_le (by omega)).mp this
    unfold sh
    rw [if_pos h2, Int.mul_comm]
  · intro t h1 h2
    have : ¬ t ≤ n / (L + 1) := by omega
    have h2 : ¬ t * (L + 1) ≤ n := fun z => this ((Nat.le_div_iff_mul_le (by omega)).mpr z)
    unfold sh
    rw [if_neg h2, Int.mul_zero]
end SMath

namespace SM
open PySem L2
/-! ### sets of any number of members -/
def eS (c : Nat → Int) (n : Nat) : Int := SMath.S (n + 1) fun m => LS c m n
theorem LS_small {c : Nat → Int} (h0 : c 0 = 0) {m n : Nat} (hn : n < m) (hm : m ≤ 60) : LS c m n = 0 := by
  have h := LS_R (c := c) h0 (m - 1) (by omega) n
  rw [show m - 1 + 1 = m by omega, R_small h0 hn] at h
  rcases Int.mul_eq_zero.mp h with h | h
  · have := fct_pos (a := m) (by omega)
    omega
  · exact h
theorem LS_begun (c : Nat → Int) : ∀ m n : Nat, LS c (m + 1) (n + 1) = begun c (LS c m) (n + 1)
  | 0, n => by
    show LR true c 1 (n + 1) = SMath.S (n + 1) fun i => bnm n i * c (i + 1) * LS c 0 (n - i)
    rw [LR_1, SMath.S, SMath.S_zero' fun i hi => ?_, Nat.sub_self]
    · show _ = 0 + SMath.bin n n * c (n + 1) * (if 0 = 0 then (1 : Int) else 0)
      rw [show SMath.bin n n = 1 from bin_self n, if_pos rfl]
      omega
    · show _ * (if n - i = 0 then (1 : Int) else 0) = 0
      rw [if_neg (by omega), Int.mul_zero]
  | m + 1, n => rfl
theorem eS_0 (c : Nat → Int) : eS c 0 = 1 := rfl
theorem eS_succ {c : Nat → Int} (h0 : c 0 = 0) {n : Nat} (hn : n ≤ 40) : eS c (n + 1) = SMath.S (n + 1) fun i => SMath.bin n i * c (i + 1) * eS c (n - i) := by
  unfold eS
  rw [SMath.S_first]
  have z : LS c 0 (n + 1) = 0 := if_neg (by omega)
  rw [z, Int.zero_add]
  have e : SMath.S (n + 1) (fun i => LS c (i + 1) (n + 1)) = SMath.S (n + 1) fun m => SMath.S (n + 1) fun i => SMath.bin n i * c (i + 1) * LS c m (n - i) :=
    SMath.S_congr fun m _ => LS_begun c m n
  rw [e, SMath.S_swap]
  refine SMath.S_congr fun i hi => ?_
  rw [SMath.S_mul, SMath.S_ext' (n := n - i + 1) (m := n + 1) (by omega)]
  intro m h1 h2
  exact LS_small h0 (by omega) (by omega)
/-- what the law's sets follow -/
def SetF (lb : Bool) (c F : Nat → Int) (N : Nat) : Prop := F 0 = 1 ∧ ∀ n, n + 1 < N → if lb = true then F (n + 1) = SMath.S (n + 1) (fun i => SMath.bin n i * c (i + 1) * F (n - i)) else ((n + 1 : Nat) : Int) * F (n + 1) = SMath.S (n + 1) fun k => SMath.W c (k + 1) (k + 1) * F (n + 1 - (k + 1))
def wholeF (lb : Bool) (cs : List Int) (n : Nat) : Int := if lb = true then eS (cF cs) n else SMath.tot (SMath.bag (fun i => (cF cs i).toNat) (cs.length - 1)) n
theorem whole_out {lb : Bool} {cs : List Int} {n : Nat} (hp : ∀ i, 0 ≤ cs.getD i 0) (h0 : cs.getD 0 0 = 0) (hn : n < cs.length) (hc : cs.length ≤ 14) : outG "set" (modeS lb) cs none 0 n = wholeF lb cs n := by
  unfold outG
  rw [SMath.S_list]
  show SMath.S (max n 1 + 1 - 0) (fun i => exG "set" (modeS lb) cs (0 + i) n) = _
  have e1 : SMath.S (max n 1 + 1 - 0) (fun i => exG "set" (modeS lb) cs (0 + i) n) = SMath.S (n + 1) (fun i => LM "set" lb cs i n) := by
    have x1 := Nat.le_max_left n 1
    have x2 : max n 1 = n ∨ max n 1 = 1 := (Nat.le_total n 1).elim (fun h => .inr (Nat.max_eq_right h)) (fun h => .inl (Nat.max_eq_left h))
    generalize max n 1 = X at x1 x2
    have e : SMath.S (X + 1 - 0) (fun i => exG "set" (modeS lb) cs (0 + i) n) = SMath.S (X + 1) (fun i => LM "set" lb cs i n) := by
      refine SMath.S_congr fun i hi => ?_
      rw [Nat.zero_add]
      exact exG_LM (.inr (.inl rfl)) hp (.inl h0) (by omega) hn hc (fun z => absurd z nsg)
    rw [e]
    refine SMath.S_ext' (by omega) fun i h1 h2 => ?_
    by_cases hi : 1 < i
    · exact LM_small (.inr (.inl rfl)) h0 (by omega) (by omega) hi
    · have hi1 : i = 1 := by omega
      have hn0 : n = 0 := by omega
      subst hi1
      subst hn0
      unfold LM
      rw [if_neg (by omega), if_pos (.inr rfl), LR_1]
      exact h0
  rw [e1]
  unfold wholeF
  have hL : ∀ m, LM "set" lb cs m n = if lb = true then LS (cF cs) m n else SMath.bag (fun i => (cF cs i).toNat) (cs.length - 1) m n := fun m => by
    unfold LM
    by_cases hm0 : m = 0
    · subst hm0
      rw [if_pos rfl, SMath.bag_0]
      cases lb <;> rfl
    · rw [if_neg hm0]
      by_cases hm1 : m = 1
      · subst hm1
        rw [if_pos (.inr rfl), LR_1]
        cases lb with
        | true => exact (LR_1 true (cF cs) n).symm
        | false =>
          rw [if_neg Bool.false_ne_true]
          have h := hs_bag (cs := cs) h0 hp (L := cs.length - 1) 1 n (by omega)
          rw [hs_1] at h
          exact h
      · rw [if_neg (fun z => z.elim nsr hm1)]
        cases lb with
        | true => rw [if_pos rfl, if_neg nsg, if_pos rfl]
        | false => rw [if_neg Bool.false_ne_true, if_neg nsg, if_neg Bool.false_ne_true]
  cases lb with
  | true =>
    rw [if_pos rfl]
    exact SMath.S_congr fun m _ => hL m
  | false =>
    rw [if_neg Bool.false_ne_true]
    exact SMath.S_congr fun m _ => hL m
theorem whole_SetF {lb : Bool} {cs : List Int} (hp : ∀ i, 0 ≤ cs.getD i 0) (h0 : cs.getD 0 0 = 0) (h1 : 1 ≤ cs.length) (hc : cs.length ≤ 14) : SetF lb (cF cs) (wholeF lb cs) cs.length := by
  refine ⟨?_, fun n hn => ?_⟩
  · unfold wholeF
    cases lb with
    | true => rfl
    | false =>
      rw [if_neg Bool.false_ne_true]
      show (0 : Int) + SMath.bag _ _ 0 0 = 1
      rw [SMath.bag_0]
      rfl
  · unfold wholeF
    cases lb with
    | true =>
      rw [if_pos rfl, if_pos rfl]
      refine (eS_succ h0 (by omega)).trans (SMath.S_congr fun i _ => ?_)
      rw [if_pos rfl]
    | false =>
      rw [if_neg Bool.false_ne_true, if_neg Bool.false_ne_true]
      have h := SMath.eul_bag (fun i => (cF cs i).toNat) (cs.length - 1) (n + 1)
      refine h.trans (SMath.S_congr fun k hk => ?_)
      rw [if_neg Bool.false_ne_true]
      have hcc : (fun i => (((fun i => (cF cs i).toNat) i : Nat) : Int)) = cF cs := funext fun i => Int.toNat_of_nonneg (hp i)
      rw [hcc, SMath.W_more (by omega) (by omega)]
/-! ### undone -/
def UndL (H U : Nat → Int) (N : Nat) : Prop := U 0 = 0 ∧ ∀ n, n + 1 < N → U (n + 1) = H (n + 1) - SMath.S n fun i => SMath.bin n i * U (i + 1) * H (n - i)
def UndU (H w c : Nat → Int) (N : Nat) : Prop := c 0 = 0 ∧ w 0 = 0 ∧ ∀ n, n + 1 < N → w (n + 1) = ((n + 1 : Nat) : Int) * H (n + 1) - SMath.S n (fun k => w (k + 1) * H (n + 1 - (k + 1))) ∧ c (n + 1) = (w (n + 1) - SMath.W c n (n + 1)) / ((n + 1 : Nat) : Int)
theorem undL_of {c H : Nat → Int} {N : Nat} (h0 : c 0 = 0) (h : SetF true c H N) : UndL H c N := by
  refine ⟨h0, fun n hn => ?_⟩
  have e := h.2 n hn
  rw [if_pos rfl, SMath.S, Nat.sub_self, h.1, show SMath.bin n n = 1 from bin_self n] at e
  rw [e]
  omega
theorem setF_L {U H : Nat → Int} {N : Nat} (H0 : H 0 = 1) (h : UndL H U N) : SetF true U H N := by
  refine ⟨H0, fun n hn => ?_⟩
  rw [if_pos rfl, SMath.S, Nat.sub_self, H0, show SMath.bin n n = 1 from bin_self n, h.2 n hn]
  omega
theorem undU_of {c H : Nat → Int} {N : Nat} (h0 : c 0 = 0) (h : SetF false c H N) : UndU H (fun k => SMath.W c k k) c N := by
  refine ⟨h0, rfl, fun n hn => ⟨?_, ?_⟩⟩
  · have e := h.2 n hn
    rw [if_neg Bool.false_ne_true, SMath.S, Nat.sub_self, h.1] at e
    show SMath.W c (n + 1) (n + 1) = ((n + 1 : Nat) : Int) * H (n + 1) - SMath.S n (fun k => SMath.W c (k + 1) (k + 1) * H (n + 1 - (k + 1)))
    rw [e]
    omega
  · show _ = (SMath.W c (n + 1) (n + 1) - SMath.W c n (n + 1)) / _
    rw [SMath.W_last, show SMath.W c n (n + 1) + c (n + 1) * ((n + 1 : Nat) : Int) - SMath.W c n (n + 1) = c (n + 1) * ((n + 1 : Nat) : Int) by omega]
    exact (Int.mul_ediv_cancel _ (by omega)).symm
theorem setF_U {w c H : Nat → Int} {N : Nat} (H0 : H 0 = 1) (h : UndU H w c N) : SetF false c H N := by
  have hw := SMath.undone_int (H := H) (c := c) (w := w) (N := N - 1) H0 (fun n hn => (h.2.2 n (by omega)).1) (fun n hn => (h.2.2 n (by omega)).2)
  refine ⟨H0, fun n hn => ?_⟩
  rw [if_neg Bool.false_ne_true, SMath.S, Nat.sub_self, H0]
  have e : SMath.S n (fun k => SMath.W c (k + 1) (k + 1) * H (n + 1 - (k + 1))) = SMath.S n fun k => w (k + 1) * H (n + 1 - (k + 1)) :=
    SMath.S_congr fun k hk => by rw [hw k (by omega)]
  rw [e, ← hw n (by omega), (h.2.2 n hn).1]
  omega
/-! ### functions that are told step by step -/
def stp (F : (Nat → Int) → Nat → Int) : Nat → Nat → Int
  | 0 => fun _ => 0
  | n + 1 => fun k => if k = n then F (stp F n) n else stp F n k
theorem stp_low (F : (Nat → Int) → Nat → Int) (k : Nat) : ∀ n, k < n → stp F n k = stp F (k + 1) k
  | n + 1, h => by
    by_cases e : k = n
    · subst e; rfl
    · show (if k = n then _ else stp F n k) = _
      rw [if_neg e]
      exact stp_low F k n (by omega)
theorem stp_fix {F : (Nat → Int) → Nat → Int} (hF : ∀ f g n, (∀ k, k < n → f k = g k) → F f n = F g n) : ∃ f : Nat → Int, ∀ n, f n = F f n := by
  refine ⟨fun n => stp F (n + 1) n, fun n => ?_⟩
  have e : stp F (n + 1) n = F (stp F n) n := if_pos rfl
  show stp F (n + 1) n = _
  rw [e]
  exact hF _ _ n fun k hk => stp_low F k n hk
end SM

namespace SM
open PySem L2
/-! ### how great the numbers get -/
def SN : Nat → (Nat → Nat) → Nat
  | 0, _ => 0
  | n + 1, f => SN n f + f n
theorem S_abs (n : Nat) (f : Nat → Int) : (SMath.S n f).natAbs ≤ SN n fun i => (f i).natAbs := by
  induction n with
  | zero => exact Nat.le_refl _
  | succ n ih =>
    show (SMath.S n f + f n).natAbs ≤ SN n (fun i => (f i).natAbs) + (f n).natAbs
    have := Int.natAbs_add_le (SMath.S n f) (f n)
    omega
theorem SN_le {n : Nat} {f g : Nat → Nat} (h : ∀ i, i < n → f i ≤ g i) : SN n f ≤ SN n g := by
  induction n with
  | zero => exact Nat.le_refl _
  | succ n ih =>
    have h1 := ih fun i hi => h i (by omega)
    have h2 := h n (by omega)
    show SN n f + f n ≤ SN n g + g n
    omega
theorem SN_mul (n c : Nat) (f : Nat → Nat) : SN n (fun i => c * f i) = c * SN n f := by
  induction n with
  | zero => rfl
  | succ n ih => show SN n _ + c * f n = c * (SN n f + f n); rw [ih, Nat.mul_add]
theorem SN_geo (n : Nat) : SN n (fun k => 2 ^ (30 * (k + 1))) ≤ 2 * 2 ^ (30 * n) := by
  induction n with
  | zero => decide
  | succ n ih =>
    show SN n _ + 2 ^ (30 * (n + 1)) ≤ _
    have e : (2 : Nat) ^ (30 * (n + 1)) = 2 ^ (30 * n) * 2 ^ 30 := by rw [Nat.mul_succ, Nat.pow_add]
    rw [e]
    generalize (2 : Nat) ^ (30 * n) = x at ih
    omega
/-- numbers that follow from the ones before -/
theorem grows {N : Nat} {f : Nat → Nat} (h : ∀ n, n < N → f n ≤ 2 ^ 10 + 2 ^ 20 * SN n f) : ∀ n, n < N → f n ≤ 2 ^ (30 * (n + 1)) := by
  intro n
  induction n using Nat.strongRecOn with
  | ind n ih =>
    intro hn
    have h1 := h n hn
    have h2 : SN n f ≤ SN n fun k => 2 ^ (30 * (k + 1)) := SN_le fun i hi => ih i hi (by omega)
    have h3 := SN_geo n
    have e : (2 : Nat) ^ (30 * (n + 1)) = 2 ^ (30 * n) * 2 ^ 30 := by rw [Nat.mul_succ, Nat.pow_add]
    have hp : 1 ≤ (2 : Nat) ^ (30 * n) := Nat.pow_pos (by decide)
    rw [e]
    generalize (2 : Nat) ^ (30 * n) = x at h3 hp
    omega
theorem ind_abs (s k : Nat) : (SMath.ind s k).natAbs ≤ s := by
  unfold SMath.ind
  split
  · exact Nat.le_of_eq (Int.natAbs_natCast s)
  · exact Nat.zero_le _
theorem W_abs (c : Nat → Int) (L k : Nat) (hL : L ≤ 14) : (SMath.W c L k).natAbs ≤ 14 * SN L fun i => (c (i + 1)).natAbs := by
  unfold SMath.W
  refine Nat.le_trans (S_abs L _) ?_
  rw [← SN_mul]
  refine SN_le fun i hi => ?_
  rw [Int.natAbs_mul, Nat.mul_comm]
  refine Nat.mul_le_mul_right _ ?_
  have := ind_abs (i + 1) k
  omega
theorem SN_shift (n : Nat) (f : Nat → Nat) : SN n (fun i => f (i + 1)) ≤ SN (n + 1) f := by
  induction n with
  | zero => exact Nat.zero_le _
  | succ n ih => show SN n _ + f (n + 1) ≤ SN (n + 1) f + f (n + 1); omega
theorem undL_le {g U : Nat → Int} {N : Nat} (hN : N ≤ 14) (hg : ∀ i, i < N → (g i).natAbs ≤ 8) (h : UndL g U N) : ∀ n, n < N → (U n).natAbs ≤ 2 ^ (30 * (n + 1)) := by
  refine grows (f := fun n => (U n).natAbs) fun n hn => ?_
  show (U n).natAbs ≤ _
  cases n with
  | zero => rw [h.1]; exact Nat.zero_le _
  | succ n =>
    rw [h.2 n hn]
    have h1 := Int.natAbs_sub_le (g (n + 1)) (SMath.S n fun i => SMath.bin n i * U (i + 1) * g (n - i))
    have h2 := hg (n + 1) hn
    have h3 := S_abs n (fun i => SMath.bin n i * U (i + 1) * g (n - i))
    have h4 : SN n (fun i => (SMath.bin n i * U (i + 1) * g (n - i)).natAbs) ≤ SN n (fun i => 2 ^ 17 * (U (i + 1)).natAbs) := SN_le fun i hi => by
      rw [Int.natAbs_mul, Int.natAbs_mul]
      have hb := SMath.bin_le n i
      have hb2 : (2 : Int) ^ n ≤ 2 ^ 14 := pow_le (by omega)
      have hb3 : (SMath.bin n i).natAbs ≤ 2 ^ 14 := by omega
      have hb4 := hg (n - i) (by omega)
      calc (SMath.bin n i).natAbs * (U (i + 1)).natAbs * (g (n - i)).natAbs ≤ 2 ^ 14 * (U (i + 1)).natAbs * 8 := Nat.mul_le_mul (Nat.mul_le_mul_right _ hb3) hb4
        _ = 2 ^ 17 * (U (i + 1)).natAbs := by rw [Nat.mul_right_comm]
    rw [SN_mul] at h4
    have h5 := SN_shift n fun i => (U i).natAbs
    have h6 : SN n (fun i => (fun i => (U i).natAbs) (i + 1)) = SN n fun i => (U (i + 1)).natAbs := rfl
    rw [h6] at h5
    show _ ≤ 2 ^ 10 + 2 ^ 20 * SN (n + 1) fun i => (U i).natAbs
    omega
theorem undU_le {g w c : Nat → Int} {N : Nat} (hN : N ≤ 14) (hg : ∀ i, i < N → (g i).natAbs ≤ 8) (h : UndU g w c N) : ∀ n, n < N → (w n).natAbs ≤ 2 ^ (30 * (n + 1)) := by
  refine grows (f := fun n => (w n).natAbs) fun n hn => ?_
  show (w n).natAbs ≤ _
  cases n with
  | zero => rw [h.2.1]; exact Nat.zero_le _
  | succ n =>
    rw [(h.2.2 n hn).1]
    have h1 := Int.natAbs_sub_le (((n + 1 : Nat) : Int) * g (n + 1)) (SMath.S n fun k => w (k + 1) * g (n + 1 - (k + 1)))
    have h2 : (((n + 1 : Nat) : Int) * g (n + 1)).natAbs ≤ 14 * 8 := by
      rw [Int.natAbs_mul, Int.natAbs_natCast]
      exact Nat.mul_le_mul (by omega) (hg (n + 1) hn)
    have h3 := S_abs n (fun k => w (k + 1) * g (n + 1 - (k + 1)))
    have h4 : SN n (fun k => (w (k + 1) * g (n + 1 - (k + 1))).natAbs) ≤ SN n (fun i => 8 * (w (i + 1)).natAbs) := SN_le fun i hi => by
      rw [Int.natAbs_mul, Nat.mul_comm]
      exact Nat.mul_le_mul_right _ (hg _ (by omega))
    rw [SN_mul] at h4
    have h5 := SN_shift n fun i => (w i).natAbs
    have h6 : SN n (fun i => (fun i => (w i).natAbs) (i + 1)) = SN n fun i => (w (i + 1)).natAbs := rfl
    rw [h6] at h5
    show _ ≤ 2 ^ 10 + 2 ^ 20 * SN (n + 1) fun i => (w i).natAbs
    omega
theorem undU_c {g w c : Nat → Int} {N : Nat} (hN : N ≤ 14) (hg : ∀ i, i < N → (g i).natAbs ≤ 8) (g0 : g 0 = 1) (h : UndU g w c N) : ∀ n, n < N → (c n).natAbs ≤ 2 ^ (30 * (n + 1) + 600) := by
  have hw := undU_le hN hg h
  have hu := SMath.undone_int (H := g) (c := c) (w := w) (N := N - 1) g0 (fun n hn => (h.2.2 n (by omega)).1) (fun n hn => (h.2.2 n (by omega)).2)
  have key : ∀ n, n < N → (c n).natAbs ≤ 2 ^ 500 + 2 ^ 4 * SN n fun i => (c i).natAbs := fun n hn => by
    cases n with
    | zero => rw [h.1]; exact Nat.zero_le _
    | succ n =>
      have e := hu n (by omega)
      rw [SMath.W_last] at e
      have e2 : c (n + 1) * ((n + 1 : Nat) : Int) = w (n + 1) - SMath.W c n (n + 1) := by omega
      have e3 : (c (n + 1)).natAbs ≤ (c (n + 1) * ((n + 1 : Nat) : Int)).natAbs := by
        rw [Int.natAbs_mul, Int.natAbs_natCast]
        exact Nat.le_mul_of_pos_right _ (by omega)
      rw [e2] at e3
      have h1 := Int.natAbs_sub_le (w (n + 1)) (SMath.W c n (n + 1))
      have h2 := hw (n + 1) hn
      have h2b : (2 : Nat) ^ (30 * (n + 1 + 1)) ≤ 2 ^ 500 := Nat.pow_le_pow_right (by decide) (by omega)
      have h3 := W_abs c n (n + 1) (by omega)
      have h5 := SN_shift n fun i => (c i).natAbs
      have h6 : SN n (fun i => (fun i => (c i).natAbs) (i + 1)) = SN n fun i => (c (i + 1)).natAbs := rfl
      rw [h6] at h5
      generalize (2 : Nat) ^ (30 * (n + 1 + 1)) = A at h2 h2b
      generalize (2 : Nat) ^ 500 = B at h2b ⊢
      omega
  intro n
  induction n using Nat.strongRecOn with
  | ind n ih =>
    intro hn
    have h1 := key n hn
    have h2 : SN n (fun i => (c i).natAbs) ≤ SN n fun k => 2 ^ 600 * 2 ^ (30 * (k + 1)) := SN_le fun i hi => by
      have := ih i hi (by omega)
      rw [Nat.pow_add, Nat.mul_comm] at this
      exact this
    rw [SN_mul] at h2
    have h3 := Nat.mul_le_mul_left (2 ^ 600) (SN_geo n)
    have e : (2 : Nat) ^ (30 * (n + 1) + 600) = 2 ^ 600 * 2 ^ (30 * n) * 2 ^ 30 := by
      rw [Nat.pow_add, Nat.mul_succ, Nat.pow_add, Nat.mul_comm, Nat.mul_assoc]
    have hp : 2 ^ 600 ≤ 2 ^ 600 * 2 ^ (30 * n) := Nat.le_mul_of_pos_right _ (Nat.pow_pos (by decide))
    have hq : (2 : Nat) ^ 500 ≤ 2 ^ 600 := Nat.pow_le_pow_right (by decide) (by decide)
    rw [e]
    rw [Nat.mul_left_comm] at h3
    generalize (2 : Nat) ^ 600 * 2 ^ (30 * n) = x at h3 hp
    generalize (2 : Nat) ^ 600 * SN n (fun k => 2 ^ (30 * (k + 1))) = y at h2 h3
    generalize (2 : Nat) ^ 500 = A at h1 hq
    generalize (2 : Nat) ^ 600 = B at hq hp
    omega
end SM

namespace SM
open PySem L2
def Ub (N : Nat) (U : Nat → Int) : Prop := ∀ n, n < N → (U n).natAbs ≤ 2 ^ 2000
theorem p2_lt {a : Nat} (h : a < 100000) : (2 : Nat) ^ a < 2 ^ 100000 := Nat.pow_lt_pow_right (by decide) h
theorem ub_lt {N : Nat} {U : Nat → Int} (h : Ub N U) : ∀ i, i < N → (U i).natAbs < 2 ^ 100000 := fun i hi => Nat.lt_of_le_of_lt (h i hi) (p2_lt (by decide))
theorem ub_bin {N : Nat} {U : Nat → Int} (hN : N ≤ 14) (h : Ub N U) : ∀ n i, n < N → i < n → (SMath.bin (n - 1) i * U (i + 1)).natAbs < 2 ^ 100000 := fun n i hn hi => by
  rw [Int.natAbs_mul]
  have hb := SMath.bin_le (n - 1) i
  have hb2 : (2 : Int) ^ (n - 1) ≤ 2 ^ 14 := pow_le (by omega)
  have hb3 : (SMath.bin (n - 1) i).natAbs ≤ 2 ^ 14 := by omega
  have h2 := h (i + 1) (by omega)
  refine Nat.lt_of_le_of_lt (Nat.mul_le_mul hb3 h2) ?_
  rw [← Nat.pow_add]
  exact p2_lt (by decide)
theorem SN_const (n B : Nat) : SN n (fun _ => B) = n * B := by
  induction n with
  | zero => rw [Nat.zero_mul]; rfl
  | succ n ih => show SN n _ + B = _; rw [ih, Nat.succ_mul]
theorem ub_W {N : Nat} {U : Nat → Int} (hN : N ≤ 14) (h : Ub N U) : ∀ k, k < N → (SMath.W U k k).natAbs < 2 ^ 100000 := fun k hk => by
  refine Nat.lt_of_le_of_lt (W_abs U k k (by omega)) ?_
  have h1 : SN k (fun i => (U (i + 1)).natAbs) ≤ k * 2 ^ 2000 := by
    rw [← SN_const]
    exact SN_le fun i hi => h (i + 1) (by omega)
  have h2 : k * 2 ^ 2000 ≤ 2 ^ 4 * 2 ^ 2000 := Nat.mul_le_mul_right _ (by omega)
  have h3 : 14 * SN k (fun i => (U (i + 1)).natAbs) ≤ 2 ^ 4 * (2 ^ 4 * 2 ^ 2000) := Nat.mul_le_mul (by decide) (Nat.le_trans h1 h2)
  refine Nat.lt_of_le_of_lt h3 ?_
  rw [← Nat.pow_add, ← Nat.pow_add]
  exact p2_lt (by decide)
theorem Bn_ub {cs : List Int} {N : Nat} (h : Bn cs) : Ub N (cF cs) := fun n _ => by
  have h1 := h.get n
  have h2 : (cF cs n).natAbs ≤ 2 ^ 100 := by
    show (cs.getD n 0).natAbs ≤ 2 ^ 100
    omega
  exact Nat.le_trans h2 (Nat.pow_le_pow_right (by decide) (by decide))
theorem whole_bd {lb : Bool} {cs : List Int} {n : Nat} (h : Bn cs) (h0 : cs.getD 0 0 = 0) (hn : n < cs.length) (hc : cs.length ≤ 14) : 0 ≤ wholeF lb cs n ∧ (wholeF lb cs n).natAbs < 2 ^ 100000 := by
  rw [← whole_out (fun i => (h.get i).1) h0 hn hc]
  unfold outG
  have hX : lim none (max n 1) + 1 - 0 ≤ 15 := by
    show max n 1 + 1 - 0 ≤ 15
    rcases Nat.le_total n 1 with h | h
    · rw [Nat.max_eq_right h]; decide
    · rw [Nat.max_eq_left h]; omega
  generalize lim none (max n 1) + 1 - 0 = X at hX
  have hs := sum_le (B := 2 ^ 2600) (l := (List.range X).map fun i => exG "set" (modeS lb) cs (0 + i) n) (fun x hx => by
    obtain ⟨i, hi, rfl⟩ := List.mem_map.mp hx
    have hi' := List.mem_range.mp hi
    have hp : (2 : Int) ^ (170 * (0 + i)) ≤ 2 ^ 2600 := pow_le (by omega)
    cases lb with
    | true =>
      rw [exG_setL]
      have ht := tab_le (md := modeS true) h (0 + i) n (by omega)
      have := ediv_le ht.1 ht.2 (fct_pos (a := 0 + i) (by omega))
      exact ⟨this.1, Int.le_trans this.2 hp⟩
    | false =>
      rw [exG_setU]
      have ht := hs_le h (0 + i) n (by omega)
      exact ⟨ht.1, Int.le_trans ht.2 hp⟩)
  rw [List.length_map, List.length_range] at hs
  refine ⟨hs.1, ?_⟩
  have h2 : (X : Int) * 2 ^ 2600 ≤ 2 ^ 4 * 2 ^ 2600 := Int.mul_le_mul_of_nonneg_right (by omega) (Int.pow_nonneg (by decide))
  have h3 := Int.le_trans hs.2 h2
  rw [← Int.pow_add] at h3
  have h4 := nb hs.1 h3
  exact Nat.lt_trans h4 (p2_lt (by decide))
/-- what undoes given counts -/
theorem und_ex {lb : Bool} {g : Nat → Int} {N : Nat} (hN : N ≤ 14) (g0 : g 0 = 1) (hg : ∀ i, i < N → (g i).natAbs ≤ 8) : ∃ U : Nat → Int, Ub N U ∧ U 0 = 0 ∧ SetF lb U g N ∧ (if lb = true then UndL g U N else ∃ w : Nat → Int, UndU g w U N ∧ ∀ i, i < N → (w i).natAbs < 2 ^ 100000) := by
  cases lb with
  | true =>
    obtain ⟨U, hU⟩ := stp_fix (F := fun f n => match n with | 0 => 0 | n + 1 => g (n + 1) - SMath.S n fun i => SMath.bin n i * f (i + 1) * g (n - i)) (fun f f' n h => by
      cases n with
      | zero => rfl
      | succ n => exact congrArg (fun x => g (n + 1) - x) (SMath.S_congr fun i hi => by rw [h (i + 1) (by omega)]))
    have hL : UndL g U N := ⟨hU 0, fun n _ => hU (n + 1)⟩
    refine ⟨U, fun n hn => Nat.le_trans (undL_le hN hg hL n hn) (Nat.pow_le_pow_right (by decide) (by omega)), hU 0, setF_L g0 hL, ?_⟩
    rw [if_pos rfl]
    exact hL
  | false =>
    obtain ⟨wf, hw⟩ := stp_fix (F := fun f n => match n with | 0 => 0 | n + 1 => ((n + 1 : Nat) : Int) * g (n + 1) - SMath.S n fun k => f (k + 1) * g (n + 1 - (k + 1))) (fun f f' n h => by
      cases n with
      | zero => rfl
      | succ n => exact congrArg (fun x => ((n + 1 : Nat) : Int) * g (n + 1) - x) (SMath.S_congr fun i hi => by rw [h (i + 1) (by omega)]))
    obtain ⟨U, hU⟩ := stp_fix (F := fun f n => match n with | 0 => 0 | n + 1 => (wf (n + 1) - SMath.W f n (n + 1)) / ((n + 1 : Nat) : Int)) (fun f f' n h => by
      cases n with
      | zero => rfl
      | succ n => exact congrArg (fun x => (wf (n + 1) - x) / ((n + 1 : Nat) : Int)) (SMath.S_congr fun i hi => by rw [h (i + 1) (by omega)]))
    have hU2 : UndU g wf U N := ⟨hU 0, hw 0, fun n _ => ⟨hw (n + 1), hU (n + 1)⟩⟩
    refine ⟨U, fun n hn => Nat.le_trans (undU_c hN hg g0 hU2 n hn) (Nat.pow_le_pow_right (by decide) (by omega)), hU 0, setF_U g0 hU2, ?_⟩
    rw [if_neg Bool.false_ne_true]
    exact ⟨wf, hU2, fun i hi => Nat.lt_of_le_of_lt (undU_le hN hg hU2 i hi) (p2_lt (by omega))⟩
end SM

namespace SM
open PySem L2
section
variable {P : Program} {w : World} {K : PySem.W.Frag} {mg : Str → Option Value} {base : Heap} {W : Ad}
def spRows (wd : Str) : Sp := fun vs H Q E => ∃ (a : Addr) (l : Nat) (m : Option Int) (lb : Bool), vs = [.ref a, .int l, oV m, .bl lb] ∧ spCW [.str wd, .ref a, .int l, oV m, .bl lb] H Q E
theorem ok_rows (D : Df K mg "rows" s_rows ["counts", "least", "most", "labelled"]) (C1 : Cal P w K mg base CX0 5 "_counts_within" ["word", "counts", "least", "most", "labelled"] spCW) :
    Cal P w K mg base CX0 6 "rows" ["counts", "least", "most", "labelled"] (spRows "row") := by
  obtain ⟨f, fd, g, F, b⟩ := D
  obtain ⟨f1, fd1, g__counts_within, k__counts_within, b__counts_within, G__counts_within⟩ := C1.ex
  refine ⟨f, fd, g, F.kp, b, F.ok sc_rows (fun vs H Q E h => ?_) (fun cdv A outer s H vs Q E hr h => ?_)⟩
  · obtain ⟨_, _, _, _, rfl, _⟩ := h
    rfl
  · obtain ⟨a, l, m, lb, rfl, k⟩ := h
    refine ⟨_, (pss_one (ps_ret (pe_call G__counts_within (hr.mono (by decide)) (by rfl) g__counts_within k__counts_within b__counts_within .nil pass0 (pa_cons pe_str (pa_cons (pv 0) (pa_cons (pv 1) (pa_cons (pv 2) (pa_cons (pv 3) pa_nil)))))))), ?_⟩
    exact ⟨_, rfl, _, rfl, _, rfl, _, rfl, k⟩
theorem ok_sets (D : Df K mg "sets" s_sets ["counts", "least", "most", "labelled"]) (C1 : Cal P w K mg base CX0 5 "_counts_within" ["word", "counts", "least", "most", "labelled"] spCW) :
    Cal P w K mg base CX0 6 "sets" ["counts", "least", "most", "labelled"] (spRows "set") := by
  obtain ⟨f, fd, g, F, b⟩ := D
  obtain ⟨f1, fd1, g__counts_within, k__counts_within, b__counts_within, G__counts_within⟩ := C1.ex
  refine ⟨f, fd, g, F.kp, b, F.ok sc_sets (fun vs H Q E h => ?_) (fun cdv A outer s H vs Q E hr h => ?_)⟩
  · obtain ⟨_, _, _, _, rfl, _⟩ := h
    rfl
  · obtain ⟨a, l, m, lb, rfl, k⟩ := h
    refine ⟨_, (pss_one (ps_ret (pe_call G__counts_within (hr.mono (by decide)) (by rfl) g__counts_within k__counts_within b__counts_within .nil pass0 (pa_cons pe_str (pa_cons (pv 0) (pa_cons (pv 1) (pa_cons (pv 2) (pa_cons (pv 3) pa_nil)))))))), ?_⟩
    exact ⟨_, rfl, _, rfl, _, rfl, _, rfl, k⟩
theorem ok_rings (D : Df K mg "rings" s_rings ["counts", "least", "most", "labelled"]) (C1 : Cal P w K mg base CX0 5 "_counts_within" ["word", "counts", "least", "most", "labelled"] spCW) :
    Cal P w K mg base CX0 6 "rings" ["counts", "least", "most", "labelled"] (spRows "ring") := by
  obtain ⟨f, fd, g, F, b⟩ := D
  obtain ⟨f1, fd1, g__counts_within, k__counts_within, b__counts_within, G__counts_within⟩ := C1.ex
  refine ⟨f, fd, g, F.kp, b, F.ok sc_rings (fun vs H Q E h => ?_) (fun cdv A outer s H vs Q E hr h => ?_)⟩
  · obtain ⟨_, _, _, _, rfl, _⟩ := h
    rfl
  · obtain ⟨a, l, m, lb, rfl, k⟩ := h
    refine ⟨_, (pss_one (ps_ret (pe_call G__counts_within (hr.mono (by decide)) (by rfl) g__counts_within k__counts_within b__counts_within .nil pass0 (pa_cons pe_str (pa_cons (pv 0) (pa_cons (pv 1) (pa_cons (pv 2) (pa_cons (pv 3) pa_nil)))))))), ?_⟩
    exact ⟨_, rfl, _, rfl, _, rfl, _, rfl, k⟩
def spBy : Sp := fun vs H Q E => ∃ (a : Addr) (wd : Str) (l : Nat) (lb : Bool), vs = [.ref a, .str wd, .int l, .bl lb] ∧ spCW [.str wd, .ref a, .int l, oV (some (l : Int)), .bl lb] H Q E
theorem ok_by (D : Df K mg "by_members" s_by_members ["counts", "word", "members", "labelled"]) (C1 : Cal P w K mg base CX0 5 "_counts_within" ["word", "counts", "least", "most", "labelled"] spCW) :
    Cal P w K mg base CX0 6 "by_members" ["counts", "word", "members", "labelled"] spBy := by
  obtain ⟨f, fd, g, F, b⟩ := D
  obtain ⟨f1, fd1, g__counts_within, k__counts_within, b__counts_within, G__counts_within⟩ := C1.ex
  refine ⟨f, fd, g, F.kp, b, F.ok sc_by_members (fun vs H Q E h => ?_) (fun cdv A outer s H vs Q E hr h => ?_)⟩
  · obtain ⟨_, _, _, _, rfl, _⟩ := h
    rfl
  · obtain ⟨a, wd, l, lb, rfl, k⟩ := h
    refine ⟨_, (pss_one (ps_ret (pe_call G__counts_within (hr.mono (by decide)) (by rfl) g__counts_within k__counts_within b__counts_within .nil pass0 (pa_cons (pv 1) (pa_cons (pv 0) (pa_cons (pv 2) (pa_cons (pv 2) (pa_cons (pv 3) pa_nil)))))))), ?_⟩
    exact ⟨_, rfl, _, rfl, _, rfl, _, rfl, _, rfl, k⟩
end
end SM

namespace SM
open PySem L2
theorem cutV_ints (ns : List Int) (lo hi : Option Int) : ∃ ms : List Int, cutV (ns.map V.int) lo hi = ms.map V.int ∧ ms.length ≤ ns.length := by
  refine ⟨(ns.drop (HT.sIx (ns.map V.int).length 0 lo)).take (HT.sIx (ns.map V.int).length (ns.map V.int).length hi - HT.sIx (ns.map V.int).length 0 lo), ?_, ?_⟩
  · unfold cutV
    rw [List.map_take, List.map_drop]
  · rw [List.length_take, List.length_drop]
    omega
theorem cutV_to (xs : List V) (k : Nat) : cutV xs none (some (k : Int)) = xs.take k := by
  unfold cutV
  rw [HT.sIx_none, HT.sIx_nat, Nat.sub_zero, List.drop_zero]
  by_cases h : k ≤ xs.length
  · rw [Nat.min_eq_left h]
  · rw [Nat.min_eq_right (by omega), List.take_of_length_le (Nat.le_refl _), List.take_of_length_le (by omega)]
theorem cutV_from (xs : List V) (k : Nat) : cutV xs (some (k : Int)) none = xs.drop k := by
  unfold cutV
  rw [HT.sIx_none, HT.sIx_nat]
  by_cases h : k ≤ xs.length
  · rw [Nat.min_eq_left h]
    exact List.take_of_length_le (by rw [List.length_drop]; omega)
  · rw [Nat.min_eq_right (by omega), List.drop_of_length_le (Nat.le_refl _), List.drop_of_length_le (by omega), List.take_nil]
/-! ### the draws -/
def Dr (ds : List Int) : Prop := ∀ d ∈ ds, 0 ≤ d ∧ d < 65521
theorem Dr.nil : Dr [] := fun d hd => by cases hd
theorem Dr.app {ds : List Int} {x : Int} (h : Dr ds) (h0 : 0 ≤ x) (h1 : x < 65521) : Dr (ds ++ [x]) := fun d hd => by
  rcases List.mem_append.mp hd with e | e
  · exact h d e
  · simp at e
    rw [e]; exact ⟨h0, h1⟩
theorem Dr.take {ds : List Int} (h : Dr ds) (k : Nat) : Dr (ds.take k) := fun d hd => h d (List.mem_of_mem_take hd)
section
variable {P : Program} {w : World} {K : PySem.W.Frag} {mg : Str → Option Value} {base : Heap} {W : Ad}
def spDraws (K : PySem.W.Frag) : Sp := fun vs H Q _ => ∃ (a : Addr) (ns : List Int) (many : Nat), vs = [.ref a, .int many] ∧ SqL K H a (ns.map V.int) ∧ ns.length ≤ 63 ∧ many ≤ 1000 ∧
  ∀ (p : Addr) (H' : Hp) (ds : List Int), Same H H' → H p = none → H' p = some (.lst (ds.map V.int)) → Dr ds → ds.length = many → Q (.ref p) H'
theorem ok_draws (T : Tx K mg W) (D : Df K mg "_law_draws" s__law_draws ["script", "many"]) : Cal P w K mg base CX0 1 "_law_draws" ["script", "many"] (spDraws K) := by
  obtain ⟨f, fd, g, F, b⟩ := D
  refine ⟨f, fd, g, F.kp, b, F.ok sc__law_draws (fun vs H Q E h => ?_) (fun cdv A outer s H vs Q E hr h => ?_)⟩
  · obtain ⟨_, _, _, rfl, _⟩ := h
    rfl
  · obtain ⟨a, ns, many, rfl, hA, hlen, hmany, q⟩ := h
    refine ⟨_, (pss_cons (ps_set (i := 2) sc__law_draws.nd rfl (.inl rfl) (pe_lst pa_nil))
  (pss_cons (ps_set (i := 3) sc__law_draws.nd rfl (.inl rfl) pe_int)
  (pss_cons (ps_for PassesOwn.never rfl (pi_list (pe_slice sl_list (pv 0) po_none (po_some pe_int))) (pg_name (i := 4) sc__law_draws.nd rfl (.inl rfl)) (
    (pss_cons (ps_set (i := 5) sc__law_draws.nd rfl (.inl rfl) (pe_callB call_abs (by rfl) T.n_abs (by decide +kernel) (pa_cons (pv 4) pa_nil)))
    (pss_cons (ps_set (i := 3) sc__law_draws.nd rfl (.inl rfl) (pe_op op_mod (pe_callTy call_int1 (by rfl) T.n_int (by decide +kernel) (pa_cons (pe_op op_add (pe_op op_add (pe_op op_mul (pv 3) pe_int) (pv 5)) pe_int) pa_nil)) pe_int))
    (pss_one (ps_if (pt_cmpR op_ge (pv 5) (pe_op op_pow pe_int pe_int) (nomark _)) (
      (pss_one (ps_for PassesOwn.never rfl (pi_range1 (by rfl) T.n_range (pa_cons pe_int pa_nil)) (pg_name (i := 6) sc__law_draws.nd rfl (.inl rfl)) (
        (pss_one (ps_if (pt_cmpR op_gt (pv 5) pe_int (nomark _)) (
          (pss_cons (ps_expr (pe_bm PySem.F.plainAttrs_list PySem.F.slot_list_append PySem.F.type_list_append mt_append (pv 2) (pa_cons (pe_op op_mod (pe_callTy call_int1 (by rfl) T.n_int (by decide +kernel) (pa_cons (pv 5) pa_nil)) pe_int) pa_nil)))
          (pss_one (ps_set (i := 5) sc__law_draws.nd rfl (.inl rfl) (pe_op op_fdiv (pv 5) pe_int))))) (pss_nil))))))) (
      (pss_one (ps_expr (pe_bm PySem.F.plainAttrs_list PySem.F.slot_list_append PySem.F.type_list_append mt_append (pv 2) (pa_cons (pe_op op_mod (pe_op op_fdiv (pe_callTy call_int1 (by rfl) T.n_int (by decide +kernel) (pa_cons (pe_op op_add (pe_op op_mul (pv 3) pe_int) pe_int) pa_nil)) pe_int) pe_int) pa_nil)))))))))))
  (pss_cons (ps_for PassesOwn.never rfl (pi_range1 (by rfl) T.n_range (pa_cons (pv 1) pa_nil)) (pg_name (i := 6) sc__law_draws.nd rfl (.inl rfl)) (
    (pss_one (ps_if (pt_cmpR op_lt (pe_callB call_len_seq (by rfl) T.n_len (by decide +kernel) (pa_cons (pv 2) pa_nil)) (pv 1) (nomark _)) (
      (pss_cons (ps_set (i := 3) sc__law_draws.nd rfl (.inl rfl) (pe_op op_mod (pe_callTy call_int1 (by rfl) T.n_int (by decide +kernel) (pa_cons (pe_op op_add (pe_op op_add (pe_op op_mul (pv 3) pe_int) (pv 6)) pe_int) pa_nil)) pe_int))
      (pss_one (ps_expr (pe_bm PySem.F.plainAttrs_list PySem.F.slot_list_append PySem.F.type_list_append mt_append (pv 2) (pa_cons (pe_op op_mod (pe_op op_fdiv (pe_callTy call_int1 (by rfl) T.n_int (by decide +kernel) (pa_cons (pv 3) pa_nil)) pe_int) pe_int) pa_nil)))))) (pss_nil)))))
  (pss_one (ps_ret (pe_slice sl_list (pv 2) po_none (po_some (pv 1))))))))), ?_⟩
    -- draws = []; seed = 7; script[:63]
    refine ⟨Nat.zero_le _, fun dp nd => ?_⟩
    have s1 : Same H (upd H dp (.lst [])) := same_upd nd
    refine ⟨_, rfl, 63, rfl, a, _, rfl, s1.seq hA, fun cp nc => ?_⟩
    obtain ⟨ms, ems, hms⟩ := cutV_ints ns none (some 63)
    rw [ems]
    have ncd : cp ≠ dp := fun e => by rw [e, upd_same] at nc; cases nc
    have nc0 : H cp = none := s1.free nc
    have hc2 : (upd (upd H dp (.lst [])) cp (.lst (ms.map V.int))) cp = some (.lst (ms.map V.int)) := upd_same
    refine ⟨cp, rfl, ⟨_, sq_of hc2⟩, for_list (K := K) (a := cp) (xs := ms.map V.int) (fun i σ H' => ∃ (seed : Int) (y4 y5 y6 : Option V) (ds : List Int), σ = [some (.ref a), some (.int many), some (.ref dp), some (.int seed), y4, y5, y6] ∧ 0 ≤ seed ∧ seed < 2147483647 ∧
      Same H H' ∧ H' cp = some (.lst (ms.map V.int)) ∧ H' dp = some (.lst (ds.map V.int)) ∧ Dr ds ∧ ds.length ≤ 60 * i) ⟨7, none, none, none, [], rfl, by decide, by decide, s1.trans (same_upd nc), hc2, by rw [upd_ne ncd.symm]; exact upd_same, Dr.nil, Nat.zero_le _⟩
      (fun i σ H' _ ⟨_, _, _, _, _, _, _, _, _, h, _⟩ => sq_of h) ?_ ?_⟩
    · rintro i y σ H1 hi ⟨seed, y4, y5, y6, ds, rfl, h0, h1, sm, hcp, hdp, hds, hdl⟩
      obtain ⟨z, hz, rfl⟩ := ints_of hi
      have hil : i < ms.length := (List.getElem?_eq_some_iff.mp hz).1
      -- number = abs(cell)
      refine ⟨_, rfl, z, rfl, ?_⟩
      generalize hnum : (if z < 0 then -z else z) = num
      have hnum0 : 0 ≤ num := by rw [← hnum]; split <;> omega
      -- seed
      refine ⟨_, rfl, _, _, rfl, rfl, .inl ⟨by omega, by omega⟩, _, rfl, _, _, rfl, rfl, _, _, rfl, rfl, .inl ⟨_, rfl, _, _, rfl, rfl, (by show (0 : Int) < 2147483647; decide), ?_⟩⟩
      show _
      have m0 := Int.emod_nonneg (seed * 48271 + num + 11) (b := 2147483647) (by decide)
      have m1 := Int.emod_lt_of_pos (seed * 48271 + num + 11) (b := 2147483647) (by decide)
      generalize hse : (seed * 48271 + num + 11) % 2147483647 = se at m0 m1
      refine ⟨_, rfl, _, _, rfl, rfl, ⟨by decide, by decide, by decide⟩, _, _, rfl, rfl, _, rfl, ?_⟩
      refine ite2 (fun _ => ?_) (fun _ => ?_)
      · -- many digits
        refine ⟨60, rfl, by decide, by decide, ?_⟩
        refine for_range (lo := 0) (n := 60) (fun k σ H' => ∃ (num : Int) (y6 : Option V) (ds : List Int), σ = [some (.ref a), some (.int many), some (.ref dp), some (.int se), some (.int z), some (.int num), y6] ∧ 0 ≤ num ∧
          Same H H' ∧ H' cp = some (.lst (ms.map V.int)) ∧ H' dp = some (.lst (ds.map V.int)) ∧ Dr ds ∧ ds.length ≤ 60 * i + k) ⟨num, y6, ds, ?_, hnum0, sm, hcp, hdp, hds, hdl⟩ ?_ ?_
        · rw [← hse]; rfl
        · rintro k σ H2 hk ⟨nm, y6', ds', rfl, n0, sm', hcp', hdp', hds', hdl'⟩
          refine ⟨_, rfl, _, _, rfl, rfl, _, rfl, ite2 (fun c => ?_) (fun c => ?_)⟩
          · refine ⟨_, rfl, .inl ⟨rfl, _, sq_of hdp'⟩, _, rfl, .inl ⟨_, rfl, _, _, rfl, rfl, (by show (0 : Int) < 1009; decide), dp, _, _, rfl, rfl, hdp', szl _ (by rw [List.length_map]; omega), ?_⟩⟩
            have w0 := Int.emod_nonneg nm (b := 1009) (by decide)
            have w1 := Int.emod_lt_of_pos nm (b := 1009) (by decide)
            refine ⟨_, rfl, _, _, rfl, rfl, ⟨by decide, by decide⟩, nm / 1009, _, ds' ++ [nm % 1009], rfl, Int.ediv_nonneg n0 (by decide), same_upd' sm' nd, by rw [upd_ne ncd]; exact hcp', by rw [upd_same, List.map_append]; rfl, hds'.app w0 (by omega), by rw [List.length_append]; simp; omega⟩
          · exact ⟨nm, _, ds', rfl, n0, sm', hcp', hdp', hds', by omega⟩
        · rintro σ H2 ⟨nm, y6', ds', rfl, n0, sm', hcp', hdp', hds', hdl'⟩
          exact ⟨se, _, _, _, ds', rfl, m0, m1, sm', hcp', hdp', hds', by omega⟩
      · refine ⟨_, rfl, .inl ⟨rfl, _, sq_of hdp⟩, _, rfl, _, _, rfl, rfl, .inl ⟨?_, ?_⟩, _, _, rfl, rfl, .inl ⟨_, rfl, _, _, rfl, rfl, ⟨by decide, by decide⟩, _, _, rfl, rfl, (by show (0 : Int) < 65521; decide), dp, _, _, rfl, rfl, hdp, szl _ (by rw [List.length_map]; omega), ?_⟩⟩
        · rw [hse]; omega
        · rw [hse]; omega
        · refine ⟨se, _, _, _, ds ++ [((seed * 48271 + num + 11) % 2147483647 * 16807 + 5) / 3 % 65521], by rw [← hse]; rfl, m0, m1, same_upd' sm nd, by rw [upd_ne ncd]; exact hcp, by rw [upd_same, List.map_append]; rfl, hds.app (Int.emod_nonneg _ (by decide)) (Int.emod_lt_of_pos _ (by decide)), by rw [List.length_append]; simp; omega⟩
    · rintro σ H1 ⟨seed, y4, y5, y6, ds, rfl, h0, h1, sm, hcp, hdp, hds, hdl⟩
      rw [List.length_map] at hdl
      refine ⟨_, rfl, many, rfl, by omega, by omega, ?_⟩
      rw [Int.toNat_natCast]
      refine for_range (lo := 0) (n := many) (fun k σ H' => ∃ (seed : Int) (y4 y5 y6 : Option V) (ds : List Int), σ = [some (.ref a), some (.int many), some (.ref dp), some (.int seed), y4, y5, y6] ∧ 0 ≤ seed ∧ seed < 2147483647 ∧
        Same H H' ∧ H' dp = some (.lst (ds.map V.int)) ∧ Dr ds ∧ ds.length ≤ 60 * 63 + k ∧ (k ≤ ds.length ∨ many ≤ ds.length)) ⟨seed, y4, y5, y6, ds, rfl, h0, h1, sm, hdp, hds, by omega, .inl (Nat.zero_le _)⟩ ?_ ?_
      · rintro k σ H2 hk ⟨se, y4, y5, y6, ds', rfl, n0, n1, sm', hdp', hds', hdl', hlong⟩
        refine ⟨_, rfl, dp, _, rfl, .inl (sq_of hdp'), _, rfl, _, _, rfl, rfl, _, rfl, ite2 (fun c => ?_) (fun c => ?_)⟩
        · refine ⟨_, rfl, _, _, rfl, rfl, .inl ⟨by omega, by omega⟩, _, rfl, _, _, rfl, rfl, _, _, rfl, rfl, .inl ⟨_, rfl, _, _, rfl, rfl, (by show (0 : Int) < 2147483647; decide), ?_⟩⟩
          refine ⟨_, rfl, .inl ⟨rfl, _, sq_of hdp'⟩, _, rfl, .inl ⟨_, rfl, _, _, rfl, rfl, ⟨by decide, by decide⟩, _, _, rfl, rfl, (by show (0 : Int) < 65521; decide), dp, _, _, rfl, rfl, hdp', szl _ (by rw [List.length_map]; omega), ?_⟩⟩
          refine ⟨_, _, _, _, ds' ++ [(se * 69621 + (0 + (k : Int)) + 1) % 2147483647 / 7 % 65521], rfl, Int.emod_nonneg _ (by decide), Int.emod_lt_of_pos _ (by decide), same_upd' sm' nd, by rw [upd_same, List.map_append]; rfl, hds'.app (Int.emod_nonneg _ (by decide)) (Int.emod_lt_of_pos _ (by decide)), by rw [List.length_append]; simp; omega, ?_⟩
          rw [List.length_append]; simp; omega
        · have c' : ¬ ((((ds'.map V.int).length : Nat) : Int) < (many : Int)) := fun z => c (decide_eq_true z)
          rw [List.length_map] at c'
          exact ⟨se, _, _, _, ds', rfl, n0, n1, sm', hdp', hds', by omega, .inr (by omega)⟩
      · rintro σ H2 ⟨se, y4, y5, y6, ds', rfl, n0, n1, sm', hdp', hds', hdl', hlong⟩
        refine ⟨_, rfl, _, rfl, many, rfl, dp, _, rfl, sq_of hdp', fun p np => ?_⟩
        refine q p _ (ds'.take many) (sm'.trans (same_upd np)) (sm'.free np) ?_ (hds'.take many) ?_
        · rw [upd_same, cutV_to, List.map_take]
        · rw [List.length_take]; omega
end
end SM

namespace SM
open PySem L2
theorem ixN_nat {n j : Nat} {z : Int} (e : z = (j : Int)) (h : j < n) : ixN n z = some j := by
  subst e
  unfold ixN
  rw [if_pos (by omega), if_pos (by omega)]
  rfl
theorem fun_get {f : Nat → Int} {N i : Nat} (h : i < N) : (((List.range N).map f).map V.int)[i]? = some (.int (f i)) := by
  rw [List.map_map, List.getElem?_map, List.getElem?_range h]; rfl
theorem fun_len {f : Nat → Int} {N : Nat} : (((List.range N).map f).map V.int).length = N := by rw [List.length_map, List.length_map, List.length_range]
theorem fun_more {f : Nat → Int} {N : Nat} : ((List.range N).map f).map V.int ++ [.int (f N)] = ((List.range (N + 1)).map f).map V.int := by
  rw [List.range_succ, List.map_append, List.map_append]; rfl
def Bg (N : Nat) (f : Nat → Int) : Prop := ∀ i, i < N → (f i).natAbs < 2 ^ 100000
section
variable {P : Program} {w : World} {K : PySem.W.Frag} {mg : Str → Option Value} {base : Heap} {W : Ad}
def spBin : Sp := fun vs H Q _ => ∃ (z : Int) (n k : Nat), vs = [.int z, .int k] ∧ (z = n ∨ k = 0) ∧ n ≤ 10000 ∧ k ≤ 10000 ∧ Q (.int (SMath.bin n k)) H
theorem ok_bin (T : Tx K mg W) (D : Df K mg "_law_binomial" s__law_binomial ["n", "k"]) : Cal P w K mg base CX0 1 "_law_binomial" ["n", "k"] spBin := by
  obtain ⟨f, fd, g, F, b⟩ := D
  refine ⟨f, fd, g, F.kp, b, F.ok sc__law_binomial (fun vs H Q E h => ?_) (fun cdv A outer s H vs Q E hr h => ?_)⟩
  · obtain ⟨_, _, _, rfl, _⟩ := h
    rfl
  · obtain ⟨z, n, k, rfl, hz, hn, hk, q⟩ := h
    refine ⟨_, (pss_cons (ps_set (i := 2) sc__law_binomial.nd rfl (.inl rfl) pe_int)
  (pss_cons (ps_for PassesOwn.never rfl (pi_range1 (by rfl) T.n_range (pa_cons (pv 1) pa_nil)) (pg_name (i := 3) sc__law_binomial.nd rfl (.inl rfl)) (
    (pss_one (ps_set (i := 2) sc__law_binomial.nd rfl (.inl rfl) (pe_op op_fdivN (pe_op op_mul (pv 2) (pe_op op_sub (pv 0) (pv 3))) (pe_op op_add (pv 3) pe_int))))))
  (pss_one (ps_ret (pv 2))))), ?_⟩
    refine ⟨_, rfl, k, rfl, by omega, by omega, ?_⟩
    rw [Int.toNat_natCast]
    refine for_range (lo := 0) (n := k) (fun i σ H' => H' = H ∧ ∃ y3, σ = [some (.int z), some (.int k), some (.int (SMath.bin n i)), y3]) ⟨rfl, none, by rw [SMath.bin_0]; rfl⟩ ?_ ?_
    · rintro i σ H1 hi ⟨rfl, y3, rfl⟩
      have hz' : z = n := hz.resolve_right (by omega)
      subst hz'
      refine ⟨_, rfl, _, rfl, _, rfl, _, _, rfl, rfl, _, _, rfl, rfl, .inr ⟨by omega, by omega⟩, _, rfl, _, _, rfl, rfl, _, _, rfl, rfl, ⟨by omega, by omega⟩, rfl, some (.int (0 + (i : Int))), ?_⟩
      · have h := SMath.bin_step n i
        have e : (SMath.bin n i * ((n : Int) - (0 + (i : Int)))).fdiv (0 + (i : Int) + 1) = SMath.bin n (i + 1) := by
          rw [show (0 : Int) + (i : Int) = i by omega, Int.mul_comm, ← h, Int.fdiv_eq_ediv_of_nonneg _ (by omega)]
          exact Int.mul_ediv_cancel_left _ (by omega)
        rw [← e]; rfl
    · rintro σ H1 ⟨rfl, y3, rfl⟩
      exact ⟨_, rfl, q⟩
/-! ### undone, with labels -/
def spUndL (K : PySem.W.Frag) : Sp := fun vs H Q _ => ∃ (a : Addr) (Hf U : Nat → Int) (N : Nat), vs = [.ref a] ∧ SqL K H a (((List.range N).map Hf).map V.int) ∧ 1 ≤ N ∧ N ≤ 14 ∧ UndL Hf U N ∧ Bg N Hf ∧ (∀ n i, n < N → i < n → (SMath.bin (n - 1) i * U (i + 1)).natAbs < 2 ^ 100000) ∧
  ∀ p H', Same H H' → H p = none → H' p = some (.lst (((List.range N).map U).map V.int)) → Q (.ref p) H'
theorem ok_undL (T : Tx K mg W) (D : Df K mg "_labelled_undone" s__labelled_undone ["counts"]) : Cal P w K mg base CX0 1 "_labelled_undone" ["counts"] (spUndL K) := by
  obtain ⟨f, fd, g, F, b⟩ := D
  refine ⟨f, fd, g, F.kp, b, F.ok sc__labelled_undone (fun vs H Q E h => ?_) (fun cdv A outer s H vs Q E hr h => ?_)⟩
  · obtain ⟨_, _, _, _, rfl, _⟩ := h
    rfl
  · obtain ⟨a, Hf, U, N, rfl, hA, h1, h14, hU, hH, hB, q⟩ := h
    refine ⟨_, (pss_cons (ps_set (i := 1) sc__labelled_undone.nd rfl (.inr rfl) (pe_lst (pa_cons pe_int pa_nil)))
  (pss_cons (ps_for PassesOwn.never rfl (pi_range2 (by rfl) T.n_range (pa_cons pe_int (pa_cons (pe_callB call_len_seq (by rfl) T.n_len (by decide +kernel) (pa_cons (pv 0) pa_nil)) pa_nil))) (pg_name (i := 2) sc__labelled_undone.nd rfl (.inr rfl)) (
    (pss_cons (ps_setLc (i := 3) (own := [("at", 4)]) rfl sc__labelled_undone.nd rfl rfl (sw_true rfl rfl rfl (by decide +kernel)) (pi_range2 (by rfl) T.n_range (pa_cons pe_int (pa_cons (pv 2) pa_nil))) (blkOk_by (own := [("at", 4)]) (N := ["counts", "members", "size", "beside", "at"]) (sc := defScope s__labelled_undone) (by decide +kernel)) (fun _ _ _ _ _ => (pg_name (i := 4) sc__labelled_undone.nd rfl (.inl rfl))) (fun _ _ _ _ _ => pts_nil) (fun _ _ _ _ _ => (pe_op op_mulW (pe_op op_mul (pe_callBfun cr_comb (by rfl) T.m_comb (pa_cons (pe_op op_sub (pv 2) pe_int) (pa_cons (pe_op op_sub (pv 4) pe_int) pa_nil))) (pe_ix (ix_listB (K := K) rfl) (pv 1) (pv 4) (fun _ _ => rfl))) (pe_ix (ix_listB (K := K) rfl) (pv 0) (pe_op op_sub (pv 2) (pv 4)) (fun _ _ => rfl)))))
    (pss_one (ps_expr (pe_bm PySem.F.plainAttrs_list PySem.F.slot_list_append PySem.F.type_list_append mt_append (pv 1) (pa_cons (pe_op op_sub (pe_ix ix_list (pv 0) (pv 2) (fun _ _ => rfl)) (pe_callB (cr_sum rfl) (by rfl) T.n_sum (by decide +kernel) (pa_cons (pv 3) pa_nil))) pa_nil)))))))
  (pss_one (ps_ret (pv 1))))), ?_⟩
    refine ⟨sz _ (by show 1 ≤ 100000; decide), fun p1 n1 => ?_⟩
    have s1 : Same H (upd H p1 (.lst [.int 0])) := same_upd n1
    refine ⟨_, rfl, a, _, rfl, .inl (s1.seq hA), _, _, rfl, ⟨by omega, by omega, by rw [fun_len]; omega, by rw [fun_len]; omega⟩, ?_⟩
    rw [fun_len, show ((N : Int) - 1).toNat = N - 1 by omega]
    refine for_range (lo := 1) (n := N - 1) (fun j σ H' => Same H H' ∧ ∃ y2 y3 y4, σ = [some (.ref a), some (.ref p1), y2, y3, y4] ∧ H' p1 = some (.lst (((List.range (1 + j)).map U).map V.int))) ⟨s1, none, none, none, rfl, by rw [upd_same]; show _ = some (HO.lst [V.int (U 0)]); rw [hU.1]⟩ ?_ ?_
    · rintro j σ H3 hj ⟨s3, y2, y3, y4, rfl, hp⟩
      refine ⟨_, rfl, _, _, rfl, ⟨by omega, by omega, by omega, by omega⟩, fun Dn hD => ?_⟩
      rw [show ((1 : Int) + (j : Int) - 1).toNat = j by omega]
      refine lc_rangeM (lo := 1) (j := 4) (fun i => V.int (SMath.bin j i * U (i + 1) * Hf (j - i))) (by omega) hD (fun i hi H4 s4 R kk => ?_) (fun H4 s4 h4 => ?_)
      · refine ⟨_, rfl, _, _, rfl, rfl, _, rfl, _, _, rfl, rfl, _, _, rfl, by omega, by omega, by omega, fun _ => ?_⟩
        have e1 : PySem.W.mcComb ((1 : Int) + (j : Int) - 1) ((1 : Int) + (i : Int) - 1) = SMath.bin j i := by
          rw [show (1 : Int) + (j : Int) - 1 = (j : Nat) by omega, show (1 : Int) + (i : Int) - 1 = (i : Nat) by omega]
          exact comb_bin (by omega) (by omega)
        rw [e1]
        have hb := SMath.bin_le j i
        have hb2 : (2 : Int) ^ j ≤ 2 ^ 14 := pow_le (by omega)
        refine ⟨_, rfl, _, rfl, p1, _, _, _, rfl, rfl, sq_of (s4 _ _ hp), atI_of (j := i + 1) (by omega) (fun_get (by omega)), _, _, rfl, rfl, .inl ⟨by omega, by omega⟩, ?_⟩
        refine ⟨_, rfl, _, rfl, _, rfl, _, _, rfl, rfl, a, _, _, _, rfl, rfl, s4.seq (s3.seq hA), atI_of (j := j - i) (by omega) (fun_get (by omega)), _, _, rfl, rfl, ?_, kk H4 (.refl H4)⟩
        have hb3 := hB (j + 1) i (by omega) (by omega)
        rw [Nat.add_sub_cancel] at hb3
        exact wide_mul hb3 (hH (j - i) (by omega)) (by decide) (by decide) (by decide)
      · have hp4 := s4 _ _ hp
        refine ⟨_, rfl, .inl ⟨rfl, _, sq_of hp4⟩, _, rfl, _, rfl, a, _, _, _, rfl, rfl, s4.seq (s3.seq hA), atI_of (j := j + 1) (by omega) (fun_get (by omega)), _, rfl, Dn, (List.range j).map (fun i => SMath.bin j i * U (i + 1) * Hf (j - i)), rfl, sq_of (by rw [h4, List.map_map]; rfl), _, _, rfl, rfl, p1, _, _, rfl, rfl, hp4, szl _ (by rw [fun_len]; omega), ?_⟩
        refine ⟨same_upd' (s3.trans s4) n1, _, _, _, rfl, ?_⟩
        rw [upd_same, SMath.S_list, show 1 + (j + 1) = (1 + j) + 1 by omega, ← fun_more, show 1 + j = j + 1 by omega, hU.2 j (by omega)]
    · rintro σ H3 ⟨s3, y2, y3, y4, rfl, hp⟩
      refine ⟨_, rfl, q p1 H3 s3 n1 ?_⟩
      rw [hp, show 1 + (N - 1) = N by omega]
end
end SM

namespace SM
open PySem L2
/-! ### undone, without labels -/
def sml (c : Nat → Int) (n : Nat) (ds : List Int) : List Int := (ds.filter fun d : Int => decide (d < (n : Int))).map fun d : Int => d * c d.toNat
theorem sml_more {c : Nat → Int} {n : Nat} {ds : List Int} {z : Int} : sml c n (ds ++ [z]) = if z < n then sml c n ds ++ [z * c z.toNat] else sml c n ds := by
  unfold sml
  rw [List.filter_append, List.map_append]
  by_cases h : z < n
  · rw [if_pos h]
    congr 1
    rw [List.filter_cons_of_pos (by simpa using h)]
    rfl
  · rw [if_neg h, List.filter_cons_of_neg (by simpa using h)]
    simp
theorem sml_sum (c : Nat → Int) (n : Nat) : ∀ L, (sml c n (((List.range L).filter fun i => decide (n % (i + 1) = 0)).map fun i : Nat => ((i : Int) + 1))).sum = SMath.S L fun i => if n % (i + 1) = 0 ∧ i + 1 < n then ((i : Int) + 1) * c (i + 1) else 0
  | 0 => rfl
  | L + 1 => by
    rw [List.range_succ, List.filter_append, List.map_append, SMath.S, ← sml_sum c n L]
    by_cases h : n % (L + 1) = 0
    · rw [List.filter_cons_of_pos (by simpa using h), List.filter_nil, List.map_cons, List.map_nil, sml_more]
      by_cases h2 : L + 1 < n
      · rw [if_pos (by omega), if_pos ⟨h, h2⟩, List.sum_append]
        rw [show ((L : Int) + 1).toNat = L + 1 by omega]
        simp
      · rw [if_neg (by omega), if_neg (fun z => h2 z.2), Int.add_zero]
    · rw [List.filter_cons_of_neg (by simpa using h), List.filter_nil, List.map_nil, List.append_nil, if_neg (fun z => h z.1), Int.add_zero]
theorem sml_W (c : Nat → Int) (j : Nat) : (sml c (j + 1) (divs (j + 1))).sum = SMath.W c j (j + 1) := by
  unfold divs
  rw [sml_sum, SMath.S, if_neg (fun z => Nat.lt_irrefl _ z.2), Int.add_zero]
  refine SMath.S_congr fun i hi => ?_
  unfold SMath.ind
  by_cases h : (j + 1) % (i + 1) = 0
  · rw [if_pos ⟨h, by omega⟩, if_pos h, Int.mul_comm]; rfl
  · rw [if_neg (fun z => h z.1), if_neg h, Int.mul_zero]
theorem divs_mem {n : Nat} {z : Int} (h : z ∈ divs n) : 1 ≤ z ∧ z ≤ n := by
  unfold divs at h
  obtain ⟨i, hi, rfl⟩ := List.mem_map.mp h
  have := List.mem_range.mp (List.mem_filter.mp hi).1
  omega
section
variable {P : Program} {w : World} {K : PySem.W.Frag} {mg : Str → Option Value} {base : Heap} {W : Ad}
def spUndU (K : PySem.W.Frag) : Sp := fun vs H Q _ => ∃ (a : Addr) (Hf wf c : Nat → Int) (N : Nat), vs = [.ref a] ∧ SqL K H a (((List.range N).map Hf).map V.int) ∧ 1 ≤ N ∧ N ≤ 14 ∧ UndU Hf wf c N ∧ Bg N Hf ∧ Bg N wf ∧
  ∀ p H', Same H H' → H p = none → H' p = some (.lst (((List.range N).map c).map V.int)) → Q (.ref p) H'
theorem ok_undU (T : Tx K mg W) (D : Df K mg "_unlabelled_undone" s__unlabelled_undone ["counts"]) (C1 : Cal P w K mg base CX0 1 "divisors" ["number"] spDivs) : Cal P w K mg base CX0 2 "_unlabelled_undone" ["counts"] (spUndU K) := by
  obtain ⟨f, fd, g, F, b⟩ := D
  obtain ⟨f1, fd1, g_divisors, k_divisors, b_divisors, G_divisors⟩ := C1.ex
  refine ⟨f, fd, g, F.kp, b, F.ok sc__unlabelled_undone (fun vs H Q E h => ?_) (fun cdv A outer s H vs Q E hr h => ?_)⟩
  · obtain ⟨_, _, _, _, _, rfl, _⟩ := h
    rfl
  · obtain ⟨a, Hf, wf, c, N, rfl, hA, h1, h14, hU, hH, hB, q⟩ := h
    refine ⟨_, (pss_cons (ps_set (i := 1) sc__unlabelled_undone.nd rfl (.inr rfl) (pe_lst (pa_cons pe_int pa_nil)))
  (pss_cons (ps_set (i := 2) sc__unlabelled_undone.nd rfl (.inr rfl) (pe_lst (pa_cons pe_int pa_nil)))
  (pss_cons (ps_for PassesOwn.never rfl (pi_range2 (by rfl) T.n_range (pa_cons pe_int (pa_cons (pe_callB call_len_seq (by rfl) T.n_len (by decide +kernel) (pa_cons (pv 0) pa_nil)) pa_nil))) (pg_name (i := 3) sc__unlabelled_undone.nd rfl (.inr rfl)) (
    (pss_cons (ps_set (i := 4) sc__unlabelled_undone.nd rfl (.inl rfl) (pe_op op_sub (pe_op op_mul (pv 3) (pe_ix ix_list (pv 0) (pv 3) (fun _ _ => rfl))) (pe_callB (cr_sum rfl) (by rfl) T.n_sum (by decide +kernel) (pa_cons (pe_lc (own := [("at", 6)]) rfl sc__unlabelled_undone.nd (pi_range2 (by rfl) T.n_range (pa_cons pe_int (pa_cons (pv 3) pa_nil))) (blkOk_by (own := [("at", 6)]) (N := ["counts", "members", "weights", "size", "weight", "smaller", "at"]) (sc := defScope s__unlabelled_undone) (by decide +kernel)) (fun _ _ _ _ _ => (pg_name (i := 6) sc__unlabelled_undone.nd rfl (.inl rfl))) (fun _ _ _ _ _ => pts_nil) (fun _ _ _ _ _ => (pe_op op_mulW (pe_ix (ix_listB (K := K) rfl) (pv 2) (pv 6) (fun _ _ => rfl)) (pe_ix (ix_listB (K := K) rfl) (pv 0) (pe_op op_sub (pv 3) (pv 6)) (fun _ _ => rfl))))) pa_nil))))
    (pss_cons (ps_set (i := 5) sc__unlabelled_undone.nd rfl (.inl rfl) (pe_callB (cr_sum rfl) (by rfl) T.n_sum (by decide +kernel) (pa_cons (pe_lc (own := [("at", 6)]) rfl sc__unlabelled_undone.nd (pi_list (pe_call G_divisors (hr.mono (by decide)) (by rfl) g_divisors k_divisors b_divisors .nil pass0 (pa_cons (pv 3) pa_nil))) (blkOk_by (own := [("at", 6)]) (N := ["counts", "members", "weights", "size", "weight", "smaller", "at"]) (sc := defScope s__unlabelled_undone) (by decide +kernel)) (fun _ _ _ _ _ => (pg_name (i := 6) sc__unlabelled_undone.nd rfl (.inl rfl))) (fun _ _ _ _ _ => pts_one (pt_cmpR op_lt (pv 6) (pv 3) (nomark _))) (fun _ _ _ _ _ => (pe_op op_mul (pv 6) (pe_ix (ix_listB (K := K) rfl) (pv 1) (pv 6) (fun _ _ => rfl))))) pa_nil)))
    (pss_cons (ps_expr (pe_bm PySem.F.plainAttrs_list PySem.F.slot_list_append PySem.F.type_list_append mt_append (pv 1) (pa_cons (pe_op op_fdivN (pe_op op_sub (pv 4) (pv 5)) (pv 3)) pa_nil)))
    (pss_one (ps_expr (pe_bm PySem.F.plainAttrs_list PySem.F.slot_list_append PySem.F.type_list_append mt_append (pv 2) (pa_cons (pv 4) pa_nil)))))))))
  (pss_one (ps_ret (pv 1)))))), ?_⟩
    refine ⟨sz _ (by show 1 ≤ 100000; decide), fun p1 n1 => ⟨sz _ (by show 1 ≤ 100000; decide), fun p2 n2 => ?_⟩⟩
    have s1 : Same H (upd H p1 (.lst [.int 0])) := same_upd n1
    have s2 : Same H (upd (upd H p1 (.lst [.int 0])) p2 (.lst [.int 0])) := s1.trans (same_upd n2)
    have n12 : p1 ≠ p2 := fun e => by rw [← e, upd_same] at n2; cases n2
    have n2' : H p2 = none := s1.free n2
    refine ⟨_, rfl, a, _, rfl, .inl (s2.seq hA), _, _, rfl, ⟨by omega, by omega, by rw [fun_len]; omega, by rw [fun_len]; omega⟩, ?_⟩
    rw [fun_len, show ((N : Int) - 1).toNat = N - 1 by omega]
    refine for_range (lo := 1) (n := N - 1) (fun j σ H' => Same H H' ∧ ∃ y3 y4 y5 y6, σ = [some (.ref a), some (.ref p1), some (.ref p2), y3, y4, y5, y6] ∧ H' p1 = some (.lst (((List.range (1 + j)).map c).map V.int)) ∧ H' p2 = some (.lst (((List.range (1 + j)).map wf).map V.int)))
      ⟨s2, none, none, none, none, rfl, by rw [upd_ne n12, upd_same]; show _ = some (HO.lst [V.int (c 0)]); rw [hU.1], by rw [upd_same]; show _ = some (HO.lst [V.int (wf 0)]); rw [hU.2.1]⟩ ?_ ?_
    · rintro j σ H3 hj ⟨s3, y3, y4, y5, y6, rfl, hp1, hp2⟩
      -- weight
      refine ⟨_, rfl, _, rfl, _, rfl, a, _, _, _, rfl, rfl, s3.seq hA, atI_of (j := j + 1) (by omega) (fun_get (by omega)), _, _, rfl, rfl, .inl ⟨by omega, by omega⟩, _, rfl, _, _, rfl, ⟨by omega, by omega, by omega, by omega⟩, fun Dn hD => ?_⟩
      rw [show ((1 : Int) + (j : Int) - 1).toNat = j by omega]
      refine lc_rangeM (lo := 1) (j := 6) (fun i => V.int (wf (i + 1) * Hf (j + 1 - (i + 1)))) (by omega) hD (fun i hi H4 s4 R kk => ?_) (fun H4 s4 h4 => ?_)
      · refine ⟨_, rfl, _, rfl, p2, _, _, _, rfl, rfl, sq_of (s4 _ _ hp2), atI_of (j := i + 1) (by omega) (fun_get (by omega)), _, rfl, _, rfl, _, rfl, _, _, rfl, rfl, a, _, _, _, rfl, rfl, s4.seq (s3.seq hA), atI_of (j := j + 1 - (i + 1)) (by omega) (fun_get (by omega)), _, _, rfl, rfl, ?_, kk H4 (.refl H4)⟩
        exact wide_mul (hB (i + 1) (by omega)) (hH _ (by omega)) (by decide) (by decide) (by decide)
      refine ⟨Dn, (List.range j).map (fun i => wf (i + 1) * Hf (j + 1 - (i + 1))), rfl, sq_of (by rw [h4, List.map_map]; rfl), _, _, rfl, rfl, ?_⟩
      have ew : (1 + (j : Int)) * Hf (j + 1) - ((List.range j).map (fun i => wf (i + 1) * Hf (j + 1 - (i + 1)))).sum = wf (j + 1) := by
        rw [(hU.2.2 j (by omega)).1, SMath.S_list, show (1 : Int) + (j : Int) = ((j + 1 : Nat) : Int) by omega]
      dsimp only
      rw [ew]
      -- smaller
      refine ⟨_, rfl, j + 1, ?_, by omega, fun dp H5 s5 ndp hdp => ?_⟩
      · show [V.int (1 + (j : Int))] = _
        rw [show (1 : Int) + (j : Int) = ((j + 1 : Nat) : Int) by omega]
      have hp1a := s5 _ _ (s4 _ _ hp1)
      have hp2a := s5 _ _ (s4 _ _ hp2)
      have hdl : (divs (j + 1)).length ≤ j + 1 := by
        unfold divs
        rw [List.length_map]
        have := List.length_filter_le (fun i => decide ((j + 1) % (i + 1) = 0)) (List.range (j + 1))
        rw [List.length_range] at this
        exact this
      refine ⟨dp, rfl, ⟨_, sq_of hdp⟩, fun Dm hDm => ?_⟩
      refine lc_list (K := K) (a := dp) (xs := (divs (j + 1)).map V.int) (fun i H' => Same H5 H' ∧ H' Dm = some (.lst ((sml c (j + 1) ((divs (j + 1)).take i)).map V.int))) ⟨same_upd hDm, upd_same⟩ (fun i H' _ h => sq_of (h.1 _ _ hdp)) ?_ ?_
      · rintro i x H' hi ⟨sm, hd⟩
        obtain ⟨z, hz, rfl⟩ := ints_of hi
        have hzm := divs_mem (List.mem_of_getElem? hz)
        have hil := (List.getElem?_eq_some_iff.mp hz).1
        have hlen : (sml c (j + 1) ((divs (j + 1)).take i)).length ≤ i := by
          unfold sml
          rw [List.length_map]
          refine Nat.le_trans (List.length_filter_le _ _) ?_
          rw [List.length_take]
          exact Nat.min_le_left _ _
        refine ⟨rfl, ?_⟩
        refine ⟨_, rfl, _, rfl, _, _, rfl, rfl, _, rfl, ite2 (fun cc => ?_) (fun cc => ?_)⟩
        · have hlt : z < (1 : Int) + (j : Int) := of_decide_eq_true cc
          refine ⟨_, rfl, _, rfl, _, rfl, p1, _, _, _, rfl, rfl, sq_of (sm _ _ hp1a), atI_of (j := z.toNat) (by omega) (fun_get (by omega)), _, _, rfl, rfl, .inl ⟨by omega, by omega⟩, _, hd, szl _ (by rw [List.length_map]; omega), same_upd' sm hDm, ?_⟩
          rw [upd_same, take_more hz, sml_more, if_pos (by omega), List.map_append]
          rfl
        · have hlt : ¬ z < (1 : Int) + (j : Int) := fun h => cc (decide_eq_true h)
          refine ⟨sm, ?_⟩
          rw [take_more hz, sml_more, if_neg (by omega)]
          exact hd
      · rintro H6 ⟨s6, hd6⟩
        rw [List.length_map, List.take_of_length_le (Nat.le_refl _)] at hd6
        refine ⟨Dm, sml c (j + 1) (divs (j + 1)), rfl, sq_of hd6, ?_⟩
        rw [sml_W]
        have hp1b := s6 _ _ hp1a
        have hp2b := s6 _ _ hp2a
        have n1b : H p1 = none := n1
        have sAll : Same H H6 := s3.trans (s4.trans (s5.trans s6))
        refine ⟨_, rfl, .inl ⟨rfl, _, sq_of hp1b⟩, _, rfl, _, rfl, _, _, rfl, rfl, _, rfl, _, _, rfl, rfl, ⟨by omega, by omega⟩, p1, _, _, rfl, rfl, hp1b, szl _ (by rw [fun_len]; omega), ?_⟩
        have n12b : p2 ≠ p1 := fun e => n12 e.symm
        refine ⟨_, rfl, .inl ⟨rfl, _, sq_of (by rw [upd_ne n12b]; exact hp2b)⟩, _, rfl, p2, _, _, rfl, rfl, by rw [upd_ne n12b]; exact hp2b, szl _ (by rw [fun_len]; omega), ?_⟩
        refine ⟨same_upd' (same_upd' sAll n1) n2', _, _, _, _, rfl, ?_, ?_⟩
        · rw [upd_ne n12, upd_same, show 1 + (j + 1) = (1 + j) + 1 by omega, ← fun_more]
          have ec : (wf (j + 1) - SMath.W c j (j + 1)).fdiv ((1 : Int) + (j : Int)) = c (1 + j) := by
            rw [show 1 + j = j + 1 by omega, (hU.2.2 j (by omega)).2, Int.fdiv_eq_ediv_of_nonneg _ (by omega), show (1 : Int) + (j : Int) = ((j + 1 : Nat) : Int) by omega]
          rw [← ec]
        · rw [upd_same, show 1 + (j + 1) = (1 + j) + 1 by omega, ← fun_more, show 1 + j = j + 1 by omega]
    · rintro σ H3 ⟨s3, y3, y4, y5, y6, rfl, hp1, hp2⟩
      refine ⟨_, rfl, q p1 H3 s3 n1 ?_⟩
      rw [hp1, show 1 + (N - 1) = N by omega]
end
end SM

namespace SM
open PySem L2
theorem sum_filter (p : Nat → Bool) (g : Nat → Int) : ∀ L, (((List.range L).filter p).map g).sum = SMath.S L fun i => if p i = true then g i else 0
  | 0 => rfl
  | L + 1 => by
    rw [List.range_succ, List.filter_append, List.map_append, List.sum_append, sum_filter p g L, SMath.S]
    congr 1
    by_cases h : p L = true
    · rw [List.filter_cons_of_pos h, if_pos h]
      simp
    · rw [List.filter_cons_of_neg h, if_neg h]
      simp
section
variable {P : Program} {w : World} {K : PySem.W.Frag} {mg : Str → Option Value} {base : Heap} {W : Ad}
def spUnd (K : PySem.W.Frag) : Sp := fun vs H Q E => ∃ (a : Addr) (Hf : Nat → Int) (lb : Bool) (N : Nat), vs = [.ref a, .bl lb] ∧ H a = some (.lst (((List.range N).map Hf).map V.int)) ∧ (∀ i, i < N → 0 ≤ Hf i) ∧ Hf 0 = 1 ∧ 1 ≤ N ∧ N ≤ 14 ∧
  ∀ H', Same H H' → if lb = true then spUndL K [.ref a] H' Q E else spUndU K [.ref a] H' Q E
theorem ok_und (T : Tx K mg W) (D : Df K mg "sets_undone" s_sets_undone ["counts", "labelled"]) (C1 : Cal P w K mg base CX0 2 "check_counts" ["counts"] spCheck)
    (C2 : Cal P w K mg base CX0 1 "_labelled_undone" ["counts"] (spUndL K)) (C3 : Cal P w K mg base CX0 2 "_unlabelled_undone" ["counts"] (spUndU K)) : Cal P w K mg base CX0 3 "sets_undone" ["counts", "labelled"] (spUnd K) := by
  obtain ⟨f, fd, g, F, b⟩ := D
  obtain ⟨f1, fd1, g_check_counts, k_check_counts, b_check_counts, G_check_counts⟩ := C1.ex
  obtain ⟨f2, fd2, g__labelled_undone, k__labelled_undone, b__labelled_undone, G__labelled_undone⟩ := C2.ex
  obtain ⟨f3, fd3, g__unlabelled_undone, k__unlabelled_undone, b__unlabelled_undone, G__unlabelled_undone⟩ := C3.ex
  refine ⟨f, fd, g, F.kp, b, F.ok sc_sets_undone (fun vs H Q E h => ?_) (fun cdv A outer s H vs Q E hr h => ?_)⟩
  · obtain ⟨_, _, _, _, rfl, _⟩ := h
    rfl
  · obtain ⟨a, Hf, lb, N, rfl, hA, hnn, h0, h1, h14, q⟩ := h
    refine ⟨_, (pss_cons (ps_expr (pe_call G_check_counts (hr.mono (by decide)) (by rfl) g_check_counts k_check_counts b_check_counts .nil pass0 (pa_cons (pv 0) pa_nil)))
  (pss_cons (ps_if (pt_cmpR op_ne (pe_ix ix_list (pv 0) pe_int (fun _ _ => rfl)) pe_int (nomark _)) (
    (pss_one (ps_never))) (pss_nil))
  (pss_one (ps_ret (pe_ifExp (pt_val (pv 1)) (pe_call G__labelled_undone (hr.mono (by decide)) (by rfl) g__labelled_undone k__labelled_undone b__labelled_undone .nil pass0 (pa_cons (pv 0) pa_nil)) (pe_call G__unlabelled_undone (hr.mono (by decide)) (by rfl) g__unlabelled_undone k__unlabelled_undone b__unlabelled_undone .nil pass0 (pa_cons (pv 0) pa_nil))))))), ?_⟩
    refine ⟨_, rfl, a, (List.range N).map Hf, rfl, hA, fun x hx => ?_, by rw [List.length_map, List.length_range]; omega, by rw [List.length_map, List.length_range]; omega, fun H1 s1 => ?_⟩
    · obtain ⟨i, hi, rfl⟩ := List.mem_map.mp hx
      exact hnn i (List.mem_range.mp hi)
    refine ⟨_, rfl, a, _, _, _, rfl, rfl, sq_of (s1 _ _ hA), atI_nat (j := 0) (fun_get (by omega)), rfl, _, rfl, ?_⟩
    rw [h0, decide_eq_true rfl]
    refine iteF ⟨_, rfl, lb, rfl, ?_⟩
    have h := q H1 s1
    cases lb with
    | true =>
      rw [if_pos rfl] at h
      exact iteT ⟨_, rfl, h⟩
    | false =>
      rw [if_neg Bool.false_ne_true] at h
      exact iteF ⟨_, rfl, h⟩
/-! ### the law's sets -/
def spLSets (K : PySem.W.Frag) : Sp := fun vs H Q _ => ∃ (a : Addr) (c Fn : Nat → Int) (lb : Bool) (N : Nat), vs = [.ref a, .bl lb] ∧ SqL K H a (((List.range N).map c).map V.int) ∧ 1 ≤ N ∧ N ≤ 14 ∧ SetF lb c Fn N ∧ Bg N Fn ∧
  (∀ n i, n < N → i < n → (SMath.bin (n - 1) i * c (i + 1)).natAbs < 2 ^ 100000) ∧ (∀ k, k < N → (SMath.W c k k).natAbs < 2 ^ 100000) ∧
  ∀ p H', Same H H' → H p = none → H' p = some (.lst (((List.range N).map Fn).map V.int)) → Q (.ref p) H'
theorem ok_lsets (T : Tx K mg W) (D : Df K mg "_law_sets" s__law_sets ["counts", "labelled"]) (C1 : Cal P w K mg base CX0 1 "_law_binomial" ["n", "k"] spBin) : Cal P w K mg base CX0 2 "_law_sets" ["counts", "labelled"] (spLSets K) := by
  obtain ⟨f, fd, g, F, b⟩ := D
  obtain ⟨f1, fd1, g__law_binomial, k__law_binomial, b__law_binomial, G__law_binomial⟩ := C1.ex
  refine ⟨f, fd, g, F.kp, b, F.ok sc__law_sets (fun vs H Q E h => ?_) (fun cdv A outer s H vs Q E hr h => ?_)⟩
  · obtain ⟨_, _, _, _, _, rfl, _⟩ := h
    rfl
  · obtain ⟨a, c, Fn, lb, N, rfl, hA, h1, h14, hF, hB, hL, hWb, q⟩ := h
    refine ⟨_, (pss_cons (ps_set (i := 2) sc__law_sets.nd rfl (.inr rfl) (pe_lst (pa_cons pe_int pa_nil)))
  (pss_cons (ps_for PassesOwn.never rfl (pi_range2 (by rfl) T.n_range (pa_cons pe_int (pa_cons (pe_callB call_len_seq (by rfl) T.n_len (by decide +kernel) (pa_cons (pv 0) pa_nil)) pa_nil))) (pg_name (i := 3) sc__law_sets.nd rfl (.inr rfl)) (
    (pss_one (ps_if (pt_val (pv 1)) (
      (pss_one (ps_expr (pe_bm PySem.F.plainAttrs_list PySem.F.slot_list_append PySem.F.type_list_append mt_append (pv 2) (pa_cons (pe_callB (cr_sum rfl) (by rfl) T.n_sum (by decide +kernel) (pa_cons (pe_lc (own := [("k", 5)]) rfl sc__law_sets.nd (pi_range2 (by rfl) T.n_range (pa_cons pe_int (pa_cons (pe_op op_add (pv 3) pe_int) pa_nil))) (blkOk_by (own := [("k", 5)]) (N := ["counts", "labelled", "found", "n", "total", "k", "d"]) (sc := defScope s__law_sets) (by decide +kernel)) (fun _ _ _ _ _ => (pg_name (i := 5) sc__law_sets.nd rfl (.inl rfl))) (fun _ _ _ _ _ => pts_nil) (fun _ _ _ _ _ => (pe_op op_mulW (pe_op op_mul (pe_call G__law_binomial (hr.mono (by decide)) (by rfl) g__law_binomial k__law_binomial b__law_binomial .nil pass0 (pa_cons (pe_op op_sub (pv 3) pe_int) (pa_cons (pe_op op_sub (pv 5) pe_int) pa_nil))) (pe_ix (ix_listB (K := K) rfl) (pv 0) (pv 5) (fun _ _ => rfl))) (pe_ix (ix_listB (K := K) rfl) (pv 2) (pe_op op_sub (pv 3) (pv 5)) (fun _ _ => rfl))))) pa_nil)) pa_nil))))) (
      (pss_cons (ps_set (i := 4) sc__law_sets.nd rfl (.inl rfl) pe_int)
      (pss_cons (ps_for PassesOwn.never rfl (pi_range2 (by rfl) T.n_range (pa_cons pe_int (pa_cons (pe_op op_add (pv 3) pe_int) pa_nil))) (pg_name (i := 5) sc__law_sets.nd rfl (.inr rfl)) (
        (pss_one (ps_set (i := 4) sc__law_sets.nd rfl (.inl rfl) (pe_op op_add (pv 4) (pe_op op_mulW (pe_callB (cr_sum rfl) (by rfl) T.n_sum (by decide +kernel) (pa_cons (pe_lc (own := [("d", 6)]) rfl sc__law_sets.nd (pi_range2 (by rfl) T.n_range (pa_cons pe_int (pa_cons (pe_op op_add (pv 5) pe_int) pa_nil))) (blkOk_by (own := [("d", 6)]) (N := ["counts", "labelled", "found", "n", "total", "k", "d"]) (sc := defScope s__law_sets) (by decide +kernel)) (fun _ _ _ _ _ => (pg_name (i := 6) sc__law_sets.nd rfl (.inl rfl))) (fun _ _ _ _ _ => pts_one (pt_cmpR op_eq (pe_op op_mod (pe_callTy call_int1 (by rfl) T.n_int (by decide +kernel) (pa_cons (pv 5) pa_nil)) (pv 6)) pe_int (nomark _))) (fun _ _ _ _ _ => (pe_op op_mul (pv 6) (pe_ix (ix_listB (K := K) rfl) (pv 0) (pv 6) (fun _ _ => rfl))))) pa_nil)) (pe_ix ix_list (pv 2) (pe_op op_sub (pv 3) (pv 5)) (fun _ _ => rfl))))))))
      (pss_one (ps_expr (pe_bm PySem.F.plainAttrs_list PySem.F.slot_list_append PySem.F.type_list_append mt_append (pv 2) (pa_cons (pe_op op_fdivN (pv 4) (pv 3)) pa_nil)))))))))))
  (pss_one (ps_ret (pv 2))))), ?_⟩
    refine ⟨sz _ (by show 1 ≤ 100000; decide), fun p1 n1 => ?_⟩
    have s1 : Same H (upd H p1 (.lst [.int 1])) := same_upd n1
    refine ⟨_, rfl, a, _, rfl, .inl (s1.seq hA), _, _, rfl, ⟨by omega, by omega, by rw [fun_len]; omega, by rw [fun_len]; omega⟩, ?_⟩
    rw [fun_len, show ((N : Int) - 1).toNat = N - 1 by omega]
    refine for_range (lo := 1) (n := N - 1) (fun j σ H' => Same H H' ∧ ∃ y3 y4 y5 y6, σ = [some (.ref a), some (.bl lb), some (.ref p1), y3, y4, y5, y6] ∧ H' p1 = some (.lst (((List.range (1 + j)).map Fn).map V.int)))
      ⟨s1, none, none, none, none, rfl, by rw [upd_same]; show _ = some (HO.lst [V.int (Fn 0)]); rw [hF.1]⟩ ?_ ?_
    · rintro j σ H3 hj ⟨s3, y3, y4, y5, y6, rfl, hp⟩
      have hFj := hF.2 j (by omega)
      refine ⟨_, rfl, lb, rfl, ?_⟩
      cases lb with
      | true =>
        rw [if_pos rfl] at hFj
        refine iteT ⟨_, rfl, .inl ⟨rfl, _, sq_of hp⟩, _, rfl, _, _, rfl, rfl, _, _, rfl, ⟨by omega, by omega, by omega, by omega⟩, fun Dn hD => ?_⟩
        rw [show ((1 : Int) + (j : Int) + 1 - 1).toNat = j + 1 by omega]
        refine lc_rangeM (lo := 1) (j := 5) (fun i => V.int (SMath.bin j i * c (i + 1) * Fn (j - i))) (by omega) hD (fun i hi H4 s4 R kk => ?_) (fun H4 s4 h4 => ?_)
        · refine ⟨_, rfl, _, _, rfl, rfl, _, rfl, _, _, rfl, rfl, ((1 : Int) + (j : Int) - 1), j, i, ?_, .inl (by omega), by omega, by omega, ?_⟩
          · show [V.int _, V.int ((1 : Int) + (i : Int) - 1)] = _
            rw [show (1 : Int) + (i : Int) - 1 = i by omega]
          have hb := SMath.bin_le j i
          have hb2 : (2 : Int) ^ j ≤ 2 ^ 14 := pow_le (by omega)
          refine ⟨_, rfl, _, rfl, a, _, _, _, rfl, rfl, s4.seq (s3.seq hA), atI_of (j := i + 1) (by omega) (fun_get (by omega)), _, _, rfl, rfl, .inl ⟨by omega, by omega⟩, ?_⟩
          refine ⟨_, rfl, _, rfl, _, rfl, _, _, rfl, rfl, p1, _, _, _, rfl, rfl, sq_of (s4 _ _ hp), atI_of (j := j - i) (by omega) (fun_get (by omega)), _, _, rfl, rfl, ?_, kk H4 (.refl H4)⟩
          have hb3 := hL (j + 1) i (by omega) (by omega)
          rw [Nat.add_sub_cancel] at hb3
          exact wide_mul hb3 (hB (j - i) (by omega)) (by decide) (by decide) (by decide)
        · have hp4 := s4 _ _ hp
          refine ⟨Dn, (List.range (j + 1)).map (fun i => SMath.bin j i * c (i + 1) * Fn (j - i)), rfl, sq_of (by rw [h4, List.map_map]; rfl), p1, _, _, rfl, rfl, hp4, szl _ (by rw [fun_len]; omega), ?_⟩
          refine ⟨same_upd' (s3.trans s4) n1, _, _, _, _, rfl, ?_⟩
          rw [upd_same, SMath.S_list, ← hFj, show 1 + (j + 1) = (1 + j) + 1 by omega, ← fun_more, show 1 + j = j + 1 by omega]
      | false =>
        rw [if_neg Bool.false_ne_true] at hFj
        refine iteF ?_
        refine ⟨_, rfl, _, _, rfl, rfl, _, _, rfl, ⟨by omega, by omega, by omega, by omega⟩, ?_⟩
        rw [show ((1 : Int) + (j : Int) + 1 - 1).toNat = j + 1 by omega]
        refine for_range (lo := 1) (n := j + 1) (fun x σ H' => Same H3 H' ∧ ∃ y5 y6, σ = [some (.ref a), some (.bl false), some (.ref p1), some (.int (1 + (j : Int))), some (.int (SMath.S x fun k => SMath.W c (k + 1) (k + 1) * Fn (j + 1 - (k + 1)))), y5, y6]) ⟨.refl H3, _, _, rfl⟩ ?_ ?_
        · rintro x σ H4 hx ⟨s4, y5, y6, rfl⟩
          refine ⟨_, rfl, _, rfl, _, _, rfl, rfl, _, _, rfl, ⟨by omega, by omega, by omega, by omega⟩, fun Dn hD => ?_⟩
          rw [show ((1 : Int) + (x : Int) + 1 - 1).toNat = x + 1 by omega]
          refine lc_rangeF (lo := 1) (j := 6) (fun i => decide ((x + 1) % (i + 1) = 0)) (fun i => V.int (((i : Int) + 1) * c (i + 1))) (by omega) hD (fun i hi H5 s5 R k => ?_) (fun i hi _ H5 s5 R k => ?_) (fun H5 s5 h5 => ?_)
          · refine ⟨_, rfl, .inl ⟨_, rfl, _, rfl, _, _, rfl, rfl, by omega, rfl, _, rfl, ?_⟩⟩
            have := k H5 (.refl H5)
            rw [← emod_nat (x + 1) i, show ((x + 1 : Nat) : Int) = 1 + (x : Int) by omega] at this
            exact this
          · refine ⟨_, rfl, _, rfl, _, rfl, a, _, _, _, rfl, rfl, s5.seq (s4.seq (s3.seq hA)), atI_of (j := i + 1) (by omega) (fun_get (by omega)), _, _, rfl, rfl, .inl ⟨by omega, by omega⟩, ?_⟩
            have := k H5 (.refl H5)
            rw [Int.add_comm (i : Int) 1] at this
            exact this
          · have eW : (((List.range (x + 1)).filter fun i => decide ((x + 1) % (i + 1) = 0)).map fun i : Nat => ((i : Int) + 1) * c (i + 1)).sum = SMath.W c (x + 1) (x + 1) := by
              rw [sum_filter]
              refine SMath.S_congr fun i _ => ?_
              unfold SMath.ind
              by_cases h : (x + 1) % (i + 1) = 0
              · rw [if_pos (decide_eq_true h), if_pos h, Int.mul_comm]; rfl
              · rw [if_neg (fun z => h (of_decide_eq_true z)), if_neg h, Int.mul_zero]
            refine ⟨Dn, ((List.range (x + 1)).filter fun i => decide ((x + 1) % (i + 1) = 0)).map fun i : Nat => ((i : Int) + 1) * c (i + 1), rfl, sq_of (by rw [h5, List.map_map]; rfl), ?_⟩
            rw [eW]
            refine ⟨_, rfl, _, rfl, _, rfl, _, _, rfl, rfl, p1, _, _, _, rfl, rfl, sq_of (s5 _ _ (s4 _ _ hp)), atI_of (j := j + 1 - (x + 1)) (by omega) (fun_get (by omega)), _, _, rfl, rfl, ?_, _, _, rfl, rfl, ?_⟩
            · exact wide_mul (hWb (x + 1) (by omega)) (hB _ (by omega)) (by decide) (by decide) (by decide)
            · exact ⟨s4.trans s5, _, _, rfl⟩
        · rintro σ H4 ⟨s4, y5, y6, rfl⟩
          have hp4 := s4 _ _ hp
          refine ⟨_, rfl, .inl ⟨rfl, _, sq_of hp4⟩, _, rfl, _, rfl, _, _, rfl, rfl, ⟨by omega, by omega⟩, p1, _, _, rfl, rfl, hp4, szl _ (by rw [fun_len]; omega), ?_⟩
          refine ⟨same_upd' (s3.trans s4) n1, _, _, _, _, rfl, ?_⟩
          rw [upd_same, show 1 + (j + 1) = (1 + j) + 1 by omega, ← fun_more]
          have ef : (SMath.S (j + 1) fun k => SMath.W c (k + 1) (k + 1) * Fn (j + 1 - (k + 1))).fdiv ((1 : Int) + (j : Int)) = Fn (1 + j) := by
            rw [← hFj, show (1 : Int) + (j : Int) = ((j + 1 : Nat) : Int) by omega, Int.fdiv_eq_ediv_of_nonneg _ (by omega), Int.mul_ediv_cancel_left _ (by omega), Nat.add_comm 1 j]
          rw [← ef]
    · rintro σ H3 ⟨s3, y3, y4, y5, y6, rfl, hp⟩
      refine ⟨_, rfl, q p1 H3 s3 n1 ?_⟩
      rw [hp, show 1 + (N - 1) = N by omega]
end
end SM

set_option maxHeartbeats 8000000
namespace SM
open PySem L2
/-! ### lists of ints as data -/
def dI (ns : List Int) : PyData := .list (ns.map PyData.int)
theorem dpAll_ints {K : PySem.W.Frag} {H : Hp} : ∀ ns : List Int, DpAll K H (ns.map V.int) (ns.map PyData.int)
  | [] => .nil
  | n :: r => .cons (.int n) (dpAll_ints r)
theorem dp_ints {K : PySem.W.Frag} {H : Hp} {a : Addr} {ns : List Int} (h : SqL K H a (ns.map V.int)) : Dp K H (.ref a) (dI ns) := .lst h (dpAll_ints ns)
theorem lay_ints : ∀ ns : List Int, PyData.canLayAll0 (ns.map PyData.int) = true
  | [] => rfl
  | n :: r => by
    show (PyData.canLay0 (.int n) && PyData.canLayAll0 (r.map PyData.int)) = true
    rw [lay_ints r]; rfl
theorem depth_ints : ∀ ns : List Int, PyData.depthAll (ns.map PyData.int) = 0
  | [] => rfl
  | n :: r => by
    show max (PyData.depth (.int n)) (PyData.depthAll (r.map PyData.int)) = 0
    rw [depth_ints r]; rfl
theorem shaped_ints (ns : List Int) : SeqAt.shaped (dI ns) = true := by
  have e1 : (dI ns).canLay0 = true := lay_ints ns
  have e2 : (dI ns).depth = 1 := by
    show PyData.depthAll (ns.map PyData.int) + 1 = 1
    rw [depth_ints]
  unfold SeqAt.shaped
  rw [e1, e2]; rfl
theorem eqv_ints (ns : List Int) : PyData.eqv (dI ns) (dI ns) = true := SeqAt.eqv_refl _ (lay_ints ns)
theorem call_isiB {X : Cx} {K : PySem.W.Frag} (h : X.K = K) : CallR X (.builtin "isinstance") (rIsi K) := by
  subst h
  exact call_isi
theorem if_intro {t : TT} {A B : TS} {D : Ends} {σ : St} {H : Hp} (b : Bool) (ht : ∀ Q : Bool → Hp → Prop, Q b H → t σ H Q) (hA : b = true → A D σ H) (hB : b = false → B D σ H) : tIfS t A B D σ H := ht _ (by
  cases b with
  | true => exact iteT (hA rfl)
  | false => exact iteF (hB rfl))
theorem gname_intro {i : Nat} {v : V} {σ : St} {H : Hp} {Q : St → Hp → Prop} (h : Q (σ.set i (some v)) H) : gName i v σ H Q := h
theorem next_intro {D : Ends} {σ : St} {H : Hp} (h : D.nx σ H) : tNext D σ H := h
theorem seq_intro {A R : TS} {D : Ends} {σ : St} {H : Hp} (Pst : St → Hp → Prop) (h : (∀ σ' H', Pst σ' H' → R D σ' H') → tSeq A R D σ H) (hr : ∀ σ' H', Pst σ' H' → R D σ' H') : tSeq A R D σ H := h hr
theorem lim_cases (m : Option Int) (X : Nat) : lim m X ≤ X ∧ (lim m X = X ∨ ∃ j, m = some j ∧ lim m X = j.toNat) ∧ ∀ j, m = some j → lim m X ≤ j.toNat := by
  cases m with
  | none => exact ⟨Nat.le_refl _, .inl rfl, fun j z => by cases z⟩
  | some i =>
    refine ⟨Nat.min_le_left _ _, ?_, fun j z => by cases z; exact Nat.min_le_right _ _⟩
    rcases Nat.le_total X i.toNat with h | h
    · exact .inl (Nat.min_eq_left h)
    · exact .inr ⟨i, rfl, Nat.min_eq_right h⟩
theorem max_cases (a b : Nat) : a ≤ max a b ∧ b ≤ max a b ∧ (max a b = a ∨ max a b = b) :=
  ⟨Nat.le_max_left a b, Nat.le_max_right a b, (Nat.le_total a b).elim (fun h => .inr (Nat.max_eq_right h)) (fun h => .inl (Nat.max_eq_left h))⟩
theorem maxl {wd : Str} {x : Int} {b : Nat} (h0 : 0 ≤ x) (h : x ≤ b) (hb : 1 ≤ b) : ∃ l : Nat, (if (if decide (V.str wd = V.str "ring") = true then (1 : Int) else 0) > x then (if decide (V.str wd = V.str "ring") = true then (1 : Int) else 0) else x) = l ∧ l ≤ b ∧ (wd = "ring" → 1 ≤ l) := by
  by_cases hw : wd = "ring"
  · have e : (if decide (V.str wd = V.str "ring") = true then (1 : Int) else 0) = 1 := if_pos (decide_eq_true (by rw [hw]))
    rw [e]
    by_cases h1 : (1 : Int) > x
    · rw [if_pos h1]
      exact ⟨1, rfl, hb, fun _ => Nat.le_refl 1⟩
    · rw [if_neg h1]
      exact ⟨x.toNat, by omega, by omega, fun _ => by omega⟩
  · have e : (if decide (V.str wd = V.str "ring") = true then (1 : Int) else 0) = 0 := if_neg (fun z => hw (V.str.inj (of_decide_eq_true z)))
    rw [e, if_neg (by omega)]
    exact ⟨x.toNat, by omega, by omega, fun z => absurd z hw⟩
theorem zeros_fun {N : Nat} : (List.replicate N [V.int 0]).flatten = ((List.range N).map fun _ => (0 : Int)).map V.int := by
  induction N with
  | zero => rfl
  | succ N ih => rw [List.replicate_succ', List.flatten_append, ih, List.range_succ, List.map_append, List.map_append]; rfl
theorem und_both {K : PySem.W.Frag} {lb : Bool} {Hf U : Nat → Int} {N : Nat} {H' : Hp} {Q : VK} {E : XK} {a : Addr} (hA : SqL K H' a (((List.range N).map Hf).map V.int)) (h1 : 1 ≤ N) (h14 : N ≤ 14) (hH : Bg N Hf)
    (hU : if lb = true then UndL Hf U N else ∃ w : Nat → Int, UndU Hf w U N ∧ ∀ i, i < N → (w i).natAbs < 2 ^ 100000) (hB : ∀ n i, n < N → i < n → (SMath.bin (n - 1) i * U (i + 1)).natAbs < 2 ^ 100000)
    (k : ∀ p H'', Same H' H'' → H' p = none → H'' p = some (.lst (((List.range N).map U).map V.int)) → Q (.ref p) H'') : if lb = true then spUndL K [.ref a] H' Q E else spUndU K [.ref a] H' Q E := by
  cases lb with
  | true =>
    rw [if_pos rfl] at hU ⊢
    exact ⟨a, Hf, U, N, rfl, hA, h1, h14, hU, hH, hB, k⟩
  | false =>
    rw [if_neg Bool.false_ne_true] at hU ⊢
    obtain ⟨w, hw, hwb⟩ := hU
    exact ⟨a, Hf, w, U, N, rfl, hA, h1, h14, hw, hH, hwb, k⟩
theorem list_fun (cs : List Int) : (List.range cs.length).map (cF cs) = cs := by
  refine List.ext_getElem? fun i => ?_
  rw [List.getElem?_map]
  by_cases h : i < cs.length
  · rw [List.getElem?_range h, List.getElem?_eq_getElem h]
    show some (cs.getD i 0) = _
    rw [List.getD_eq_getElem?_getD, List.getElem?_eq_getElem h]
    rfl
  · rw [List.getElem?_eq_none (by rw [List.length_range]; omega), List.getElem?_eq_none (by omega)]
    rfl
theorem getD_map {g : Int → Int} (g0 : g 0 = 0) (cs : List Int) (i : Nat) : (cs.map g).getD i 0 = g (cs.getD i 0) := by
  rw [List.getD_eq_getElem?_getD, List.getD_eq_getElem?_getD, List.getElem?_map]
  cases cs[i]? with
  | none => exact g0.symm
  | some x => rfl
theorem at25 {x : Int} (h : x = 0 ∨ x = 1) : ∃ md : Int, atI [V.int 2, V.int 5] x = some (.int md) ∧ 2 ≤ md ∧ md ≤ 5 := by
  rcases h with rfl | rfl
  · exact ⟨2, rfl, by decide, by decide⟩
  · exact ⟨5, rfl, by decide, by decide⟩
theorem most2 {x y : Int} {l : Nat} (h : x = 0 ∨ x = 1) (h0 : 0 ≤ y) (h1 : y ≤ 4) : ∃ m : Option Nat, atI [V.non, V.int ((l : Int) + y)] x = some (oV (m.map fun i => (i : Int))) ∧ ∀ i, m = some i → l ≤ i ∧ i ≤ l + 4 := by
  rcases h with rfl | rfl
  · exact ⟨none, rfl, fun i z => by cases z⟩
  · refine ⟨some (l + y.toNat), ?_, fun i z => by cases z; omega⟩
    show some (V.int ((l : Int) + y)) = some (V.int ((l + y.toNat : Nat) : Int))
    rw [show ((l + y.toNat : Nat) : Int) = (l : Int) + y by omega]
theorem maxl2 {wd : Str} {l0 : Nat} (h : l0 ≤ 3) : ∃ l : Nat, (if (if decide (V.str wd = V.str "ring") = true then (1 : Int) else 0) > (l0 : Int) then (if decide (V.str wd = V.str "ring") = true then (1 : Int) else 0) else (l0 : Int)) = l ∧ l ≤ 3 ∧ (wd = "ring" → 1 ≤ l) :=
  maxl (b := 3) (by omega) (by omega) (by decide)
/-- what the numbers of members add up to -/
theorem by_out {wd md : Str} {cs : List Int} {bm : Option Int} {l n T N : Nat} (hn : n < N) (hN : 2 ≤ N) (hb : (bm = none ∧ T + 1 = N) ∨ (bm = some (T : Int) ∧ l ≤ T)) :
    (SMath.S (T + 1 - l) fun k => outG wd md cs (some ((l + k : Nat) : Int)) (l + k) n) = outG wd md cs bm l n := by
  obtain ⟨x1, x2, x3⟩ := max_cases n 1
  have e1 : ∀ k : Nat, outG wd md cs (some ((l + k : Nat) : Int)) (l + k) n = if l + k ≤ max n 1 then exG wd md cs (l + k) n else 0 := fun k => by
    unfold outG
    rw [SMath.S_list]
    show SMath.S (min (max n 1) ((l + k : Nat) : Int).toNat + 1 - (l + k)) (fun i => exG wd md cs (l + k + i) n) = _
    rw [Int.toNat_natCast]
    by_cases h : l + k ≤ max n 1
    · rw [if_pos h, Nat.min_eq_right h, show l + k + 1 - (l + k) = 1 by omega]
      show (0 : Int) + exG wd md cs (l + k + 0) n = _
      rw [Int.zero_add, Nat.add_zero]
    · rw [if_neg h, Nat.min_eq_left (by omega), show max n 1 + 1 - (l + k) = 0 by omega]
      rfl
  have e2 : (SMath.S (T + 1 - l) fun k => outG wd md cs (some ((l + k : Nat) : Int)) (l + k) n) = SMath.S (T + 1 - l) fun k => if l + k ≤ max n 1 then exG wd md cs (l + k) n else 0 := SMath.S_congr fun k _ => e1 k
  rw [e2]
  unfold outG
  rw [SMath.S_list]
  generalize max n 1 = X at x1 x2 x3
  have hY : lim bm X ≤ X ∧ lim bm X ≤ T ∧ (X ≤ lim bm X ∨ T ≤ lim bm X) := by
    rcases hb with ⟨rfl, hT⟩ | ⟨rfl, hT⟩
    · show X ≤ X ∧ X ≤ T ∧ _
      exact ⟨Nat.le_refl _, by omega, .inl (Nat.le_refl _)⟩
    · show min X (T : Int).toNat ≤ X ∧ min X (T : Int).toNat ≤ T ∧ (X ≤ min X (T : Int).toNat ∨ T ≤ min X (T : Int).toNat)
      rw [Int.toNat_natCast]
      refine ⟨Nat.min_le_left _ _, Nat.min_le_right _ _, ?_⟩
      rcases Nat.le_total X T with h | h
      · exact .inl (by rw [Nat.min_eq_left h]; exact Nat.le_refl _)
      · exact .inr (by rw [Nat.min_eq_right h]; exact Nat.le_refl _)
  clear hb
  generalize lim bm X = Y at hY
  obtain ⟨y1, y2, y3⟩ := hY
  rw [SMath.S_ext' (n := Y + 1 - l) (m := T + 1 - l) (by omega)]
  · refine SMath.S_congr fun k hk => ?_
    rw [if_pos (by omega)]
  · intro k h1 h2
    rw [if_neg (by omega)]
theorem mem_getD {cs : List Int} {x : Int} (h : x ∈ cs) : ∃ i, cs.getD i 0 = x := by
  obtain ⟨i, hi, rfl⟩ := List.mem_iff_getElem.mp h
  refine ⟨i, ?_⟩
  rw [List.getD_eq_getElem?_getD, List.getElem?_eq_getElem hi]
  rfl
theorem cons_getD {x : Int} {cs : List Int} {i : Nat} : (x :: cs).getD (i + 1) 0 = cs.getD i 0 := by
  rw [List.getD_eq_getElem?_getD, List.getD_eq_getElem?_getD, List.getElem?_cons_succ]
theorem getD_range {f : Nat → Int} {N i : Nat} : ((List.range N).map f).getD i 0 = if i < N then f i else 0 := by
  rw [List.getD_eq_getElem?_getD, List.getElem?_map]
  by_cases h : i < N
  · rw [List.getElem?_range h, if_pos h]; rfl
  · rw [List.getElem?_eq_none (by rw [List.length_range]; omega), if_neg h]; rfl
section
variable {P : Program} {w : World} {K : PySem.W.Frag} {mg : Str → Option Value} {base : Heap} {W : Ad}
def spLaw (K : PySem.W.Frag) : Sp := fun vs H Q _ => ∃ (a : Addr) (ns : List Int), vs = [.ref a] ∧ SqL K H a (ns.map V.int) ∧ ns.length ≤ 63 ∧ ∀ H', Q (.bl true) H'
theorem ok_law {f : Addr} {fd : FuncData} (T : Tx K mg W) (F : Fun K "law" "law" s_law f fd) (C1 : Cal P w K mg base CX0 1 "_law_draws" ["script", "many"] (spDraws K))
    (C2 : Cal P w K mg base CX0 6 "by_members" ["counts", "word", "members", "labelled"] spBy) (C3 : Cal P w K mg base CX0 2 "_law_sets" ["counts", "labelled"] (spLSets K))
    (C4 : Cal P w K mg base CX0 3 "sets_undone" ["counts", "labelled"] (spUnd K)) (C5 : Cal P w K mg base CX0 6 "rows" ["counts", "least", "most", "labelled"] (spRows "row"))
    (C6 : Cal P w K mg base CX0 6 "sets" ["counts", "least", "most", "labelled"] (spRows "set")) (C7 : Cal P w K mg base CX0 6 "rings" ["counts", "least", "most", "labelled"] (spRows "ring")) : FnOk P w K mg base CX0 7 f fd ["script"] (spLaw K) := by
  obtain ⟨f1, fd1, g__law_draws, k__law_draws, b__law_draws, G__law_draws⟩ := C1.ex
  obtain ⟨f2, fd2, g_by_members, k_by_members, b_by_members, G_by_members⟩ := C2.ex
  obtain ⟨f3, fd3, g__law_sets, k__law_sets, b__law_sets, G__law_sets⟩ := C3.ex
  obtain ⟨f4, fd4, g_sets_undone, k_sets_undone, b_sets_undone, G_sets_undone⟩ := C4.ex
  obtain ⟨f5, fd5, g_rows, k_rows, b_rows, G_rows⟩ := C5.ex
  obtain ⟨f6, fd6, g_sets, k_sets, b_sets, G_sets⟩ := C6.ex
  obtain ⟨f7, fd7, g_rings, k_rings, b_rings, G_rings⟩ := C7.ex
  refine F.ok sc_law (fun vs H Q E h => ?_) (fun cdv A outer s H vs Q E hr h => ?_)
  · obtain ⟨_, _, rfl, _⟩ := h
    rfl
  · obtain ⟨a, ns, rfl, hA, hlen, q⟩ := h
    have hu64 : (cxOf CX0 P w K mg base ["script", "draws", "labelled", "size", "counts", "least", "most", "word", "low", "top", "due", "m", "more", "bound", "found", "whole", "given", "back", "j", "one", "n"] "law" (defScope s_law) f cdv A outer s H E).nox.A.units + 64 < cLine := by
      have := hr.un
      show (A.deeper _).units + 64 < cLine
      omega
    refine ⟨_, (pss_cons (ps_set (i := 1) sc_law.nd rfl (.inr rfl) (pe_call G__law_draws (hr.mono (by decide)) (by rfl) g__law_draws k__law_draws b__law_draws .nil pass0 (pa_cons (pv 0) (pa_cons pe_int pa_nil))))
  (pss_cons (ps_par (i := 2) (j := 3) (by rfl) sc_law.nd rfl rfl (by decide) rfl rfl (pa_cons (pe_cmpR op_eq (pe_op op_mod (pe_callTy call_int1 (by rfl) T.n_int (by decide +kernel) (pa_cons (pe_ix ix_list (pv 1) pe_int (fun _ _ => rfl)) pa_nil)) pe_int) pe_int (nomark _)) (pa_cons (pe_op op_add pe_int (pe_op op_mod (pe_callTy call_int1 (by rfl) T.n_int (by decide +kernel) (pa_cons (pe_ix ix_list (pv 1) pe_int (fun _ _ => rfl)) pa_nil)) pe_int)) pa_nil)) (by rfl))
  (pss_cons (ps_set (i := 4) sc_law.nd rfl (.inl rfl) (pe_op op_cat (pe_lst (pa_cons pe_int pa_nil)) (pe_lc (own := [("j", 18)]) rfl sc_law.nd (pi_range1 (by rfl) T.n_range (pa_cons (pv 3) pa_nil)) (blkOk_by (own := [("j", 18)]) (N := ["script", "draws", "labelled", "size", "counts", "least", "most", "word", "low", "top", "due", "m", "more", "bound", "found", "whole", "given", "back", "j", "one", "n"]) (sc := defScope s_law) (by decide +kernel)) (fun _ _ _ _ _ => (pg_name (i := 18) sc_law.nd rfl (.inl rfl))) (fun _ _ _ _ _ => pts_nil) (fun _ _ _ _ _ => (pe_op op_mod (pe_callTy call_int1 (by rfl) T.n_int (by decide +kernel) (pa_cons (pe_ix (ix_listB (K := K) rfl) (pv 1) (pe_op op_add pe_int (pv 18)) (fun _ _ => rfl)) pa_nil)) (pe_ix (ix_listB (K := K) rfl) (pe_lst (pa_cons pe_int (pa_cons pe_int pa_nil))) (pe_op op_mod (pe_callTy call_int1 (by rfl) T.n_int (by decide +kernel) (pa_cons (pe_ix (ix_listB (K := K) rfl) (pv 1) pe_int (fun _ _ => rfl)) pa_nil)) pe_int) (fun _ _ => rfl)))))))
  (pss_cons (ps_if (pt_cmpR op_eq (pe_op op_mod (pe_callTy call_int1 (by rfl) T.n_int (by decide +kernel) (pa_cons (pe_ix ix_list (pv 1) pe_int (fun _ _ => rfl)) pa_nil)) pe_int) pe_int (nomark _)) (
    (pss_one (ps_setLc (i := 4) (own := [("one", 19)]) rfl sc_law.nd rfl rfl (sw_true rfl rfl rfl (by decide +kernel)) (pi_list (pv 4)) (blkOk_by (own := [("one", 19)]) (N := ["script", "draws", "labelled", "size", "counts", "least", "most", "word", "low", "top", "due", "m", "more", "bound", "found", "whole", "given", "back", "j", "one", "n"]) (sc := defScope s_law) (by decide +kernel)) (fun _ _ _ _ _ => (pg_name (i := 19) sc_law.nd rfl (.inl rfl))) (fun _ _ _ _ _ => pts_nil) (fun _ _ _ _ _ => (pe_op op_add (pe_op op_mul (pv 19) (pe_op op_pow pe_int pe_int)) (pe_callTy call_int1 (by rfl) T.n_int (by decide +kernel) (pa_cons (pe_cmpR op_gt (pv 19) pe_int (nomark _)) pa_nil))))))) (pss_nil))
  (pss_cons (ps_set (i := 5) sc_law.nd rfl (.inl rfl) (pe_op op_mod (pe_callTy call_int1 (by rfl) T.n_int (by decide +kernel) (pa_cons (pe_ix ix_list (pv 1) pe_int (fun _ _ => rfl)) pa_nil)) pe_int))
  (pss_cons (ps_set (i := 6) sc_law.nd rfl (.inl rfl) (pe_ix ix_list (pe_lst (pa_cons pe_non (pa_cons (pe_op op_add (pv 5) (pe_op op_mod (pe_callTy call_int1 (by rfl) T.n_int (by decide +kernel) (pa_cons (pe_ix ix_list (pv 1) pe_int (fun _ _ => rfl)) pa_nil)) pe_int)) pa_nil))) (pe_op op_mod (pe_callTy call_int1 (by rfl) T.n_int (by decide +kernel) (pa_cons (pe_ix ix_list (pv 1) pe_int (fun _ _ => rfl)) pa_nil)) pe_int) (fun _ _ => rfl)))
  (pss_cons (ps_for PassesOwn.never rfl (pi_list (pe_lst (pa_cons pe_str (pa_cons pe_str (pa_cons pe_str pa_nil))))) (pg_name (i := 7) sc_law.nd rfl (.inl rfl)) (
    (pss_cons (ps_set (i := 8) sc_law.nd rfl (.inl rfl) (pe_callB (call_max2 rfl) (by rfl) T.n_max (by decide +kernel) (pa_cons (pv 5) (pa_cons (pe_callTy call_int1 (by rfl) T.n_int (by decide +kernel) (pa_cons (pe_cmpR op_eq (pv 7) pe_str (nomark _)) pa_nil)) pa_nil))))
    (pss_cons (ps_set (i := 9) sc_law.nd rfl (.inl rfl) (pe_ifExp (pt_cmp (pc_isN (pv 6)) rfl) (pv 3) (pe_callB (call_max2 rfl) (by rfl) T.n_max (by decide +kernel) (pa_cons (pv 8) (pa_cons (pv 6) pa_nil)))))
    (pss_cons (ps_set (i := 10) sc_law.nd rfl (.inr rfl) (pe_op op_rep (pe_lst (pa_cons pe_int pa_nil)) (pe_op op_add (pv 3) pe_int)))
    (pss_cons (ps_for PassesOwn.never rfl (pi_range2 (by rfl) T.n_range (pa_cons (pv 8) (pa_cons (pe_op op_add (pv 9) pe_int) pa_nil))) (pg_name (i := 11) sc_law.nd rfl (.inl rfl)) (
      (pss_cons (ps_set (i := 12) sc_law.nd rfl (.inr rfl) (pe_call G_by_members (hr.mono (by decide)) (by rfl) g_by_members k_by_members b_by_members .nil pass0 (pa_cons (pv 4) (pa_cons (pv 7) (pa_cons (pv 11) (pa_cons (pv 2) pa_nil))))))
      (pss_cons (ps_if (PW.pt (pw_or (pt_not (pt_val (pe_callB call_isi (by rfl) T.n_isinstance (by decide +kernel) (pa_cons (pv 12) (pa_cons (pe_bltn (v := .ty "list") (by rfl) T.n_list (by decide +kernel) rfl) pa_nil))))) (pw_or1 (pt_cmpR op_ne (pe_callB call_len_seq (by rfl) T.n_len (by decide +kernel) (pa_cons (pv 12) pa_nil)) (pe_op op_add (pv 3) pe_int) (nomark _))))) (
        (pss_one (ps_ret pe_bl))) (pss_nil))
      (pss_one (ps_set (i := 10) sc_law.nd rfl (.inr rfl) (pe_lc (own := [("n", 20)]) rfl sc_law.nd (pi_range1 (by rfl) T.n_range (pa_cons (pe_op op_add (pv 3) pe_int) pa_nil)) (blkOk_by (own := [("n", 20)]) (N := ["script", "draws", "labelled", "size", "counts", "least", "most", "word", "low", "top", "due", "m", "more", "bound", "found", "whole", "given", "back", "j", "one", "n"]) (sc := defScope s_law) (by decide +kernel)) (fun _ _ _ _ _ => (pg_name (i := 20) sc_law.nd rfl (.inl rfl))) (fun _ _ _ _ _ => pts_nil) (fun _ _ _ _ _ => (pe_op op_add (pe_ix (ix_listB (K := K) rfl) (pv 10) (pv 20) (fun _ _ => rfl)) (pe_ix (ix_listB (K := K) rfl) (pv 12) (pv 20) (fun _ _ => rfl)))))))))))
    (pss_cons (ps_set (i := 13) sc_law.nd rfl (.inl rfl) (pe_ifExp (pt_cmp (pc_isN (pv 6)) rfl) pe_non (pv 9)))
    (pss_cons (ps_if (pt_cmpR op_eq (pv 7) pe_str (nomark _)) (
      (pss_one (ps_set (i := 14) sc_law.nd rfl (.inl rfl) (pe_call G_rows (hr.mono (by decide)) (by rfl) g_rows k_rows b_rows .nil pass0 (pa_cons (pv 4) (pa_cons (pv 8) (pa_cons (pv 13) (pa_cons (pv 2) pa_nil)))))))) (
      (pss_one (ps_if (pt_cmpR op_eq (pv 7) pe_str (nomark _)) (
        (pss_one (ps_set (i := 14) sc_law.nd rfl (.inl rfl) (pe_call G_sets (hr.mono (by decide)) (by rfl) g_sets k_sets b_sets .nil pass0 (pa_cons (pv 4) (pa_cons (pv 8) (pa_cons (pv 13) (pa_cons (pv 2) pa_nil)))))))) (
        (pss_one (ps_set (i := 14) sc_law.nd rfl (.inl rfl) (pe_call G_rings (hr.mono (by decide)) (by rfl) g_rings k_rings b_rings .nil pass0 (pa_cons (pv 4) (pa_cons (pv 8) (pa_cons (pv 13) (pa_cons (pv 2) pa_nil))))))))))))
    (pss_one (ps_if (pt_cmpR (op_neD hu64) (pv 14) (pv 10) (nomark _)) (
      (pss_one (ps_ret pe_bl))) (pss_nil)))))))))))
  (pss_cons (ps_set (i := 15) sc_law.nd rfl (.inl rfl) (pe_call G_sets (hr.mono (by decide)) (by rfl) g_sets k_sets b_sets .nil pass0 (pa_cons (pv 4) (pa_cons pe_int (pa_cons pe_non (pa_cons (pv 2) pa_nil))))))
  (pss_cons (ps_if (PW.pt (pw_or (pt_cmpR (op_neD hu64) (pv 15) (pe_call G__law_sets (hr.mono (by decide)) (by rfl) g__law_sets k__law_sets b__law_sets .nil pass0 (pa_cons (pv 4) (pa_cons (pv 2) pa_nil))) (nomark _)) (pw_or1 (pt_cmpR (op_neD hu64) (pe_call G_sets_undone (hr.mono (by decide)) (by rfl) g_sets_undone k_sets_undone b_sets_undone .nil pass0 (pa_cons (pv 15) (pa_cons (pv 2) pa_nil))) (pv 4) (nomark _))))) (
    (pss_one (ps_ret pe_bl))) (pss_nil))
  (pss_cons (ps_set (i := 16) sc_law.nd rfl (.inl rfl) (pe_op op_cat (pe_lst (pa_cons pe_int pa_nil)) (pe_lc (own := [("j", 18)]) rfl sc_law.nd (pi_range1 (by rfl) T.n_range (pa_cons (pv 3) pa_nil)) (blkOk_by (own := [("j", 18)]) (N := ["script", "draws", "labelled", "size", "counts", "least", "most", "word", "low", "top", "due", "m", "more", "bound", "found", "whole", "given", "back", "j", "one", "n"]) (sc := defScope s_law) (by decide +kernel)) (fun _ _ _ _ _ => (pg_name (i := 18) sc_law.nd rfl (.inl rfl))) (fun _ _ _ _ _ => pts_nil) (fun _ _ _ _ _ => (pe_op op_mod (pe_callTy call_int1 (by rfl) T.n_int (by decide +kernel) (pa_cons (pe_ix (ix_listB (K := K) rfl) (pv 1) (pe_op op_add pe_int (pv 18)) (fun _ _ => rfl)) pa_nil)) pe_int)))))
  (pss_cons (ps_set (i := 17) sc_law.nd rfl (.inl rfl) (pe_call G_sets_undone (hr.mono (by decide)) (by rfl) g_sets_undone k_sets_undone b_sets_undone .nil pass0 (pa_cons (pv 16) (pa_cons (pv 2) pa_nil))))
  (pss_one (ps_ret (pe_and (pe_callB call_isi (by rfl) T.n_isinstance (by decide +kernel) (pa_cons (pv 17) (pa_cons (pe_bltn (v := .ty "list") (by rfl) T.n_list (by decide +kernel) rfl) pa_nil))) (pe_and (pe_cmpR op_eq (pe_ix ix_list (pv 17) pe_int (fun _ _ => rfl)) pe_int (nomark _)) (pe_one (pe_cmpR (op_eqD hu64) (pe_call G__law_sets (hr.mono (by decide)) (by rfl) g__law_sets k__law_sets b__law_sets .nil pass0 (pa_cons (pv 17) (pa_cons (pv 2) pa_nil))) (pv 16) (nomark _)))))))))))))))))), ?_⟩
    -- draws
    refine ⟨_, rfl, a, ns, 50, rfl, hA, hlen, by decide, fun dp H1 ds s1 nd hd hds hdl => ?_⟩
    have dat : ∀ {k : Nat}, k < 50 → (ds.map V.int)[k]? = some (.int (ds.getD k 0)) := fun {k} h => getD_at (by omega)
    -- labelled, size
    refine ⟨_, rfl, dp, _, _, _, rfl, rfl, sq_of hd, atI_nat (j := 0) (dat (by decide)), .inl ⟨_, rfl, _, _, rfl, rfl, (by show (0 : Int) < 2; decide), rfl, ?_⟩⟩
    refine ⟨_, rfl, dp, _, _, _, rfl, rfl, sq_of hd, atI_nat (j := 1) (dat (by decide)), .inl ⟨_, rfl, _, _, rfl, rfl, (by show (0 : Int) < 13; decide), _, _, rfl, rfl, _, _, rfl, ?_⟩⟩
    generalize decide (V.int (ds.getD 0 0 % 2) = V.int 0) = lb
    obtain ⟨Z, hZ, hZ1, hZ2⟩ : ∃ n : Nat, (1 + ds.getD 1 0 % 13 : Int) = n ∧ 1 ≤ n ∧ n ≤ 13 := by
      have h0 := Int.emod_nonneg (ds.getD 1 0) (b := 13) (by decide)
      have h1 := Int.emod_lt_of_pos (ds.getD 1 0) (b := 13) (by decide)
      exact ⟨(1 + ds.getD 1 0 % 13).toNat, by omega, by omega, by omega⟩
    dsimp only
    rw [hZ]
    -- counts
    obtain ⟨md, hmd, md2, md5⟩ := at25 (x := ds.getD 20 0 % 2) (by
      have h0 := Int.emod_nonneg (ds.getD 20 0) (b := 2) (by decide)
      have h1 := Int.emod_lt_of_pos (ds.getD 20 0) (b := 2) (by decide)
      omega)
    refine ⟨sz _ (by show 1 ≤ 100000; decide), fun p0 n0 => ?_⟩
    have s2 : Same H1 (upd H1 p0 (.lst [.int 0])) := same_upd n0
    have hd2 := s2 _ _ hd
    have hp0 : (upd H1 p0 (.lst [.int 0])) p0 = some (.lst [.int 0]) := upd_same
    generalize (upd H1 p0 (.lst [.int 0])) = H2 at s2 hd2 hp0 ⊢
    refine ⟨_, rfl, Z, rfl, by omega, by omega, fun D1 hD1 => ?_⟩
    rw [Int.toNat_natCast]
    refine lc_rangeM (lo := 0) (j := 18) (fun i => V.int (ds.getD (2 + i) 0 % md)) (by omega) hD1 (fun i hi H3 s3 R k => ?_) (fun H3 s3 h3 => ?_)
    · refine ⟨_, rfl, _, rfl, _, _, rfl, rfl, dp, _, _, _, rfl, rfl, sq_of (s3 _ _ hd2), atI_of (j := 2 + i) (by omega) (dat (by omega)), .inl ⟨_, rfl, sz _ (by show 2 ≤ 100000; decide), fun q1 nq1 => ?_⟩⟩
      have s4 : Same H3 (upd H3 q1 (.lst [.int 2, .int 5])) := same_upd nq1
      refine ⟨_, rfl, dp, _, _, _, rfl, rfl, sq_of (s4 _ _ (s3 _ _ hd2)), atI_nat (j := 20) (dat (by decide)), .inl ⟨_, rfl, _, _, rfl, rfl, (by show (0 : Int) < 2; decide), q1, _, _, _, rfl, rfl, sq_of upd_same, hmd, _, _, rfl, rfl, by omega, k _ s4⟩⟩
    refine ⟨p0, D1, [.int 0], ((List.range Z).map fun i => ds.getD (2 + i) 0 % md).map V.int, rfl, rfl, s3 _ _ hp0, by rw [h3, List.map_map]; rfl, sz _ (by rw [List.length_map, List.length_map, List.length_range]; simp; omega), fun p1 n1 => ?_⟩
    generalize hH4 : upd H3 p1 _ = H4
    have s4 : Same H3 H4 := hH4 ▸ same_upd n1
    obtain ⟨c1, hc1⟩ : ∃ c1 : List Int, c1 = 0 :: (List.range Z).map fun i => ds.getD (2 + i) 0 % md := ⟨_, rfl⟩
    have hp1 : H4 p1 = some (.lst (c1.map V.int)) := by rw [← hH4, upd_same, hc1]; rfl
    have l1 : c1.length = Z + 1 := by rw [hc1, List.length_cons, List.length_map, List.length_range]
    have c10 : c1.getD 0 0 = 0 := by rw [hc1]; rfl
    have b1 : ∀ i, 0 ≤ c1.getD i 0 ∧ c1.getD i 0 ≤ 4 := fun i => by
      cases i with
      | zero => rw [c10]; exact ⟨by decide, by decide⟩
      | succ i =>
        rw [hc1, cons_getD, getD_range]
        split
        · have h0 := Int.emod_nonneg (ds.getD (2 + i) 0) (b := md) (by omega)
          have h1 := Int.emod_lt_of_pos (ds.getD (2 + i) 0) (b := md) (by omega)
          omega
        · exact ⟨by decide, by decide⟩
    clear hH4 hc1
    have hd4 := s4 _ _ (s3 _ _ hd2)
    -- great ones
    refine gname_intro ?_
    dsimp only
    refine seq_intro (fun σ' H' => ∃ (cp : Addr) (cs : List Int), σ' = [some (.ref a), some (.ref dp), some (.bl lb), some (.int Z), some (.ref cp), none, none, none, none, none, none, none, none, none, none, none, none, none, none, none, none] ∧ Same H4 H' ∧ H' cp = some (.lst (cs.map V.int)) ∧ cs.length = Z + 1 ∧ cs.getD 0 0 = 0 ∧ ∀ i, 0 ≤ cs.getD i 0 ∧ cs.getD i 0 ≤ 2 ^ 100) (fun hr => ?_) ?_
    · refine ⟨_, rfl, dp, _, _, _, rfl, rfl, sq_of hd4, atI_nat (j := 24) (dat (by decide)), .inl ⟨_, rfl, _, _, rfl, rfl, (by show (0 : Int) < 6; decide), rfl, _, rfl, ite2 (fun _ => ?_) (fun _ => ?_)⟩⟩
      · refine ⟨_, rfl, p1, rfl, ⟨_, sq_of hp1⟩, fun Dn hD => ?_⟩
        refine lc_list (K := K) (a := p1) (xs := c1.map V.int) (fun i H' => Same H4 H' ∧ H' Dn = some (.lst (((c1.take i).map fun x => x * 10 ^ 20 + (if decide (1 < x) = true then 1 else 0)).map V.int))) ⟨same_upd hD, upd_same⟩ (fun i H' _ h => sq_of (h.1 _ _ hp1)) ?_ ?_
        · rintro i x H' hi ⟨sm, hd'⟩
          obtain ⟨z, hz, rfl⟩ := ints_of hi
          have hil := (List.getElem?_eq_some_iff.mp hz).1
          have hzb := b1 i
          rw [List.getD_eq_getElem?_getD, hz] at hzb
          refine ⟨rfl, ?_⟩
          rw [tYes, if_pos rfl]
          refine ⟨_, rfl, _, _, rfl, rfl, ⟨by decide, by decide, by decide⟩, _, _, rfl, rfl, .inl ⟨Int.lt_of_lt_of_le (by decide) hzb.1, Int.lt_of_le_of_lt hzb.2 (by decide)⟩, _, rfl, _, _, rfl, rfl, .inr ⟨_, rfl, _, _, rfl, rfl, _, hd', szl _ (by rw [List.length_map, List.length_map, List.length_take]; omega), same_upd' sm hD, ?_⟩⟩
          rw [upd_same, take_more hz, List.map_append, List.map_append]
          rfl
        · rintro H' ⟨sm, hd'⟩
          rw [List.length_map, List.take_of_length_le (Nat.le_refl _)] at hd'
          refine hr _ _ ⟨Dn, _, rfl, sm, hd', by rw [List.length_map]; exact l1, ?_, fun i => ?_⟩
          · rw [getD_map rfl, c10]; rfl
          · rw [getD_map rfl]
            have := b1 i
            generalize c1.getD i 0 = z at this
            split <;> omega
      · exact hr _ _ ⟨p1, c1, rfl, .refl H4, hp1, l1, c10, fun i => ⟨(b1 i).1, Int.le_trans (b1 i).2 (by decide)⟩⟩
    rintro σ5 H5 ⟨cp, cs, rfl, s5, hcp, hcl, c0, hcb⟩
    have hd5 := s5 _ _ hd4
    have hBn : Bn cs := fun x hx => by
      obtain ⟨i, rfl⟩ := mem_getD hx
      exact hcb i
    -- least
    obtain ⟨l0, hl0, hl3⟩ : ∃ l : Nat, ds.getD 21 0 % 4 = (l : Int) ∧ l ≤ 3 := by
      have h0 := Int.emod_nonneg (ds.getD 21 0) (b := 4) (by decide)
      have h1 := Int.emod_lt_of_pos (ds.getD 21 0) (b := 4) (by decide)
      exact ⟨(ds.getD 21 0 % 4).toNat, by omega, by omega⟩
    refine ⟨_, rfl, dp, _, _, _, rfl, rfl, sq_of hd5, atI_nat (j := 21) (dat (by decide)), .inl ⟨_, rfl, _, _, rfl, rfl, (by show (0 : Int) < 4; decide), ?_⟩⟩
    dsimp only
    rw [hl0]
    -- most
    obtain ⟨m0, hm0, hmb⟩ := most2 (x := ds.getD 23 0 % 2) (y := ds.getD 22 0 % 5) (l := l0) (by
      have h0 := Int.emod_nonneg (ds.getD 23 0) (b := 2) (by decide)
      have h1 := Int.emod_lt_of_pos (ds.getD 23 0) (b := 2) (by decide)
      omega) (Int.emod_nonneg _ (by decide)) (by have := Int.emod_lt_of_pos (ds.getD 22 0) (b := 5) (by decide); omega)
    refine ⟨_, rfl, _, rfl, dp, _, _, _, rfl, rfl, sq_of hd5, atI_nat (j := 22) (dat (by decide)), .inl ⟨_, rfl, _, _, rfl, rfl, (by show (0 : Int) < 5; decide), _, _, rfl, rfl, sz _ (by show 2 ≤ 100000; decide), fun mp nmp => ?_⟩⟩
    generalize hH6 : upd H5 mp _ = H6
    have s6 : Same H5 H6 := hH6 ▸ same_upd nmp
    have hmp : H6 mp = some (.lst [.non, .int ((l0 : Int) + ds.getD 22 0 % 5)]) := by rw [← hH6, upd_same]
    clear hH6
    have hd6 := s6 _ _ hd5
    have hcp6 := s6 _ _ hcp
    refine ⟨_, rfl, dp, _, _, _, rfl, rfl, sq_of hd6, atI_nat (j := 23) (dat (by decide)), .inl ⟨_, rfl, _, _, rfl, rfl, (by show (0 : Int) < 2; decide), mp, _, _, _, rfl, rfl, sq_of hmp, hm0, ?_⟩⟩
    -- the words
    refine ⟨sz _ (by show 3 ≤ 100000; decide), fun wp nwp => ?_⟩
    have s7 : Same H6 (upd H6 wp (.lst [.str "row", .str "set", .str "ring"])) := same_upd nwp
    have hwp : (upd H6 wp (.lst [.str "row", .str "set", .str "ring"])) wp = some (.lst [.str "row", .str "set", .str "ring"]) := upd_same
    generalize (upd H6 wp (.lst [.str "row", .str "set", .str "ring"])) = H7 at s7 hwp ⊢
    have hcp7 := s7 _ _ hcp6
    have hd7 := s7 _ _ hd6
    refine ⟨wp, rfl, ⟨_, sq_of hwp⟩, for_list (K := K) (a := wp) (xs := [.str "row", .str "set", .str "ring"]) (fun i σ H' => Same H7 H' ∧ ∃ (y7 y8 y9 y10 y11 y12 y13 y14 y15 y16 y17 y18 y19 y20 : Option V), σ = [some (.ref a), some (.ref dp), some (.bl lb), some (.int Z), some (.ref cp), some (.int l0), some (oV (m0.map fun i => (i : Int))), y7, y8, y9, y10, y11, y12, y13, y14, y15, y16, y17, y18, y19, y20]) ⟨.refl H7, none, none, none, none, none, none, none, none, none, none, none, none, none, none, rfl⟩
      (fun i σ H' _ h => sq_of (h.1 _ _ hwp)) ?_ ?_⟩
    · rintro i y σ H8 hi ⟨s8, y7, y8, y9, y10, y11, y12, y13, y14, y15, y16, y17, y18, y19, y20, rfl⟩
      obtain ⟨wd, rfl, hw⟩ : ∃ wd : Str, y = .str wd ∧ (wd = "row" ∨ wd = "set" ∨ wd = "ring") := by
        match i, hi with
        | 0, h => exact ⟨"row", (Option.some.inj h).symm, .inl rfl⟩
        | 1, h => exact ⟨"set", (Option.some.inj h).symm, .inr (.inl rfl)⟩
        | 2, h => exact ⟨"ring", (Option.some.inj h).symm, .inr (.inr rfl)⟩
        | n + 3, h => cases h
      have hcp8 := s8 _ _ hcp7
      -- low
      obtain ⟨l, hl, hlb, hlr⟩ := maxl2 (wd := wd) hl3
      refine ⟨_, rfl, _, rfl, rfl, .inr ⟨_, rfl, _, _, rfl, ?_⟩⟩
      rw [hl]
      -- top
      obtain ⟨Tp, bm, hbm, hT20, eT, eB⟩ : ∃ (Tp : Nat) (bm : Option Int), ((bm = none ∧ Tp + 1 = Z + 1) ∨ (bm = some (Tp : Int) ∧ l ≤ Tp)) ∧ Tp ≤ 20 ∧ ((m0 = none ∧ Tp = Z) ∨ ∃ i, m0 = some i ∧ (if (i : Int) > (l : Int) then (i : Int) else (l : Int)) = (Tp : Int)) ∧ ((m0 = none ∧ bm = none) ∨ ((∃ i, m0 = some i) ∧ bm = some (Tp : Int))) := by
        cases hm : m0 with
        | none => exact ⟨Z, none, .inl ⟨rfl, rfl⟩, by omega, .inl ⟨rfl, rfl⟩, .inl ⟨rfl, rfl⟩⟩
        | some i =>
          have hb := hmb i hm
          by_cases h : (i : Int) > (l : Int)
          · exact ⟨i, some (i : Int), .inr ⟨rfl, by omega⟩, by omega, .inr ⟨i, rfl, if_pos h⟩, .inr ⟨⟨i, rfl⟩, rfl⟩⟩
          · exact ⟨l, some (l : Int), .inr ⟨rfl, Nat.le_refl _⟩, by omega, .inr ⟨i, rfl, if_neg h⟩, .inr ⟨⟨i, rfl⟩, rfl⟩⟩
      refine gname_intro ?_
      dsimp only
      refine seq_intro (fun σ' H' => H' = H8 ∧ σ' = [some (.ref a), some (.ref dp), some (.bl lb), some (.int Z), some (.ref cp), some (.int l0), some (oV (m0.map fun i => (i : Int))), some (.str wd), some (.int l), some (.int Tp), y10, y11, y12, y13, y14, y15, y16, y17, y18, y19, y20]) (fun hr => ?_) ?_
      · rcases eT with ⟨rfl, rfl⟩ | ⟨i, rfl, e⟩
        · refine ⟨_, rfl, _, rfl, iteT ⟨_, rfl, ?_⟩⟩
          exact hr _ _ ⟨rfl, rfl⟩
        · refine ⟨_, rfl, _, rfl, iteF ⟨_, rfl, _, rfl, _, _, rfl, ?_⟩⟩
          rw [e]
          exact hr _ _ ⟨rfl, rfl⟩
      rintro σ9 H9 ⟨rfl, rfl⟩
      have hcp9 := hcp8
      -- due
      refine ⟨sz _ (by show 1 ≤ 100000; decide), fun q1 n1 => ?_⟩
      have s10 : Same H9 (upd H9 q1 (.lst [.int 0])) := same_upd n1
      refine ⟨_, rfl, _, _, rfl, rfl, q1, _, _, rfl, rfl, upd_same, by omega, by omega, sz _ (by simp; omega), fun q2 n2 => ?_⟩
      generalize hHb : upd _ q2 _ = Hb
      have s11 : Same H9 Hb := hHb ▸ s10.trans (same_upd n2)
      have n2' : H9 q2 = none := s10.free n2
      have hq2 : Hb q2 = some (.lst (((List.range (Z + 1)).map fun n => SMath.S 0 fun k => outG wd (modeS lb) cs (some ((l + k : Nat) : Int)) (l + k) n).map V.int)) := by
        rw [← hHb, upd_same, show ((Z : Int) + 1).toNat = Z + 1 by omega, zeros_fun]
        rfl
      clear hHb
      refine ⟨_, rfl, _, rfl, _, _, rfl, rfl, _, _, rfl, ⟨by omega, by omega, by omega, by omega⟩, ?_⟩
      rw [show ((Tp : Int) + 1 - (l : Int)).toNat = Tp + 1 - l by omega]
      refine for_range (lo := l) (n := Tp + 1 - l) (fun i σ H' => Same H9 H' ∧ ∃ (dq : Addr) (y11 y12 : Option V), σ = [some (.ref a), some (.ref dp), some (.bl lb), some (.int Z), some (.ref cp), some (.int l0), some (oV (m0.map fun i => (i : Int))), some (.str wd), some (.int l), some (.int Tp), some (.ref dq), y11, y12, y13, y14, y15, y16, y17, y18, y19, y20] ∧
        H' dq = some (.lst (((List.range (Z + 1)).map fun n => SMath.S i fun k => outG wd (modeS lb) cs (some ((l + k : Nat) : Int)) (l + k) n).map V.int)) ∧ H9 dq = none) ⟨s11, q2, _, _, rfl, hq2, n2'⟩ ?_ ?_
      · rintro i σ H10 hi ⟨sB, dq, y11, y12, rfl, hdq, ndq⟩
        refine ⟨_, rfl, _, rfl, _, rfl, _, rfl, cp, wd, l + i, lb, ?_, wd, cp, cs, l + i, some ((l + i : Nat) : Int), lb, rfl, sB _ _ hcp9, hBn, by omega, by omega, ?_, ?_, .inl c0, by omega, fun p H11 s12 np hp => ?_⟩
        · show [V.ref cp, V.str wd, V.int ((l : Int) + (i : Int)), V.bl lb] = _
          rw [show ((l : Int) + (i : Int)) = ((l + i : Nat) : Int) by omega]
        · rcases hw with rfl | rfl | rfl <;> decide +kernel
        · unfold areB
          rw [Bool.and_eq_true]
          refine ⟨decide_eq_true ?_, decide_eq_true (Int.le_refl _)⟩
          unfold lowB
          by_cases hwr : wd = "ring"
          · rw [if_pos hwr]
            have := hlr hwr
            omega
          · rw [if_neg hwr]
            omega
        refine ⟨_, rfl, _, _, _, _, true, rfl, .ty "list", .base (.lst hp), kit_ty (by decide +kernel), _, rfl, iteF ⟨_, rfl, p, _, rfl, .inl (sq_of hp), _, rfl, _, _, rfl, rfl, rfl, _, rfl, ?_⟩⟩
        have eL : ((((List.range cs.length).map fun n => outG wd (modeS lb) cs (some ((l + i : Nat) : Int)) (l + i) n).map V.int).length : Int) = (Z : Int) + 1 := by
          rw [List.length_map, List.length_map, List.length_range, hcl]
          omega
        rw [eL, decide_eq_true rfl]
        refine iteF ?_
        refine ⟨_, rfl, _, _, rfl, rfl, _, rfl, by omega, by omega, fun D5 hD5 => ?_⟩
        rw [show ((Z : Int) + 1).toNat = Z + 1 by omega]
        have hdq12 := s12 _ _ hdq
        refine lc_rangeM (lo := 0) (j := 20) (fun n => V.int (SMath.S (i + 1) fun k => outG wd (modeS lb) cs (some ((l + k : Nat) : Int)) (l + k) n)) (by omega) hD5 (fun n hn H13 s13 R k => ?_) (fun H13 s13 h13 => ?_)
        · refine ⟨_, rfl, _, rfl, dq, _, _, _, rfl, rfl, sq_of (s13 _ _ hdq12), atI_of (Int.zero_add _) (fun_get hn), _, rfl, _, rfl, p, _, _, _, rfl, rfl, sq_of (s13 _ _ hp), atI_of (Int.zero_add _) (fun_get (by omega)), _, _, rfl, rfl, ?_⟩
          exact k H13 (.refl H13)
        · exact ⟨sB.trans (s12.trans s13), D5, _, _, rfl, by rw [h13, List.map_map]; rfl, sB.free (s12.free hD5)⟩
      rintro σ12 H12 ⟨sC, dq, y11, y12, rfl, hdq, ndq⟩
      have hdue : ((List.range (Z + 1)).map fun n => SMath.S (Tp + 1 - l) fun k => outG wd (modeS lb) cs (some ((l + k : Nat) : Int)) (l + k) n) = (List.range cs.length).map fun n => outG wd (modeS lb) cs bm l n := by
        rw [hcl]
        refine List.map_congr_left fun n hn => ?_
        exact by_out (by have := List.mem_range.mp hn; omega) (by omega) hbm
      rw [hdue] at hdq
      have hcp12 := sC _ _ hcp9
      -- bound
      dsimp only
      refine seq_intro (fun σ' H' => H' = H12 ∧ σ' = [some (.ref a), some (.ref dp), some (.bl lb), some (.int Z), some (.ref cp), some (.int l0), some (oV (m0.map fun i => (i : Int))), some (.str wd), some (.int l), some (.int Tp), some (.ref dq), y11, y12, some (oV bm), y14, y15, y16, y17, y18, y19, y20]) (fun hr => ?_) ?_
      · rcases eB with ⟨rfl, rfl⟩ | ⟨⟨i, rfl⟩, rfl⟩
        · exact ⟨_, rfl, _, rfl, iteT (hr _ _ ⟨rfl, rfl⟩)⟩
        · exact ⟨_, rfl, _, rfl, iteF ⟨_, rfl, hr _ _ ⟨rfl, rfl⟩⟩⟩
      rintro σ13 H13 ⟨rfl, rfl⟩
      have hcw : ∀ (Q1 : VK) (E1 : XK), (∀ p H', Same H13 H' → H13 p = none → H' p = some (.lst (((List.range cs.length).map fun n => outG wd (modeS lb) cs bm l n).map V.int)) → Q1 (.ref p) H') → spCW [.str wd, .ref cp, .int l, oV bm, .bl lb] H13 Q1 E1 := fun Q1 E1 hQ => by
        refine ⟨wd, cp, cs, l, bm, lb, rfl, hcp12, hBn, by omega, by omega, ?_, ?_, .inl c0, by omega, hQ⟩
        · rcases hw with rfl | rfl | rfl <;> decide +kernel
        · unfold areB
          rw [Bool.and_eq_true]
          refine ⟨decide_eq_true ?_, ?_⟩
          · unfold lowB
            by_cases hwr : wd = "ring"
            · rw [if_pos hwr]
              have := hlr hwr
              omega
            · rw [if_neg hwr]
              omega
          · rcases hbm with ⟨rfl, _⟩ | ⟨rfl, h⟩
            · rfl
            · exact decide_eq_true (by omega)
      -- found
      refine seq_intro (fun σ' H' => ∃ (gp : Addr), σ' = [some (.ref a), some (.ref dp), some (.bl lb), some (.int Z), some (.ref cp), some (.int l0), some (oV (m0.map fun i => (i : Int))), some (.str wd), some (.int l), some (.int Tp), some (.ref dq), y11, y12, some (oV bm), some (.ref gp), y15, y16, y17, y18, y19, y20] ∧ Same H13 H' ∧
        H' gp = some (.lst (((List.range cs.length).map fun n => outG wd (modeS lb) cs bm l n).map V.int))) (fun hr => ?_) ?_
      · refine ⟨_, rfl, rfl, _, rfl, ite2 (fun c => ?_) (fun c => ?_)⟩
        · have hwd : wd = "row" := V.str.inj (of_decide_eq_true c)
          refine ⟨_, rfl, _, rfl, _, rfl, _, rfl, cp, l, bm, lb, rfl, ?_⟩
          subst hwd
          refine hcw _ _ ?_
          exact (fun p H' s' np hp => hr _ _ ⟨p, rfl, s', hp⟩)
        · refine ⟨_, rfl, rfl, _, rfl, ite2 (fun c2 => ?_) (fun c2 => ?_)⟩
          · have hwd : wd = "set" := V.str.inj (of_decide_eq_true c2)
            refine ⟨_, rfl, _, rfl, _, rfl, _, rfl, cp, l, bm, lb, rfl, ?_⟩
            subst hwd
            refine hcw _ _ ?_
            exact (fun p H' s' np hp => hr _ _ ⟨p, rfl, s', hp⟩)
          · have hwd : wd = "ring" := by
              rcases hw with e | e | e
              · exact absurd (decide_eq_true (by rw [e])) c
              · exact absurd (decide_eq_true (by rw [e])) c2
              · exact e
            refine ⟨_, rfl, _, rfl, _, rfl, _, rfl, cp, l, bm, lb, rfl, ?_⟩
            subst hwd
            refine hcw _ _ ?_
            exact (fun p H' s' np hp => hr _ _ ⟨p, rfl, s', hp⟩)
      rintro σ14 H14 ⟨gp, rfl, s14, hgp⟩
      generalize hout : (List.range cs.length).map (fun n => outG wd (modeS lb) cs bm l n) = out at hgp hdq
      have hdq14 := s14 _ _ hdq
      refine ⟨_, rfl, _, rfl, dI out, dI out, dp_ints (sq_of hgp), dp_ints (sq_of hdq14), shaped_ints _, shaped_ints _, _, rfl, ?_⟩
      rw [eqv_ints]
      refine iteF ?_
      exact ⟨s8.trans (sC.trans s14), _, _, _, _, _, _, _, _, _, _, _, _, _, _, rfl⟩
    · rintro σ H8 ⟨s8, y7, y8, y9, y10, y11, y12, y13, y14, y15, y16, y17, y18, y19, y20, rfl⟩
      have hcp8 := s8 _ _ hcp7
      have hd8 := s8 _ _ hd7
      have hN14 : cs.length ≤ 14 := by omega
      have hnn : ∀ i, 0 ≤ cs.getD i 0 := fun i => (hcb i).1
      have ecs : (List.range cs.length).map (cF cs) = cs := list_fun cs
      have hW := whole_SetF (lb := lb) hnn c0 (by omega) hN14
      have hub : Ub cs.length (cF cs) := Bn_ub hBn
      -- whole
      refine ⟨_, rfl, _, rfl, cp, 0, none, lb, rfl, "set", cp, cs, 0, none, lb, rfl, hcp8, hBn, by omega, by omega, by decide +kernel, by decide +kernel, .inl c0, by decide, fun hp0 H9 s9 nh hh => ?_⟩
      have ewh : (List.range cs.length).map (fun n => outG "set" (modeS lb) cs none 0 n) = (List.range cs.length).map (wholeF lb cs) := List.map_congr_left fun n hn => whole_out hnn c0 (List.mem_range.mp hn) hN14
      rw [ewh] at hh
      have hcp9 := s9 _ _ hcp8
      -- whole != _law_sets(..)
      refine ⟨_, rfl, _, rfl, _, rfl, cp, cF cs, wholeF lb cs, lb, cs.length, rfl, sq_of (by rw [ecs]; exact hcp9), by omega, hN14, hW, fun i hi => (whole_bd hBn c0 hi hN14).2, ub_bin hN14 hub, ub_W hN14 hub, fun p2 H10 s10 np2 hp2 => ?_⟩
      refine ⟨dI ((List.range cs.length).map (wholeF lb cs)), dI ((List.range cs.length).map (wholeF lb cs)), dp_ints (sq_of (s10 _ _ hh)), dp_ints (sq_of hp2), shaped_ints _, shaped_ints _, _, rfl, ?_⟩
      rw [eqv_ints]
      refine iteF ?_
      -- sets_undone(whole) != counts
      refine ⟨_, rfl, _, rfl, hp0, wholeF lb cs, lb, cs.length, rfl, s10 _ _ hh, fun i hi => (whole_bd hBn c0 hi hN14).1, hW.1, by omega, hN14, fun H11 s11 => ?_⟩
      refine und_both (U := cF cs) (sq_of (s11 _ _ (s10 _ _ hh))) (by omega) hN14 (fun i hi => (whole_bd hBn c0 hi hN14).2) ?_ (ub_bin hN14 hub) (fun p3 H12 s12 np3 hp3 => ?_)
      · clear hh
        cases lb with
        | true => rw [if_pos rfl]; exact undL_of c0 hW
        | false => rw [if_neg Bool.false_ne_true]; exact ⟨_, undU_of c0 hW, ub_W hN14 hub⟩
      rw [ecs] at hp3
      have hcp12 := s12 _ _ (s11 _ _ (s10 _ _ hcp9))
      have hd12 := s12 _ _ (s11 _ _ (s10 _ _ (s9 _ _ hd8)))
      refine ⟨_, rfl, dI cs, dI cs, dp_ints (sq_of hp3), dp_ints (sq_of hcp12), shaped_ints _, shaped_ints _, _, rfl, ?_⟩
      rw [eqv_ints]
      refine iteF ?_
      -- given
      refine ⟨sz _ (by show 1 ≤ 100000; decide), fun q0 m0' => ?_⟩
      have s13 : Same H12 (upd H12 q0 (.lst [.int 1])) := same_upd m0'
      have hd13 := s13 _ _ hd12
      have hq0 : (upd H12 q0 (.lst [.int 1])) q0 = some (.lst [.int 1]) := upd_same
      generalize (upd H12 q0 (.lst [.int 1])) = H13 at s13 hd13 hq0 ⊢
      refine ⟨_, rfl, Z, rfl, by omega, by omega, fun D2 hD2 => ?_⟩
      rw [Int.toNat_natCast]
      refine lc_rangeM (lo := 0) (j := 18) (fun i => V.int (ds.getD (25 + i) 0 % 9)) (by omega) hD2 (fun i hi H14 s14 R k => ?_) (fun H14 s14 h14 => ?_)
      · refine ⟨_, rfl, _, rfl, _, _, rfl, rfl, dp, _, _, _, rfl, rfl, sq_of (s14 _ _ hd13), atI_of (j := 25 + i) (by omega) (dat (by omega)), .inl ⟨_, rfl, _, _, rfl, rfl, (by show (0 : Int) < 9; decide), k _ (.refl _)⟩⟩
      refine ⟨q0, D2, [.int 1], ((List.range Z).map fun i => ds.getD (25 + i) 0 % 9).map V.int, rfl, rfl, s14 _ _ hq0, by rw [h14, List.map_map]; rfl, sz _ (by rw [List.length_map, List.length_map, List.length_range]; simp; omega), fun gp ngp => ?_⟩
      generalize hH15 : upd H14 gp _ = H15
      obtain ⟨g1, hg1⟩ : ∃ g1 : List Int, g1 = 1 :: (List.range Z).map fun i => ds.getD (25 + i) 0 % 9 := ⟨_, rfl⟩
      have hgp : H15 gp = some (.lst (g1.map V.int)) := by rw [← hH15, upd_same, hg1]; rfl
      have lg : g1.length = Z + 1 := by rw [hg1, List.length_cons, List.length_map, List.length_range]
      have g10 : cF g1 0 = 1 := by rw [hg1]; rfl
      have gb : ∀ i, 0 ≤ cF g1 i ∧ cF g1 i ≤ 8 := fun i => by
        cases i with
        | zero => rw [g10]; exact ⟨by decide, by decide⟩
        | succ i =>
          rw [hg1]
          show 0 ≤ (_ :: _).getD (i + 1) 0 ∧ (_ :: _).getD (i + 1) 0 ≤ 8
          rw [cons_getD, getD_range]
          split
          · have h0 := Int.emod_nonneg (ds.getD (25 + i) 0) (b := 9) (by decide)
            have h1 := Int.emod_lt_of_pos (ds.getD (25 + i) 0) (b := 9) (by decide)
            omega
          · exact ⟨by decide, by decide⟩
      clear hH15 hg1
      have eg : (List.range (Z + 1)).map (cF g1) = g1 := by rw [← lg]; exact list_fun g1
      obtain ⟨U, hUb, hU0, hSF, hUnd⟩ := und_ex (lb := lb) (N := Z + 1) (by omega) g10 (fun i _ => by have := gb i; omega)
      -- back
      refine ⟨_, rfl, _, rfl, gp, cF g1, lb, Z + 1, rfl, by rw [eg]; exact hgp, fun i _ => (gb i).1, g10, by omega, by omega, fun H16 s16 => ?_⟩
      refine und_both (U := U) (sq_of (by rw [eg]; exact s16 _ _ hgp)) (by omega) (by omega) (fun i _ => ?_) hUnd (ub_bin (by omega) hUb) (fun bp H17 s17 nbp hbp => ?_)
      · have := gb i
        have h8 : (cF g1 i).natAbs ≤ 2 ^ 3 := by omega
        exact Nat.lt_of_le_of_lt h8 (p2_lt (by decide))
      have hgp17 := s17 _ _ (s16 _ _ hgp)
      refine ⟨_, rfl, _, _, _, _, true, rfl, .ty "list", .base (.lst hbp), kit_ty (by decide +kernel), _, rfl, iteT ?_⟩
      refine ⟨_, rfl, bp, _, _, _, rfl, rfl, sq_of hbp, atI_nat (j := 0) (fun_get (by omega)), rfl, _, rfl, ?_⟩
      rw [hU0, decide_eq_true rfl]
      refine iteT ?_
      refine ⟨_, rfl, _, rfl, bp, U, cF g1, lb, Z + 1, rfl, sq_of hbp, by omega, by omega, hSF, fun i _ => ?_, ub_bin (by omega) hUb, ub_W (by omega) hUb, fun rp H18 s18 nrp hrp => ?_⟩
      · have := gb i
        have h8 : (cF g1 i).natAbs ≤ 2 ^ 3 := by omega
        exact Nat.lt_of_le_of_lt h8 (p2_lt (by decide))
      rw [eg] at hrp
      refine ⟨_, rfl, dI g1, dI g1, dp_ints (sq_of hrp), dp_ints (sq_of (s18 _ _ hgp17)), shaped_ints _, shaped_ints _, ?_⟩
      rw [eqv_ints]
      exact q _
end
end SM

namespace SM
open PySem L2
theorem all_mk {l : PySem.W.OpenLaw} {w : World} {K : PySem.W.Frag} {h : Heap} {mg : Str → Option Value} {fa : Addr} (X : K.In h) (G : h.Ns mainGlobals mg) (hfa : mg "law" = some (.ref fa))
    {f0 : Addr} {oc0 kV0 dc0 pm0 cd0 ct0 : Value} {od0 an0 : Option Addr} {sl0 : Array (Option Value)}
    {f1 : Addr} {oc1 kV1 dc1 pm1 cd1 ct1 : Value} {od1 an1 : Option Addr} {sl1 : Array (Option Value)}
    {f2 : Addr} {oc2 kV2 dc2 pm2 cd2 ct2 : Value} {od2 an2 : Option Addr} {sl2 : Array (Option Value)}
    {f3 : Addr} {oc3 kV3 dc3 pm3 cd3 ct3 : Value} {od3 an3 : Option Addr} {sl3 : Array (Option Value)}
    {f4 : Addr} {oc4 kV4 dc4 pm4 cd4 ct4 : Value} {od4 an4 : Option Addr} {sl4 : Array (Option Value)}
    {f5 : Addr} {oc5 kV5 dc5 pm5 cd5 ct5 : Value} {od5 an5 : Option Addr} {sl5 : Array (Option Value)}
    {f6 : Addr} {oc6 kV6 dc6 pm6 cd6 ct6 : Value} {od6 an6 : Option Addr} {sl6 : Array (Option Value)}
    {f7 : Addr} {oc7 kV7 dc7 pm7 cd7 ct7 : Value} {od7 an7 : Option Addr} {sl7 : Array (Option Value)}
    {f8 : Addr} {oc8 kV8 dc8 pm8 cd8 ct8 : Value} {od8 an8 : Option Addr} {sl8 : Array (Option Value)}
    {f9 : Addr} {oc9 kV9 dc9 pm9 cd9 ct9 : Value} {od9 an9 : Option Addr} {sl9 : Array (Option Value)}
    {f10 : Addr} {oc10 kV10 dc10 pm10 cd10 ct10 : Value} {od10 an10 : Option Addr} {sl10 : Array (Option Value)}
    {f11 : Addr} {oc11 kV11 dc11 pm11 cd11 ct11 : Value} {od11 an11 : Option Addr} {sl11 : Array (Option Value)}
    {f12 : Addr} {oc12 kV12 dc12 pm12 cd12 ct12 : Value} {od12 an12 : Option Addr} {sl12 : Array (Option Value)}
    {f13 : Addr} {oc13 kV13 dc13 pm13 cd13 ct13 : Value} {od13 an13 : Option Addr} {sl13 : Array (Option Value)}
    {f14 : Addr} {oc14 kV14 dc14 pm14 cd14 ct14 : Value} {od14 an14 : Option Addr} {sl14 : Array (Option Value)}
    {f15 : Addr} {oc15 kV15 dc15 pm15 cd15 ct15 : Value} {od15 an15 : Option Addr} {sl15 : Array (Option Value)}
    {f16 : Addr} {oc16 kV16 dc16 pm16 cd16 ct16 : Value} {od16 an16 : Option Addr} {sl16 : Array (Option Value)}
    {f17 : Addr} {oc17 kV17 dc17 pm17 cd17 ct17 : Value} {od17 an17 : Option Addr} {sl17 : Array (Option Value)}
    {f18 : Addr} {oc18 kV18 dc18 pm18 cd18 ct18 : Value} {od18 an18 : Option Addr} {sl18 : Array (Option Value)}
    {f19 : Addr} {oc19 kV19 dc19 pm19 cd19 ct19 : Value} {od19 an19 : Option Addr} {sl19 : Array (Option Value)}
    {cM aMW : Addr}
    {f100 : Addr} {oc100 kV100 dc100 pm100 cd100 ct100 : Value} {od100 an100 : Option Addr} {sl100 : Array (Option Value)}
    {f101 : Addr} {oc101 kV101 dc101 pm101 cd101 ct101 : Value} {od101 an101 : Option Addr} {sl101 : Array (Option Value)}
    {f102 : Addr} {oc102 kV102 dc102 pm102 cd102 ct102 : Value} {od102 an102 : Option Addr} {sl102 : Array (Option Value)}
    {f103 : Addr} {oc103 kV103 dc103 pm103 cd103 ct103 : Value} {od103 an103 : Option Addr} {sl103 : Array (Option Value)}
    {f104 : Addr} {oc104 kV104 dc104 pm104 cd104 ct104 : Value} {od104 an104 : Option Addr} {sl104 : Array (Option Value)}
    {f105 : Addr} {oc105 kV105 dc105 pm105 cd105 ct105 : Value} {od105 an105 : Option Addr} {sl105 : Array (Option Value)}
    {f106 : Addr} {oc106 kV106 dc106 pm106 cd106 ct106 : Value} {od106 an106 : Option Addr} {sl106 : Array (Option Value)}
    {f107 : Addr} {oc107 kV107 dc107 pm107 cd107 ct107 : Value} {od107 an107 : Option Addr} {sl107 : Array (Option Value)}
    {tL tU tR tM : Tok}
    {odm : Option Addr} {itm : Array Value} {nm : Nat} {slm : Array (Option Value)}
    (a0 : PySem.W.nsIn K mainGlobals "is_whole" = some (some (.ref f0)))
    (l0 : K.lookup f0 = some ⟨oc0, od0, .func (PySem.W.fnOf "is_whole" "is_whole" (defArgs s_is_whole) (defBody s_is_whole) (defScope s_is_whole) .none kV0 dc0 pm0 an0 cd0 ct0), sl0⟩) (c0 : PySem.W.codeIn K cd0 "is_whole" = true) (k0 : PySem.W.keepIn K (.ref f0) = true)
    (a1 : PySem.W.nsIn K mainGlobals "are_bounds" = some (some (.ref f1)))
    (l1 : K.lookup f1 = some ⟨oc1, od1, .func (PySem.W.fnOf "are_bounds" "are_bounds" (defArgs s_are_bounds) (defBody s_are_bounds) (defScope s_are_bounds) .none kV1 dc1 pm1 an1 cd1 ct1), sl1⟩) (c1 : PySem.W.codeIn K cd1 "are_bounds" = true) (k1 : PySem.W.keepIn K (.ref f1) = true)
    (a2 : PySem.W.nsIn K mainGlobals "more_than_one" = some (some (.ref f2)))
    (l2 : K.lookup f2 = some ⟨oc2, od2, .func (PySem.W.fnOf "more_than_one" "more_than_one" (defArgs s_more_than_one) (defBody s_more_than_one) (defScope s_more_than_one) .none kV2 dc2 pm2 an2 cd2 ct2), sl2⟩) (c2 : PySem.W.codeIn K cd2 "more_than_one" = true) (k2 : PySem.W.keepIn K (.ref f2) = true)
    (a3 : PySem.W.nsIn K mainGlobals "divisors" = some (some (.ref f3)))
    (l3 : K.lookup f3 = some ⟨oc3, od3, .func (PySem.W.fnOf "divisors" "divisors" (defArgs s_divisors) (defBody s_divisors) (defScope s_divisors) .none kV3 dc3 pm3 an3 cd3 ct3), sl3⟩) (c3 : PySem.W.codeIn K cd3 "divisors" = true) (k3 : PySem.W.keepIn K (.ref f3) = true)
    (a4 : PySem.W.nsIn K mainGlobals "totient" = some (some (.ref f4)))
    (l4 : K.lookup f4 = some ⟨oc4, od4, .func (PySem.W.fnOf "totient" "totient" (defArgs s_totient) (defBody s_totient) (defScope s_totient) .none kV4 dc4 pm4 an4 cd4 ct4), sl4⟩) (c4 : PySem.W.codeIn K cd4 "totient" = true) (k4 : PySem.W.keepIn K (.ref f4) = true)
    (a5 : PySem.W.nsIn K mainGlobals "mode_of" = some (some (.ref f5)))
    (l5 : K.lookup f5 = some ⟨oc5, od5, .func (PySem.W.fnOf "mode_of" "mode_of" (defArgs s_mode_of) (defBody s_mode_of) (defScope s_mode_of) .none kV5 dc5 pm5 an5 cd5 ct5), sl5⟩) (c5 : PySem.W.codeIn K cd5 "mode_of" = true) (k5 : PySem.W.keepIn K (.ref f5) = true)
    (a6 : PySem.W.nsIn K mainGlobals "ways_to_share" = some (some (.ref f6)))
    (l6 : K.lookup f6 = some ⟨oc6, od6, .func (PySem.W.fnOf "ways_to_share" "ways_to_share" (defArgs s_ways_to_share) (defBody s_ways_to_share) (defScope s_ways_to_share) .none kV6 dc6 pm6 an6 cd6 ct6), sl6⟩) (c6 : PySem.W.codeIn K cd6 "ways_to_share" = true) (k6 : PySem.W.keepIn K (.ref f6) = true)
    (a7 : PySem.W.nsIn K mainGlobals "check_counts" = some (some (.ref f7)))
    (l7 : K.lookup f7 = some ⟨oc7, od7, .func (PySem.W.fnOf "check_counts" "check_counts" (defArgs s_check_counts) (defBody s_check_counts) (defScope s_check_counts) .none kV7 dc7 pm7 an7 cd7 ct7), sl7⟩) (c7 : PySem.W.codeIn K cd7 "check_counts" = true) (k7 : PySem.W.keepIn K (.ref f7) = true)
    (a8 : PySem.W.nsIn K mainGlobals "rows" = some (some (.ref f8)))
    (l8 : K.lookup f8 = some ⟨oc8, od8, .func (PySem.W.fnOf "rows" "rows" (defArgs s_rows) (defBody s_rows) (defScope s_rows) .none kV8 dc8 pm8 an8 cd8 ct8), sl8⟩) (c8 : PySem.W.codeIn K cd8 "rows" = true) (k8 : PySem.W.keepIn K (.ref f8) = true)
    (a9 : PySem.W.nsIn K mainGlobals "sets" = some (some (.ref f9)))
    (l9 : K.lookup f9 = some ⟨oc9, od9, .func (PySem.W.fnOf "sets" "sets" (defArgs s_sets) (defBody s_sets) (defScope s_sets) .none kV9 dc9 pm9 an9 cd9 ct9), sl9⟩) (c9 : PySem.W.codeIn K cd9 "sets" = true) (k9 : PySem.W.keepIn K (.ref f9) = true)
    (a10 : PySem.W.nsIn K mainGlobals "rings" = some (some (.ref f10)))
    (l10 : K.lookup f10 = some ⟨oc10, od10, .func (PySem.W.fnOf "rings" "rings" (defArgs s_rings) (defBody s_rings) (defScope s_rings) .none kV10 dc10 pm10 an10 cd10 ct10), sl10⟩) (c10 : PySem.W.codeIn K cd10 "rings" = true) (k10 : PySem.W.keepIn K (.ref f10) = true)
    (a11 : PySem.W.nsIn K mainGlobals "by_members" = some (some (.ref f11)))
    (l11 : K.lookup f11 = some ⟨oc11, od11, .func (PySem.W.fnOf "by_members" "by_members" (defArgs s_by_members) (defBody s_by_members) (defScope s_by_members) .none kV11 dc11 pm11 an11 cd11 ct11), sl11⟩) (c11 : PySem.W.codeIn K cd11 "by_members" = true) (k11 : PySem.W.keepIn K (.ref f11) = true)
    (a12 : PySem.W.nsIn K mainGlobals "_counts_within" = some (some (.ref f12)))
    (l12 : K.lookup f12 = some ⟨oc12, od12, .func (PySem.W.fnOf "_counts_within" "_counts_within" (defArgs s__counts_within) (defBody s__counts_within) (defScope s__counts_within) .none kV12 dc12 pm12 an12 cd12 ct12), sl12⟩) (c12 : PySem.W.codeIn K cd12 "_counts_within" = true) (k12 : PySem.W.keepIn K (.ref f12) = true)
    (a13 : PySem.W.nsIn K mainGlobals "sets_undone" = some (some (.ref f13)))
    (l13 : K.lookup f13 = some ⟨oc13, od13, .func (PySem.W.fnOf "sets_undone" "sets_undone" (defArgs s_sets_undone) (defBody s_sets_undone) (defScope s_sets_undone) .none kV13 dc13 pm13 an13 cd13 ct13), sl13⟩) (c13 : PySem.W.codeIn K cd13 "sets_undone" = true) (k13 : PySem.W.keepIn K (.ref f13) = true)
    (a14 : PySem.W.nsIn K mainGlobals "_labelled_undone" = some (some (.ref f14)))
    (l14 : K.lookup f14 = some ⟨oc14, od14, .func (PySem.W.fnOf "_labelled_undone" "_labelled_undone" (defArgs s__labelled_undone) (defBody s__labelled_undone) (defScope s__labelled_undone) .none kV14 dc14 pm14 an14 cd14 ct14), sl14⟩) (c14 : PySem.W.codeIn K cd14 "_labelled_undone" = true) (k14 : PySem.W.keepIn K (.ref f14) = true)
    (a15 : PySem.W.nsIn K mainGlobals "_unlabelled_undone" = some (some (.ref f15)))
    (l15 : K.lookup f15 = some ⟨oc15, od15, .func (PySem.W.fnOf "_unlabelled_undone" "_unlabelled_undone" (defArgs s__unlabelled_undone) (defBody s__unlabelled_undone) (defScope s__unlabelled_undone) .none kV15 dc15 pm15 an15 cd15 ct15), sl15⟩) (c15 : PySem.W.codeIn K cd15 "_unlabelled_undone" = true) (k15 : PySem.W.keepIn K (.ref f15) = true)
    (a16 : PySem.W.nsIn K mainGlobals "_law_draws" = some (some (.ref f16)))
    (l16 : K.lookup f16 = some ⟨oc16, od16, .func (PySem.W.fnOf "_law_draws" "_law_draws" (defArgs s__law_draws) (defBody s__law_draws) (defScope s__law_draws) .none kV16 dc16 pm16 an16 cd16 ct16), sl16⟩) (c16 : PySem.W.codeIn K cd16 "_law_draws" = true) (k16 : PySem.W.keepIn K (.ref f16) = true)
    (a17 : PySem.W.nsIn K mainGlobals "_law_binomial" = some (some (.ref f17)))
    (l17 : K.lookup f17 = some ⟨oc17, od17, .func (PySem.W.fnOf "_law_binomial" "_law_binomial" (defArgs s__law_binomial) (defBody s__law_binomial) (defScope s__law_binomial) .none kV17 dc17 pm17 an17 cd17 ct17), sl17⟩) (c17 : PySem.W.codeIn K cd17 "_law_binomial" = true) (k17 : PySem.W.keepIn K (.ref f17) = true)
    (a18 : PySem.W.nsIn K mainGlobals "_law_sets" = some (some (.ref f18)))
    (l18 : K.lookup f18 = some ⟨oc18, od18, .func (PySem.W.fnOf "_law_sets" "_law_sets" (defArgs s__law_sets) (defBody s__law_sets) (defScope s__law_sets) .none kV18 dc18 pm18 an18 cd18 ct18), sl18⟩) (c18 : PySem.W.codeIn K cd18 "_law_sets" = true) (k18 : PySem.W.keepIn K (.ref f18) = true)
    (a19 : PySem.W.nsIn K mainGlobals "law" = some (some (.ref f19)))
    (l19 : K.lookup f19 = some ⟨oc19, od19, .func (PySem.W.fnOf "law" "law" (defArgs s_law) (defBody s_law) (defScope s_law) .none kV19 dc19 pm19 an19 cd19 ct19), sl19⟩) (c19 : PySem.W.codeIn K cd19 "law" = true) (k19 : PySem.W.keepIn K (.ref f19) = true)
    (a100 : PySem.W.findIn K (.ref cM) "__init__" = some (some (.ref f100))) (i100 : PySem.W.isFn K (.ref f100) = true)
    (l100 : K.lookup f100 = some ⟨oc100, od100, .func (PySem.W.fnOf "__init__" "Members.__init__" (defArgs s_Members_init) (defBody s_Members_init) (defScope s_Members_init) .none kV100 dc100 pm100 an100 cd100 ct100), sl100⟩) (c100 : PySem.W.codeIn K cd100 "Members.__init__" = true) (k100 : PySem.W.keepIn K (.ref f100) = true)
    (a101 : PySem.W.findIn K (.ref cM) "grow" = some (some (.ref f101))) (i101 : PySem.W.isFn K (.ref f101) = true)
    (l101 : K.lookup f101 = some ⟨oc101, od101, .func (PySem.W.fnOf "grow" "Members.grow" (defArgs s_Members_grow) (defBody s_Members_grow) (defScope s_Members_grow) .none kV101 dc101 pm101 an101 cd101 ct101), sl101⟩) (c101 : PySem.W.codeIn K cd101 "Members.grow" = true) (k101 : PySem.W.keepIn K (.ref f101) = true)
    (a102 : PySem.W.findIn K (.ref cM) "shared_counts" = some (some (.ref f102))) (i102 : PySem.W.isFn K (.ref f102) = true)
    (l102 : K.lookup f102 = some ⟨oc102, od102, .func (PySem.W.fnOf "shared_counts" "Members.shared_counts" (defArgs s_Members_shared_counts) (defBody s_Members_shared_counts) (defScope s_Members_shared_counts) .none kV102 dc102 pm102 an102 cd102 ct102), sl102⟩) (c102 : PySem.W.codeIn K cd102 "Members.shared_counts" = true) (k102 : PySem.W.keepIn K (.ref f102) = true)
    (a103 : PySem.W.findIn K (.ref cM) "next_rows" = some (some (.ref f103))) (i103 : PySem.W.isFn K (.ref f103) = true)
    (l103 : K.lookup f103 = some ⟨oc103, od103, .func (PySem.W.fnOf "next_rows" "Members.next_rows" (defArgs s_Members_next_rows) (defBody s_Members_next_rows) (defScope s_Members_next_rows) .none kV103 dc103 pm103 an103 cd103 ct103), sl103⟩) (c103 : PySem.W.codeIn K cd103 "Members.next_rows" = true) (k103 : PySem.W.keepIn K (.ref f103) = true)
    (a104 : PySem.W.findIn K (.ref cM) "next_sets" = some (some (.ref f104))) (i104 : PySem.W.isFn K (.ref f104) = true)
    (l104 : K.lookup f104 = some ⟨oc104, od104, .func (PySem.W.fnOf "next_sets" "Members.next_sets" (defArgs s_Members_next_sets) (defBody s_Members_next_sets) (defScope s_Members_next_sets) .none kV104 dc104 pm104 an104 cd104 ct104), sl104⟩) (c104 : PySem.W.codeIn K cd104 "Members.next_sets" = true) (k104 : PySem.W.keepIn K (.ref f104) = true)
    (a105 : PySem.W.findIn K (.ref cM) "exactly" = some (some (.ref f105))) (i105 : PySem.W.isFn K (.ref f105) = true)
    (l105 : K.lookup f105 = some ⟨oc105, od105, .func (PySem.W.fnOf "exactly" "Members.exactly" (defArgs s_Members_exactly) (defBody s_Members_exactly) (defScope s_Members_exactly) .none kV105 dc105 pm105 an105 cd105 ct105), sl105⟩) (c105 : PySem.W.codeIn K cd105 "Members.exactly" = true) (k105 : PySem.W.keepIn K (.ref f105) = true)
    (a106 : PySem.W.findIn K (.ref cM) "rings" = some (some (.ref f106))) (i106 : PySem.W.isFn K (.ref f106) = true)
    (l106 : K.lookup f106 = some ⟨oc106, od106, .func (PySem.W.fnOf "rings" "Members.rings" (defArgs s_Members_rings) (defBody s_Members_rings) (defScope s_Members_rings) .none kV106 dc106 pm106 an106 cd106 ct106), sl106⟩) (c106 : PySem.W.codeIn K cd106 "Members.rings" = true) (k106 : PySem.W.keepIn K (.ref f106) = true)
    (a107 : PySem.W.findIn K (.ref cM) "within" = some (some (.ref f107))) (i107 : PySem.W.isFn K (.ref f107) = true)
    (l107 : K.lookup f107 = some ⟨oc107, od107, .func (PySem.W.fnOf "within" "Members.within" (defArgs s_Members_within) (defBody s_Members_within) (defScope s_Members_within) .none kV107 dc107 pm107 an107 cd107 ct107), sl107⟩) (c107 : PySem.W.codeIn K cd107 "Members.within" = true) (k107 : PySem.W.keepIn K (.ref f107) = true)
    (n_isinstance : PySem.W.nsIn K mainGlobals "isinstance" = some none)
    (n_int : PySem.W.nsIn K mainGlobals "int" = some none)
    (n_bool : PySem.W.nsIn K mainGlobals "bool" = some none)
    (n_list : PySem.W.nsIn K mainGlobals "list" = some none)
    (n_len : PySem.W.nsIn K mainGlobals "len" = some none)
    (n_abs : PySem.W.nsIn K mainGlobals "abs" = some none)
    (n_any : PySem.W.nsIn K mainGlobals "any" = some none)
    (n_sum : PySem.W.nsIn K mainGlobals "sum" = some none)
    (n_range : PySem.W.nsIn K mainGlobals "range" = some none)
    (n_max : PySem.W.nsIn K mainGlobals "max" = some none)
    (n_min : PySem.W.nsIn K mainGlobals "min" = some none)
    (n_ValueError : PySem.W.nsIn K mainGlobals "ValueError" = some none)
    (m_comb : PySem.W.nsIn K mainGlobals "comb" = some (some (.builtin "math.comb")))
    (m_factorial : PySem.W.nsIn K mainGlobals "factorial" = some (some (.builtin "math.factorial")))
    (m_gcd : PySem.W.nsIn K mainGlobals "gcd" = some (some (.builtin "math.gcd")))
    (g_LABELLED : PySem.W.nsIn K mainGlobals "LABELLED" = some (some (.str "labelled" tL)))
    (g_UNLABELLED : PySem.W.nsIn K mainGlobals "UNLABELLED" = some (some (.str "unlabelled" tU)))
    (g_RIGID : PySem.W.nsIn K mainGlobals "RIGID" = some (some (.str "rigid" tR)))
    (g_MOST_ITEMS : PySem.W.nsIn K mainGlobals "MOST_ITEMS" = some (some (.int 61 tM)))
    (aMWn : PySem.W.nsIn K mainGlobals "MEMBER_WORDS" = some (some (.ref aMW))) (aMWl : K.lookup aMW = some ⟨.type "tuple", odm, .seq itm nm, slm⟩) (aMWv : Vals [.str "row", .str "set", .str "ring"] itm.toList)
    (g_Members : PySem.W.nsIn K mainGlobals "Members" = some (some (.ref cM)))
    (M_pg : PySem.W.plainGet K cM Str.empty = true) (M_hd : PySem.W.hasDictIn K cM = true) (M_po : PySem.W.plainOver K cM = true) (M_sa : PySem.W.findIn K (.ref cM) "__setattr__" = some (some (.builtin "object.__setattr__"))) (M_mk : PySem.W.makesIn K cM = true) (M_kc : PySem.W.keepIn K (.ref cM) = true)
    (M_word : PySem.W.findIn K (.ref cM) "word" = some none)
    (M_most : PySem.W.findIn K (.ref cM) "most" = some none)
    (M_counts : PySem.W.findIn K (.ref cM) "counts" = some none)
    (M_mode : PySem.W.findIn K (.ref cM) "mode" = some none)
    (M_table : PySem.W.findIn K (.ref cM) "table" = some none) :
    ∃ fd : FuncData, (∀ (s : Shared) (v : Value), BindsTo s fd ⟨[v], []⟩ [("script", v)]) ∧ ∀ base : Heap, K.In base → base.Ns mainGlobals mg → FnOk l.prog w K mg base CX0 7 fa fd ["script"] (spLaw K) := by
  have e := hfa.symm.trans (PySem.W.mg_of X G a19)
  cases e
  have F0 := fun_mk (st := s_is_whole) l0 c0 k0
  have D0 : Df K mg "is_whole" s_is_whole ["value"] := ⟨f0, _, PySem.W.mg_of X G a0, F0, F0.binds (ps := ["value"]) fun _ _ _ _ _ _ us hl => match us, hl with | [_], _ => rfl⟩
  have F1 := fun_mk (st := s_are_bounds) l1 c1 k1
  have D1 : Df K mg "are_bounds" s_are_bounds ["word", "least", "most"] := ⟨f1, _, PySem.W.mg_of X G a1, F1, F1.binds (ps := ["word", "least", "most"]) fun _ _ _ _ _ _ us hl => match us, hl with | [_, _, _], _ => rfl⟩
  have F2 := fun_mk (st := s_more_than_one) l2 c2 k2
  have D2 : Df K mg "more_than_one" s_more_than_one ["most"] := ⟨f2, _, PySem.W.mg_of X G a2, F2, F2.binds (ps := ["most"]) fun _ _ _ _ _ _ us hl => match us, hl with | [_], _ => rfl⟩
  have F3 := fun_mk (st := s_divisors) l3 c3 k3
  have D3 : Df K mg "divisors" s_divisors ["number"] := ⟨f3, _, PySem.W.mg_of X G a3, F3, F3.binds (ps := ["number"]) fun _ _ _ _ _ _ us hl => match us, hl with | [_], _ => rfl⟩
  have F4 := fun_mk (st := s_totient) l4 c4 k4
  have D4 : Df K mg "totient" s_totient ["number"] := ⟨f4, _, PySem.W.mg_of X G a4, F4, F4.binds (ps := ["number"]) fun _ _ _ _ _ _ us hl => match us, hl with | [_], _ => rfl⟩
  have F5 := fun_mk (st := s_mode_of) l5 c5 k5
  have D5 : Df K mg "mode_of" s_mode_of ["labelled"] := ⟨f5, _, PySem.W.mg_of X G a5, F5, F5.binds (ps := ["labelled"]) fun _ _ _ _ _ _ us hl => match us, hl with | [_], _ => rfl⟩
  have F6 := fun_mk (st := s_ways_to_share) l6 c6 k6
  have D6 : Df K mg "ways_to_share" s_ways_to_share ["first", "size", "mode"] := ⟨f6, _, PySem.W.mg_of X G a6, F6, F6.binds (ps := ["first", "size", "mode"]) fun _ _ _ _ _ _ us hl => match us, hl with | [_, _, _], _ => rfl⟩
  have F7 := fun_mk (st := s_check_counts) l7 c7 k7
  have D7 : Df K mg "check_counts" s_check_counts ["counts"] := ⟨f7, _, PySem.W.mg_of X G a7, F7, F7.binds (ps := ["counts"]) fun _ _ _ _ _ _ us hl => match us, hl with | [_], _ => rfl⟩
  have F8 := fun_mk (st := s_rows) l8 c8 k8
  have D8 : Df K mg "rows" s_rows ["counts", "least", "most", "labelled"] := ⟨f8, _, PySem.W.mg_of X G a8, F8, F8.binds (ps := ["counts", "least", "most", "labelled"]) fun _ _ _ _ _ _ us hl => match us, hl with | [_, _, _, _], _ => rfl⟩
  have F9 := fun_mk (st := s_sets) l9 c9 k9
  have D9 : Df K mg "sets" s_sets ["counts", "least", "most", "labelled"] := ⟨f9, _, PySem.W.mg_of X G a9, F9, F9.binds (ps := ["counts", "least", "most", "labelled"]) fun _ _ _ _ _ _ us hl => match us, hl with | [_, _, _, _], _ => rfl⟩
  have F10 := fun_mk (st := s_rings) l10 c10 k10
  have D10 : Df K mg "rings" s_rings ["counts", "least", "most", "labelled"] := ⟨f10, _, PySem.W.mg_of X G a10, F10, F10.binds (ps := ["counts", "least", "most", "labelled"]) fun _ _ _ _ _ _ us hl => match us, hl with | [_, _, _, _], _ => rfl⟩
  have F11 := fun_mk (st := s_by_members) l11 c11 k11
  have D11 : Df K mg "by_members" s_by_members ["counts", "word", "members", "labelled"] := ⟨f11, _, PySem.W.mg_of X G a11, F11, F11.binds (ps := ["counts", "word", "members", "labelled"]) fun _ _ _ _ _ _ us hl => match us, hl with | [_, _, _, _], _ => rfl⟩
  have F12 := fun_mk (st := s__counts_within) l12 c12 k12
  have D12 : Df K mg "_counts_within" s__counts_within ["word", "counts", "least", "most", "labelled"] := ⟨f12, _, PySem.W.mg_of X G a12, F12, F12.binds (ps := ["word", "counts", "least", "most", "labelled"]) fun _ _ _ _ _ _ us hl => match us, hl with | [_, _, _, _, _], _ => rfl⟩
  have F13 := fun_mk (st := s_sets_undone) l13 c13 k13
  have D13 : Df K mg "sets_undone" s_sets_undone ["counts", "labelled"] := ⟨f13, _, PySem.W.mg_of X G a13, F13, F13.binds (ps := ["counts", "labelled"]) fun _ _ _ _ _ _ us hl => match us, hl with | [_, _], _ => rfl⟩
  have F14 := fun_mk (st := s__labelled_undone) l14 c14 k14
  have D14 : Df K mg "_labelled_undone" s__labelled_undone ["counts"] := ⟨f14, _, PySem.W.mg_of X G a14, F14, F14.binds (ps := ["counts"]) fun _ _ _ _ _ _ us hl => match us, hl with | [_], _ => rfl⟩
  have F15 := fun_mk (st := s__unlabelled_undone) l15 c15 k15
  have D15 : Df K mg "_unlabelled_undone" s__unlabelled_undone ["counts"] := ⟨f15, _, PySem.W.mg_of X G a15, F15, F15.binds (ps := ["counts"]) fun _ _ _ _ _ _ us hl => match us, hl with | [_], _ => rfl⟩
  have F16 := fun_mk (st := s__law_draws) l16 c16 k16
  have D16 : Df K mg "_law_draws" s__law_draws ["script", "many"] := ⟨f16, _, PySem.W.mg_of X G a16, F16, F16.binds (ps := ["script", "many"]) fun _ _ _ _ _ _ us hl => match us, hl with | [_, _], _ => rfl⟩
  have F17 := fun_mk (st := s__law_binomial) l17 c17 k17
  have D17 : Df K mg "_law_binomial" s__law_binomial ["n", "k"] := ⟨f17, _, PySem.W.mg_of X G a17, F17, F17.binds (ps := ["n", "k"]) fun _ _ _ _ _ _ us hl => match us, hl with | [_, _], _ => rfl⟩
  have F18 := fun_mk (st := s__law_sets) l18 c18 k18
  have D18 : Df K mg "_law_sets" s__law_sets ["counts", "labelled"] := ⟨f18, _, PySem.W.mg_of X G a18, F18, F18.binds (ps := ["counts", "labelled"]) fun _ _ _ _ _ _ us hl => match us, hl with | [_, _], _ => rfl⟩
  have F19 := fun_mk (st := s_law) l19 c19 k19
  have F100 := fun_mk (st := s_Members_init) l100 c100 k100
  have D100 : DfM K cM "__init__" "Members.__init__" s_Members_init ["self", "word", "most", "counts", "mode"] := ⟨f100, _, ⟨a100, i100, k100⟩, F100, F100.binds (ps := ["self", "word", "most", "counts", "mode"]) fun _ _ _ _ _ _ us hl => match us, hl with | [_, _, _, _, _], _ => rfl⟩
  have F101 := fun_mk (st := s_Members_grow) l101 c101 k101
  have D101 : DfM K cM "grow" "Members.grow" s_Members_grow ["self"] := ⟨f101, _, ⟨a101, i101, k101⟩, F101, F101.binds (ps := ["self"]) fun _ _ _ _ _ _ us hl => match us, hl with | [_], _ => rfl⟩
  have F102 := fun_mk (st := s_Members_shared_counts) l102 c102 k102
  have D102 : DfM K cM "shared_counts" "Members.shared_counts" s_Members_shared_counts ["self", "size"] := ⟨f102, _, ⟨a102, i102, k102⟩, F102, F102.binds (ps := ["self", "size"]) fun _ _ _ _ _ _ us hl => match us, hl with | [_, _], _ => rfl⟩
  have F103 := fun_mk (st := s_Members_next_rows) l103 c103 k103
  have D103 : DfM K cM "next_rows" "Members.next_rows" s_Members_next_rows ["self", "shared", "members", "size"] := ⟨f103, _, ⟨a103, i103, k103⟩, F103, F103.binds (ps := ["self", "shared", "members", "size"]) fun _ _ _ _ _ _ us hl => match us, hl with | [_, _, _, _], _ => rfl⟩
  have F104 := fun_mk (st := s_Members_next_sets) l104 c104 k104
  have D104 : DfM K cM "next_sets" "Members.next_sets" s_Members_next_sets ["self", "members", "size"] := ⟨f104, _, ⟨a104, i104, k104⟩, F104, F104.binds (ps := ["self", "members", "size"]) fun _ _ _ _ _ _ us hl => match us, hl with | [_, _, _], _ => rfl⟩
  have F105 := fun_mk (st := s_Members_exactly) l105 c105 k105
  have D105 : DfM K cM "exactly" "Members.exactly" s_Members_exactly ["self", "members", "size"] := ⟨f105, _, ⟨a105, i105, k105⟩, F105, F105.binds (ps := ["self", "members", "size"]) fun _ _ _ _ _ _ us hl => match us, hl with | [_, _, _], _ => rfl⟩
  have F106 := fun_mk (st := s_Members_rings) l106 c106 k106
  have D106 : DfM K cM "rings" "Members.rings" s_Members_rings ["self", "members", "size"] := ⟨f106, _, ⟨a106, i106, k106⟩, F106, F106.binds (ps := ["self", "members", "size"]) fun _ _ _ _ _ _ us hl => match us, hl with | [_, _, _], _ => rfl⟩
  have F107 := fun_mk (st := s_Members_within) l107 c107 k107
  have D107 : DfM K cM "within" "Members.within" s_Members_within ["self", "least", "most", "size"] := ⟨f107, _, ⟨a107, i107, k107⟩, F107, F107.binds (ps := ["self", "least", "most", "size"]) fun _ _ _ _ _ _ us hl => match us, hl with | [_, _, _, _], _ => rfl⟩
  have sizeMW : itm.size ≤ sizeLine := by
    have := aMWv.length
    have e : itm.size = 3 := by rw [← Array.length_toList]; exact this.symm
    rw [e]
    exact sz _ (by decide)
  have T : Tx K mg ⟨cM, aMW, .str "labelled" tL, .str "unlabelled" tU, .str "rigid" tR, .int 61 tM⟩ := ⟨PySem.W.mg_none_of X G n_isinstance, PySem.W.mg_none_of X G n_int, PySem.W.mg_none_of X G n_bool, PySem.W.mg_none_of X G n_list, PySem.W.mg_none_of X G n_len, PySem.W.mg_none_of X G n_abs, PySem.W.mg_none_of X G n_any, PySem.W.mg_none_of X G n_sum, PySem.W.mg_none_of X G n_range, PySem.W.mg_none_of X G n_max, PySem.W.mg_none_of X G n_min, PySem.W.mg_none_of X G n_ValueError, PySem.W.mg_of X G m_comb, PySem.W.mg_of X G m_factorial, PySem.W.mg_of X G m_gcd, PySem.W.mg_of X G g_LABELLED, ⟨_, rfl⟩, PySem.W.mg_of X G g_UNLABELLED, ⟨_, rfl⟩, PySem.W.mg_of X G g_RIGID, ⟨_, rfl⟩, PySem.W.mg_of X G g_MOST_ITEMS, ⟨_, rfl⟩, PySem.W.mg_of X G aMWn, rfl, fun H => .inr ⟨_, itm, nm, aMWl, rfl, rfl, sizeMW, aMWv⟩, PySem.W.mg_of X G g_Members, ⟨M_pg, M_hd, M_po, M_sa⟩, M_word, M_most, M_counts, M_mode, M_table⟩
  refine ⟨PySem.W.fnOf "law" "law" (defArgs s_law) (defBody s_law) (defScope s_law) .none kV19 dc19 pm19 an19 cd19 ct19, fun s v => .of_eq rfl, fun base _ _ => ?_⟩
  have c1 := ok_is_whole (P := l.prog) (w := w) (base := base) T D0
  have c2 := ok_are_bounds T D1 c1
  have c3 := ok_more (P := l.prog) (w := w) (base := base) T D2
  have c4 := ok_mode (P := l.prog) (w := w) (base := base) T D5
  have c5 := ok_check T D7 c1
  have c6 := ok_divisors (P := l.prog) (w := w) (base := base) T D3
  have c7 := ok_totient (P := l.prog) (w := w) (base := base) T D4
  have c8 := ok_share (P := l.prog) (w := w) (base := base) T D6
  have c9 := ok_init (P := l.prog) (w := w) (base := base) (mg := mg) T D100
  have c10 := ok_shared T D102 c8
  have c11 := ok_nextRows (P := l.prog) (w := w) (base := base) T D103
  have c11b := ok_nextSets (P := l.prog) (w := w) (base := base) T D104
  have c12 := ok_grow T D101 c10 c11 c11b
  have c13 := ok_rings0 T D106 c6 c7
  have c14 := ok_exactly T D105 c13
  have c15 := ok_within T D107 c14
  obtain ⟨fi, fdi, mi, bi, gi⟩ := c9.ex
  have c16 := ok_CW T D12 c5 c2 c3 c4 ⟨fi, ⟨M_mk, mi.at_, mi.fn, M_kc⟩, fdi, bi, gi⟩ c12 c15
  have c17 := ok_rows D8 c16
  have c18 := ok_sets D9 c16
  have c19 := ok_rings D10 c16
  have c20 := ok_by D11 c16
  have c21 := ok_undL (P := l.prog) (w := w) (base := base) T D14
  have c22 := ok_undU T D15 c6
  have c23 := ok_und T D13 c5 c21 c22
  have c24 := ok_draws (P := l.prog) (w := w) (base := base) T D16
  have c25 := ok_bin (P := l.prog) (w := w) (base := base) T D17
  have c26 := ok_lsets T D18 c25
  exact ok_law T F19 c24 c20 c26 c23 c17 c18 c19
theorem walk {l : PySem.W.OpenLaw} {q : Program} {loose : List Str} {XP : (Str → Option Value) → Heap → Prop} {YP : World → Heap → Prop} {d : DefRec} {K : Params → PySem.W.Frag} (hn : l.most = some 63) (hdf : d.params.defaults = [])
    (hY : ∀ (w : World) (h : Heap), YP w h → (K w.params).In h)
    (F : ∀ (w : World) (mg : Str → Option Value) (fa : Addr) (h : Heap), (K w.params).In h → h.Ns mainGlobals mg → mg d.name = some (.ref fa) →
      ∃ fd : FuncData, (∀ (s : Shared) (u : Value), BindsTo s fd ⟨[u], []⟩ [("script", u)]) ∧ ∀ base : Heap, (K w.params).In base → base.Ns mainGlobals mg → FnOk l.prog w (K w.params) mg base CX0 7 fa fd ["script"] (spLaw (K w.params))) :
    PySem.W.WalkO q loose XP YP l.row.toRowW d [] (fun f vs => PySem.call f vs) :=
  L2.walk_of (n := 63) (k := 7) (x := "script") (CX := fun _ => CX0) (sp := fun w => spLaw (K w.params)) hn (by decide) hdf ⟨rfl, by decide, by decide⟩ hY F (fun _ _ a ns hl _ hS => ⟨a, ns, rfl, hS, hl, fun _ => rfl⟩) fun _ _ _ _ _ z => z
end SM

open PySem PySem.W PyProof.Rows
set_option maxRecDepth 100000 in
set_option maxHeartbeats 0 in
theorem PySem.Challenge.cw_speciesmill_k22_members_and_undone_sets_holds : PySem.Challenge.rw_speciesmill_k22_members_and_undone_sets.Holds := by
  w_on; o_law; k_head; (case hw => w_witness2)
  k_fill
  refine SM.walk (l := PySem.Challenge.rw_speciesmill_k22_members_and_undone_sets) rfl rfl (fun w h Y => PySem.W.kIn_of Y) ?F
  case F =>
    intro w mg fa h KX G hmg
    refine' SM.all_mk KX G hmg ?a0 ?l0 ?c0 ?k0 ?a1 ?l1 ?c1 ?k1 ?a2 ?l2 ?c2 ?k2 ?a3 ?l3 ?c3 ?k3 ?a4 ?l4 ?c4 ?k4 ?a5 ?l5 ?c5 ?k5 ?a6 ?l6 ?c6 ?k6 ?a7 ?l7 ?c7 ?k7 ?a8 ?l8 ?c8 ?k8 ?a9 ?l9 ?c9 ?k9 ?a10 ?l10 ?c10 ?k10 ?a11 ?l11 ?c11 ?k11 ?a12 ?l12 ?c12 ?k12 ?a13 ?l13 ?c13 ?k13 ?a14 ?l14 ?c14 ?k14 ?a15 ?l15 ?c15 ?k15 ?a16 ?l16 ?c16 ?k16 ?a17 ?l17 ?c17 ?k17 ?a18 ?l18 ?c18 ?k18 ?a19 ?l19 ?c19 ?k19 ?a100 ?i100 ?l100 ?c100 ?k100 ?a101 ?i101 ?l101 ?c101 ?k101 ?a102 ?i102 ?l102 ?c102 ?k102 ?a103 ?i103 ?l103 ?c103 ?k103 ?a104 ?i104 ?l104 ?c104 ?k104 ?a105 ?i105 ?l105 ?c105 ?k105 ?a106 ?i106 ?l106 ?c106 ?k106 ?a107 ?i107 ?l107 ?c107 ?k107 ?n_isinstance ?n_int ?n_bool ?n_list ?n_len ?n_abs ?n_any ?n_sum ?n_range ?n_max ?n_min ?n_ValueError ?m_comb ?m_factorial ?m_gcd ?g_LABELLED ?g_UNLABELLED ?g_RIGID ?g_MOST_ITEMS ?aMWn ?aMWl ?aMWv ?g_Members ?M_pg ?M_hd ?M_po ?M_sa ?M_mk ?M_kc ?M_word ?M_most ?M_counts ?M_mode ?M_table
    (case g_Members => k_is); (case aMWn => k_is); (case a0 => k_is); (case l0 => k_is); (case c0 => k_is); (case k0 => k_is); (case a1 => k_is); (case l1 => k_is)
    (case c1 => k_is); (case k1 => k_is); (case a2 => k_is); (case l2 => k_is); (case c2 => k_is); (case k2 => k_is); (case a3 => k_is); (case l3 => k_is)
    (case c3 => k_is); (case k3 => k_is); (case a4 => k_is); (case l4 => k_is); (case c4 => k_is); (case k4 => k_is); (case a5 => k_is); (case l5 => k_is)
    (case c5 => k_is); (case k5 => k_is); (case a6 => k_is); (case l6 => k_is); (case c6 => k_is); (case k6 => k_is); (case a7 => k_is); (case l7 => k_is)
    (case c7 => k_is); (case k7 => k_is); (case a8 => k_is); (case l8 => k_is); (case c8 => k_is); (case k8 => k_is); (case a9 => k_is); (case l9 => k_is)
    (case c9 => k_is); (case k9 => k_is); (case a10 => k_is); (case l10 => k_is); (case c10 => k_is); (case k10 => k_is); (case a11 => k_is); (case l11 => k_is)
    (case c11 => k_is); (case k11 => k_is); (case a12 => k_is); (case l12 => k_is); (case c12 => k_is); (case k12 => k_is); (case a13 => k_is); (case l13 => k_is)
    (case c13 => k_is); (case k13 => k_is); (case a14 => k_is); (case l14 => k_is); (case c14 => k_is); (case k14 => k_is); (case a15 => k_is); (case l15 => k_is)
    (case c15 => k_is); (case k15 => k_is); (case a16 => k_is); (case l16 => k_is); (case c16 => k_is); (case k16 => k_is); (case a17 => k_is); (case l17 => k_is)
    (case c17 => k_is); (case k17 => k_is); (case a18 => k_is); (case l18 => k_is); (case c18 => k_is); (case k18 => k_is); (case a19 => k_is); (case l19 => k_is)
    (case c19 => k_is); (case k19 => k_is); (case a100 => k_is); (case i100 => k_is); (case l100 => k_is); (case c100 => k_is); (case k100 => k_is); (case a101 => k_is)
    (case i101 => k_is); (case l101 => k_is); (case c101 => k_is); (case k101 => k_is); (case a102 => k_is); (case i102 => k_is); (case l102 => k_is); (case c102 => k_is)
    (case k102 => k_is); (case a103 => k_is); (case i103 => k_is); (case l103 => k_is); (case c103 => k_is); (case k103 => k_is); (case a104 => k_is); (case i104 => k_is)
    (case l104 => k_is); (case c104 => k_is); (case k104 => k_is); (case a105 => k_is); (case i105 => k_is); (case l105 => k_is); (case c105 => k_is); (case k105 => k_is)
    (case a106 => k_is); (case i106 => k_is); (case l106 => k_is); (case c106 => k_is); (case k106 => k_is); (case a107 => k_is); (case i107 => k_is); (case l107 => k_is)
    (case c107 => k_is); (case k107 => k_is); (case n_isinstance => k_is); (case n_int => k_is); (case n_bool => k_is); (case n_list => k_is); (case n_len => k_is); (case n_abs => k_is)
    (case n_any => k_is); (case n_sum => k_is); (case n_range => k_is); (case n_max => k_is); (case n_min => k_is); (case n_ValueError => k_is); (case m_comb => k_is); (case m_factorial => k_is)
    (case m_gcd => k_is); (case g_LABELLED => k_is); (case g_UNLABELLED => k_is); (case g_RIGID => k_is); (case g_MOST_ITEMS => k_is); (case aMWl => k_is); (case aMWv => exact .cons ⟨_, rfl⟩ (.cons ⟨_, rfl⟩ (.cons ⟨_, rfl⟩ .nil))); (case M_pg => k_is)
    (case M_hd => k_is); (case M_po => k_is); (case M_sa => k_is); (case M_mk => k_is); (case M_kc => k_is); (case M_word => k_is); (case M_most => k_is); (case M_counts => k_is)
    (case M_mode => k_is); (case M_table => k_is)
#print axioms PySem.Challenge.cw_speciesmill_k22_members_and_undone_sets_holds

