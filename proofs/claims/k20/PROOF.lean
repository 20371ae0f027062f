import PyProof.Rows.All
import Wide.All
import OpenK.AllK
import Wide.FinOn
import HandS.ForExc
import HandS.Comp
import HandS.Iter
import HandS.Gcd
import HandS.IsInst
import HandS.ExcIs
import HandS.Flow
import HandS.Wide
import KE.KMathGC
import PySem.Challenge.RW_speciesmill_k20_pairs_rows_sets_rings
set_option Elab.async false
set_option linter.all false
set_option maxRecDepth 100000
set_option maxHeartbeats 4000000
namespace SM
open PySem L2
def topS (i : Nat) : Stmt := PySem.Challenge.pw_speciesmill_k20_pairs_rows_sets_rings.main.body.getD i (.Pass ⟨0, 0, 0, 0⟩)
abbrev s__wall : Stmt := topS 1
theorem sc__wall : FnScope ["k"] ["k"] (defScope s__wall) := ⟨rfl, rfl, rfl, by decide +kernel, rfl, by decide +kernel, by decide +kernel⟩
abbrev s_is_whole : Stmt := topS 6
theorem sc_is_whole : FnScope ["value"] ["value"] (defScope s_is_whole) := ⟨rfl, rfl, rfl, by decide +kernel, rfl, by decide +kernel, by decide +kernel⟩
abbrev s_are_bounds : Stmt := topS 7
theorem sc_are_bounds : FnScope ["word", "least", "most", "lowest"] ["word", "least", "most"] (defScope s_are_bounds) := ⟨rfl, rfl, rfl, by decide +kernel, rfl, by decide +kernel, by decide +kernel⟩
abbrev s_more_than_one : Stmt := topS 8
theorem sc_more_than_one : FnScope ["most"] ["most"] (defScope s_more_than_one) := ⟨rfl, rfl, rfl, by decide +kernel, rfl, by decide +kernel, by decide +kernel⟩
abbrev s_divisors : Stmt := topS 9
theorem sc_divisors : FnScope ["number", "part"] ["number"] (defScope s_divisors) := ⟨rfl, rfl, rfl, by decide +kernel, rfl, by decide +kernel, by decide +kernel⟩
abbrev s_totient : Stmt := topS 10
theorem sc_totient : FnScope ["number", "part"] ["number"] (defScope s_totient) := ⟨rfl, rfl, rfl, by decide +kernel, rfl, by decide +kernel, by decide +kernel⟩
abbrev s_moebius : Stmt := topS 11
theorem sc_moebius : FnScope ["number", "sign", "rest", "prime"] ["number"] (defScope s_moebius) := ⟨rfl, rfl, rfl, by decide +kernel, rfl, by decide +kernel, by decide +kernel⟩
abbrev s_mode_of : Stmt := topS 17
theorem sc_mode_of : FnScope ["labelled"] ["labelled"] (defScope s_mode_of) := ⟨rfl, rfl, rfl, by decide +kernel, rfl, by decide +kernel, by decide +kernel⟩
abbrev s_ways_to_share : Stmt := topS 18
theorem sc_ways_to_share : FnScope ["first", "size", "mode"] ["first", "size", "mode"] (defScope s_ways_to_share) := ⟨rfl, rfl, rfl, by decide +kernel, rfl, by decide +kernel, by decide +kernel⟩
abbrev s_pair_item : Stmt := topS 19
theorem sc_pair_item : FnScope ["first", "second", "size", "mode", "total", "at"] ["first", "second", "size", "mode"] (defScope s_pair_item) := ⟨rfl, rfl, rfl, by decide +kernel, rfl, by decide +kernel, by decide +kernel⟩
abbrev s_Members_init : Stmt := inClass (topS 20) 0
theorem sc_Members_init : FnScope ["self", "word", "most", "counts", "mode"] ["self", "word", "most", "counts", "mode"] (defScope s_Members_init) := ⟨rfl, rfl, rfl, by decide +kernel, rfl, by decide +kernel, by decide +kernel⟩
abbrev s_Members_grow : Stmt := inClass (topS 20) 1
theorem sc_Members_grow : FnScope ["self", "size", "limit", "shared", "members"] ["self"] (defScope s_Members_grow) := ⟨rfl, rfl, rfl, by decide +kernel, rfl, by decide +kernel, by decide +kernel⟩
abbrev s_Members_shared_counts : Stmt := inClass (topS 20) 2
theorem sc_Members_shared_counts : FnScope ["self", "size", "at"] ["self", "size"] (defScope s_Members_shared_counts) := ⟨rfl, rfl, rfl, by decide +kernel, rfl, by decide +kernel, by decide +kernel⟩
abbrev s_Members_next_rows : Stmt := inClass (topS 20) 3
theorem sc_Members_next_rows : FnScope ["self", "shared", "members", "size", "others", "at"] ["self", "shared", "members", "size"] (defScope s_Members_next_rows) := ⟨rfl, rfl, rfl, by decide +kernel, rfl, by decide +kernel, by decide +kernel⟩
abbrev s_Members_next_sets : Stmt := inClass (topS 20) 4
theorem sc_Members_next_sets : FnScope ["self", "members", "size", "total", "equal", "others", "last", "ways", "at"] ["self", "members", "size"] (defScope s_Members_next_sets) := ⟨rfl, rfl, rfl, by decide +kernel, rfl, by decide +kernel, by decide +kernel⟩
abbrev s_Members_rests : Stmt := inClass (topS 20) 5
theorem sc_Members_rests : FnScope ["self", "placed", "least", "size"] ["self", "placed", "least", "size"] (defScope s_Members_rests) := ⟨rfl, rfl, rfl, by decide +kernel, rfl, by decide +kernel, by decide +kernel⟩
abbrev s_Members_exactly : Stmt := inClass (topS 20) 6
theorem sc_Members_exactly : FnScope ["self", "members", "size"] ["self", "members", "size"] (defScope s_Members_exactly) := ⟨rfl, rfl, rfl, by decide +kernel, rfl, by decide +kernel, by decide +kernel⟩
abbrev s_Members_rings : Stmt := inClass (topS 20) 7
theorem sc_Members_rings : FnScope ["self", "members", "size", "total", "times", "factor"] ["self", "members", "size"] (defScope s_Members_rings) := ⟨rfl, rfl, rfl, by decide +kernel, rfl, by decide +kernel, by decide +kernel⟩
abbrev s_Members_within : Stmt := inClass (topS 20) 8
theorem sc_Members_within : FnScope ["self", "least", "most", "size", "greatest", "last", "members"] ["self", "least", "most", "size"] (defScope s_Members_within) := ⟨rfl, rfl, rfl, by decide +kernel, rfl, by decide +kernel, by decide +kernel⟩
abbrev s_check_counts : Stmt := topS 23
theorem sc_check_counts : FnScope ["counts", "item"] ["counts"] (defScope s_check_counts) := ⟨rfl, rfl, rfl, by decide +kernel, rfl, by decide +kernel, by decide +kernel⟩
abbrev s_pairs : Stmt := topS 24
theorem sc_pairs : FnScope ["first", "second", "labelled", "size"] ["first", "second", "labelled"] (defScope s_pairs) := ⟨rfl, rfl, rfl, by decide +kernel, rfl, by decide +kernel, by decide +kernel⟩
abbrev s_rows : Stmt := topS 25
theorem sc_rows : FnScope ["counts", "least", "most", "labelled"] ["counts", "least", "most", "labelled"] (defScope s_rows) := ⟨rfl, rfl, rfl, by decide +kernel, rfl, by decide +kernel, by decide +kernel⟩
abbrev s_sets : Stmt := topS 26
theorem sc_sets : FnScope ["counts", "least", "most", "labelled"] ["counts", "least", "most", "labelled"] (defScope s_sets) := ⟨rfl, rfl, rfl, by decide +kernel, rfl, by decide +kernel, by decide +kernel⟩
abbrev s_rings : Stmt := topS 27
theorem sc_rings : FnScope ["counts", "least", "most", "labelled"] ["counts", "least", "most", "labelled"] (defScope s_rings) := ⟨rfl, rfl, rfl, by decide +kernel, rfl, by decide +kernel, by decide +kernel⟩
abbrev s__counts_within : Stmt := topS 28
theorem sc__counts_within : FnScope ["word", "counts", "least", "most", "labelled", "told", "made", "size"] ["word", "counts", "least", "most", "labelled"] (defScope s__counts_within) := ⟨rfl, rfl, rfl, by decide +kernel, rfl, by decide +kernel, by decide +kernel⟩
abbrev s__law_draws : Stmt := topS 30
theorem sc__law_draws : FnScope ["script", "many", "draws", "seed", "cell", "number", "k"] ["script", "many"] (defScope s__law_draws) := ⟨rfl, rfl, rfl, by decide +kernel, rfl, by decide +kernel, by decide +kernel⟩
abbrev s__law_binomial : Stmt := topS 31
theorem sc__law_binomial : FnScope ["n", "k", "total", "j"] ["n", "k"] (defScope s__law_binomial) := ⟨rfl, rfl, rfl, by decide +kernel, rfl, by decide +kernel, by decide +kernel⟩
abbrev s__law_rows : Stmt := topS 32
theorem sc__law_rows : FnScope ["counts", "members", "labelled", "found", "j", "longer", "n", "total", "k"] ["counts", "members", "labelled"] (defScope s__law_rows) := ⟨rfl, rfl, rfl, by decide +kernel, rfl, by decide +kernel, by decide +kernel⟩
abbrev s__law_begun : Stmt := topS 33
theorem sc__law_begun : FnScope ["counts", "rest", "found", "n", "k"] ["counts", "rest"] (defScope s__law_begun) := ⟨rfl, rfl, rfl, by decide +kernel, rfl, by decide +kernel, by decide +kernel⟩
abbrev s__law_bag : Stmt := topS 34
theorem sc__law_bag : FnScope ["counts", "most", "table", "size", "later", "m", "row", "n", "total", "t"] ["counts", "most"] (defScope s__law_bag) := ⟨rfl, rfl, rfl, by decide +kernel, rfl, by decide +kernel, by decide +kernel⟩
abbrev s__law_common : Stmt := topS 35
theorem sc__law_common : FnScope ["a", "b", "j"] ["a", "b"] (defScope s__law_common) := ⟨rfl, rfl, rfl, by decide +kernel, rfl, by decide +kernel, by decide +kernel⟩
abbrev s__law_turned : Stmt := topS 36
theorem sc__law_turned : FnScope ["counts", "members", "found", "turn", "g", "base", "n", "one"] ["counts", "members"] (defScope s__law_turned) := ⟨rfl, rfl, rfl, by decide +kernel, rfl, by decide +kernel, by decide +kernel⟩
abbrev s__law_members : Stmt := topS 37
theorem sc__law_members : FnScope ["counts", "word", "m", "labelled"] ["counts", "word", "m", "labelled"] (defScope s__law_members) := ⟨rfl, rfl, rfl, by decide +kernel, rfl, by decide +kernel, by decide +kernel⟩
abbrev s_law : Stmt := topS 38
theorem sc_law : FnScope ["script", "draws", "size", "labelled", "first", "second", "word", "least", "most", "due", "m", "more", "kept", "found", "j", "n", "k", "one"] ["script"] (defScope s_law) := ⟨rfl, rfl, rfl, by decide +kernel, rfl, by decide +kernel, by decide +kernel⟩
end SM

namespace SM
open PySem L2
/-! ### calls: what stands at a name and what it promises -/
structure Cal (P : Program) (w : World) (K : PySem.W.Frag) (mg : Str → Option Value) (base : Heap) (CX : CXT) (k : Nat) (x : Str) (ps : List Str) (sp : Sp) : Prop where
  ex : ∃ (f : Addr) (fd : FuncData), mg x = some (.ref f) ∧ PySem.W.keepIn K (.ref f) = true ∧ Binds K fd ps [] ∧ FnOk P w K mg base CX k f fd ps sp
def Df (K : PySem.W.Frag) (mg : Str → Option Value) (x : Str) (st : Stmt) (ps : List Str) : Prop :=
  ∃ (f : Addr) (fd : FuncData), mg x = some (.ref f) ∧ Fun K x x st f fd ∧ Binds K fd ps []
/-- a method of the class at C -/
structure CalM (P : Program) (w : World) (K : PySem.W.Frag) (mg : Str → Option Value) (base : Heap) (CX : CXT) (k : Nat) (C : Addr) (m : Str) (ps : List Str) (sp : Sp) : Prop where
  ex : ∃ (f : Addr) (fd : FuncData), Meth K C m f ∧ Binds K fd ps [] ∧ FnOk P w K mg base CX k f fd ps sp
def DfM (K : PySem.W.Frag) (C : Addr) (m qual : Str) (st : Stmt) (ps : List Str) : Prop :=
  ∃ (f : Addr) (fd : FuncData), Meth K C m f ∧ Fun K m qual st f fd ∧ Binds K fd ps []
/-- an own error class without more -/
structure Exc (K : PySem.W.Frag) (mg : Str → Option Value) (x : Str) (C : Addr) : Prop where
  g : mg x = some (.ref C)
  x : PySem.W.excIn K C [.type "ValueError", .type "Exception", .type "BaseException", .type "object"] "ValueError.__new__" = true
  k : PySem.W.keepIn K (.ref C) = true
  b : PySem.W.subIn K (.ref C) (.type "BaseException") = some true
  t : PySem.W.typeIn K (.ref C) = some (.type "type")
/-! ### more calls of built-in functions -/
section
variable {X : Cx}
def rComb : List V → Hp → VK → Prop := fun vs H Q => ∃ a b : Int, vs = [.int a, .int b] ∧ 0 ≤ a ∧ 0 ≤ b ∧ a < 18000 ∧ (PySem.W.McComb a b (PySem.W.mcComb a b) → Q (.int (PySem.W.mcComb a b)) H)
theorem cr_comb : CallR X (.builtin "math.comb") rComb := by
  intro pins s σ H vs us Q I r h
  obtain ⟨a, b, rfl, h1, h2, h3, q⟩ := h
  obtain ⟨t, u, rfl⟩ := Vals.int2 r
  exact PySem.W.mc_comb h1 h2 (by omega) (.inr (by omega)) fun z => ⟨.int _, H, I.tok _, ⟨_, rfl⟩, q z⟩
def rFact : List V → Hp → VK → Prop := fun vs H Q => ∃ a : Int, vs = [.int a] ∧ 0 ≤ a ∧ a ≤ 20000 ∧ Q (.int ((Builtin.Math.factorialNat a.toNat : Nat) : Int)) H
theorem cr_factorial : CallR X (.builtin "math.factorial") rFact := by
  intro pins s σ H vs us Q I r h
  obtain ⟨a, rfl, h1, h2, q⟩ := h
  obtain ⟨u, rfl, t, rfl⟩ := vals1 r
  exact PySem.W.mc_factorial h1 h2 fun z => ⟨.int _, H, I.tok _, ⟨_, rfl⟩, q⟩
end
theorem ix_listB {X : Cx} {K : PySem.W.Frag} (h : X.K = K) : IxR X (rIxL K) := by
  subst h
  exact ix_list
theorem call_lenB {X : Cx} {K : PySem.W.Frag} (h : X.K = K) : CallR X (.builtin "len") (fun xs H Q => ∃ p ys, xs = [.ref p] ∧ (SqL K H p ys ∨ SqT K H p ys) ∧ Q (.int ys.length) H) := by
  subst h
  exact call_len_seq
theorem cr_sumB {X : Cx} {K : PySem.W.Frag} (h : X.K = K) (hc : X.calm = true) : CallR X (.builtin "sum") (rSum K) := by
  subst h
  exact cr_sum hc
theorem pe_fldB {X : Cx} {K : PySem.W.Frag} {e : Expr} {ta : TE} {f : Str} {pos : Pos} (h : X.K = K) (he : PE X e ta) (hb : attributeBase e f X.env (eval e X.env) = eval e X.env) : PE X (.Attribute e f pos) (tFld K ta f) := by
  subst h
  exact pe_fld he hb
/-- an expression that is never reached -/
theorem pe_never {X : Cx} {e : Expr} : PE X e (fun _ _ _ => False) := ⟨fun _ _ _ _ _ _ h => h.elim⟩
/-! ### heaps -/
theorem same_upd {H : Hp} {p : Addr} {o : HO} (h : H p = none) : Same H (upd H p o) := fun b x e => by
  rw [upd_ne (ne_of_none e h)]
  exact e
theorem same_upd' {H H' : Hp} {p : Addr} {o : HO} (e : Same H H') (h : H p = none) : Same H (upd H' p o) := fun b x q => by
  rw [upd_ne (ne_of_none q h)]
  exact e b x q
theorem sq_of {K : PySem.W.Frag} {H : Hp} {a : Addr} {xs : List V} (h : H a = some (.lst xs)) : SqL K H a xs := .inl (.inl h)
theorem st_of {K : PySem.W.Frag} {H : Hp} {a : Addr} {xs : List V} (h : H a = some (.tup xs)) : SqT K H a xs := .inl (.inl h)
theorem same_t {K : PySem.W.Frag} {H H' : Hp} {a : Addr} {xs : List V} (e : Same H H') (h : SqT K H a xs) : SqT K H' a xs := by
  rcases h with (h | ⟨o, h⟩) | h
  · exact .inl (.inl (e _ _ h))
  · exact .inl (.inr ⟨o, e _ _ h⟩)
  · exact .inr h
theorem sz (n : Nat) (h : n ≤ 100000) : n ≤ sizeLine := Nat.le_trans h (by decide)
theorem szl (n : Nat) (h : n < 100000) : n < sizeLine := Nat.lt_of_lt_of_le h (by decide)
/-! ### None or an int -/
def oV : Option Int → V
  | none => .non
  | some i => .int i
theorem ints_of {ns : List Int} {i : Nat} {y : V} (h : (ns.map V.int)[i]? = some y) : ∃ z, ns[i]? = some z ∧ y = V.int z := by
  rw [List.getElem?_map] at h
  cases e : ns[i]? with
  | none => rw [e] at h; cases h
  | some z => rw [e] at h; exact ⟨z, rfl, (Option.some.inj h).symm⟩
theorem ints_at {ns : List Int} {i : Nat} (h : i < ns.length) : (ns.map V.int)[i]? = some (.int ns[i]) := by
  rw [List.getElem?_map, List.getElem?_eq_getElem h]; rfl
theorem take_more {α : Type} {l : List α} {i : Nat} {x : α} (h : l[i]? = some x) : l.take (i + 1) = l.take i ++ [x] := by
  rw [List.take_add_one, h]; rfl
end SM

namespace SM
open PySem L2
structure Ad where
  cMembers : Addr
  aMW : Addr
  vLAB : Value
  vUNL : Value
  vRIG : Value
  vMOST : Value
structure Tx (K : PySem.W.Frag) (mg : Str → Option Value) (W : Ad) : Prop where
  n_isinstance : mg "isinstance" = none
  n_int : mg "int" = none
  n_bool : mg "bool" = none
  n_list : mg "list" = none
  n_len : mg "len" = none
  n_abs : mg "abs" = none
  n_any : mg "any" = none
  n_sum : mg "sum" = none
  n_range : mg "range" = none
  n_max : mg "max" = none
  n_min : mg "min" = none
  n_ValueError : mg "ValueError" = none
  m_comb : mg "comb" = some (.builtin "math.comb")
  m_factorial : mg "factorial" = some (.builtin "math.factorial")
  m_gcd : mg "gcd" = some (.builtin "math.gcd")
  g_LABELLED : mg "LABELLED" = some W.vLAB
  r_LABELLED : RelV (.str "labelled") W.vLAB
  g_UNLABELLED : mg "UNLABELLED" = some W.vUNL
  r_UNLABELLED : RelV (.str "unlabelled") W.vUNL
  g_RIGID : mg "RIGID" = some W.vRIG
  r_RIGID : RelV (.str "rigid") W.vRIG
  g_MOST_ITEMS : mg "MOST_ITEMS" = some W.vMOST
  r_MOST_ITEMS : RelV (.int 61) W.vMOST
  g_MEMBER_WORDS : mg "MEMBER_WORDS" = some (.ref W.aMW)
  r_MEMBER_WORDS : RelV (.ref W.aMW) (.ref W.aMW)
  s_MW : ∀ H, SqT K H W.aMW [.str "row", .str "set", .str "ring"]
  g_Members : mg "Members" = some (.ref W.cMembers)
  cl_Members : Cls K W.cMembers
  f_word : NoAttr K W.cMembers "word"
  f_most : NoAttr K W.cMembers "most"
  f_counts : NoAttr K W.cMembers "counts"
  f_mode : NoAttr K W.cMembers "mode"
  f_table : NoAttr K W.cMembers "table"
section
variable {P : Program} {w : World} {K : PySem.W.Frag} {mg : Str → Option Value} {base : Heap} {W : Ad}
/-! ### is_whole -/
def spWhole : Sp := fun vs H Q _ => ∃ x, vs = [x] ∧ ((∃ i, x = .int i ∧ Q (.bl true) H) ∨ (∃ b, x = .bl b ∧ Q (.bl false) H))
theorem ok_is_whole (T : Tx K mg W) (D : Df K mg "is_whole" s_is_whole ["value"]) : Cal P w K mg base CX0 1 "is_whole" ["value"] spWhole := by
  obtain ⟨f, fd, g, F, b⟩ := D
  refine ⟨f, fd, g, F.kp, b, F.ok sc_is_whole (fun vs H Q E h => ?_) (fun cdv A outer s H vs Q E hr h => ?_)⟩
  · obtain ⟨x, rfl, _⟩ := h
    rfl
  · obtain ⟨x, rfl, h⟩ := h
    refine ⟨_, (pss_one (ps_ret (pe_and (pe_callB call_isi (by rfl) T.n_isinstance (by decide +kernel) (pa_cons (pv 0) (pa_cons (pe_bltn (v := .ty "int") (by rfl) T.n_int (by decide +kernel) rfl) pa_nil))) (pe_one (pe_not (pe_callB call_isi (by rfl) T.n_isinstance (by decide +kernel) (pa_cons (pv 0) (pa_cons (pe_bltn (v := .ty "bool") (by rfl) T.n_bool (by decide +kernel) rfl) pa_nil)))))))), ?_⟩
    rcases h with ⟨i, rfl, q⟩ | ⟨c, rfl, q⟩
    · refine ⟨_, rfl, _, _, _, _, true, rfl, .ty "int", .base (.int i), kit_ty (by decide +kernel), _, rfl, iteT ?_⟩
      refine ⟨_, rfl, _, _, _, _, false, rfl, .ty "bool", .base (.int i), kit_ty (by decide +kernel), _, rfl, ?_⟩
      exact q
    · refine ⟨_, rfl, _, _, _, _, true, rfl, .ty "int", .base (.bl c), kit_ty (by decide +kernel), _, rfl, iteT ?_⟩
      refine ⟨_, rfl, _, _, _, _, true, rfl, .ty "bool", .base (.bl c), kit_ty (by decide +kernel), _, rfl, ?_⟩
      exact q
/-! ### are_bounds -/
def lowB (w : Str) : Int := if w = "ring" then 1 else 0
def upB (l : Int) : Option Int → Bool
  | none => true
  | some m => decide (l ≤ m)
def areB (w : Str) (l : Int) (m : Option Int) : Bool := decide (lowB w ≤ l) && upB l m
theorem areB_low {w : Str} {l : Int} {m : Option Int} (h : l < lowB w) : areB w l m = false := by
  unfold areB
  rw [decide_eq_false (by omega), Bool.false_and]
theorem areB_up {w : Str} {l : Int} {m : Option Int} (h : ¬ l < lowB w) : areB w l m = upB l m := by
  unfold areB
  rw [decide_eq_true (by omega), Bool.true_and]
def spBounds : Sp := fun vs H Q _ => ∃ (w : Str) (l : Int) (m : Option Int), vs = [.str w, .int l, oV m] ∧ Q (.bl (areB w l m)) H
theorem ok_are_bounds (T : Tx K mg W) (D : Df K mg "are_bounds" s_are_bounds ["word", "least", "most"]) (C1 : Cal P w K mg base CX0 1 "is_whole" ["value"] spWhole) :
    Cal P w K mg base CX0 2 "are_bounds" ["word", "least", "most"] spBounds := by
  obtain ⟨f, fd, g, F, b⟩ := D
  obtain ⟨f1, fd1, g_is_whole, k_is_whole, b_is_whole, G_is_whole⟩ := C1.ex
  refine ⟨f, fd, g, F.kp, b, F.ok sc_are_bounds (fun vs H Q E h => ?_) (fun cdv A outer s H vs Q E hr h => ?_)⟩
  · obtain ⟨w, l, m, rfl, _⟩ := h
    rfl
  · obtain ⟨wd, l, m, rfl, q⟩ := h
    refine ⟨_, (pss_cons (ps_set (i := 3) sc_are_bounds.nd rfl (.inl rfl) (pe_ifExp (pt_cmpR op_eq (pv 0) pe_str (nomark _)) pe_int pe_int))
  (pss_cons (ps_if (PW.pt (pw_or (pt_not (pt_val (pe_call G_is_whole (hr.mono (by decide)) (by rfl) g_is_whole k_is_whole b_is_whole .nil pass0 (pa_cons (pv 1) pa_nil)))) (pw_or1 (pt_cmpR op_lt (pv 1) (pv 3) (nomark _))))) (
    (pss_one (ps_ret pe_bl))) (pss_nil))
  (pss_one (ps_ret (pe_or (pe_cmp (pc_isN (pv 2)) rfl) (pe_one (pe_and (pe_call G_is_whole (hr.mono (by decide)) (by rfl) g_is_whole k_is_whole b_is_whole .nil pass0 (pa_cons (pv 2) pa_nil)) (pe_one (pe_cmpR op_ge (pv 2) (pv 1) (nomark _)))))))))), ?_⟩
    refine ⟨_, rfl, rfl, _, rfl, ?_⟩
    have step : ∀ lo : Int, lo = lowB wd → ∀ σ : St, σ = [some (.str wd), some (.int l), some (oV m), some (.int lo)] → 
      (tIfS (tOr (tNot (tB (tCall spWhole [] E0 (tCons (tVar 1) tNil)))) (tTest (tOp (rI0 fun i j => .bl (decide (i < j))) (tVar 1) (tVar 3)))) (tRet (tC (.bl false))) tNext)
        { nx := (tRet (tOrV (tIsN (tVar 2)) (tAndV (tCall spWhole [] E0 (tCons (tVar 2) tNil)) (tOp (rI0 fun i j => .bl (decide (j ≤ i))) (tVar 2) (tVar 1))))) { nx := fun _ H' => Q .non H', rt := Q }, rt := Q } σ H := by
      intro lo e σ es
      subst es e
      refine ⟨_, rfl, _, rfl, .inl ⟨l, rfl, _, rfl, iteF ?_⟩⟩
      refine ⟨_, rfl, _, rfl, _, _, rfl, rfl, _, rfl, ite2 (fun c => ?_) (fun c => ?_)⟩
      · have c' := of_decide_eq_true c
        have e := areB_low (m := m) c'
        rw [e] at q
        exact q
      · have c' : ¬ l < lowB wd := fun z => c (decide_eq_true z)
        have e1 := areB_up (m := m) c'
        rw [e1] at q
        cases m with
        | none => exact ⟨_, rfl, _, rfl, iteT q⟩
        | some m =>
          refine ⟨_, rfl, false, rfl, iteF ?_⟩
          exact ⟨_, rfl, _, rfl, .inl ⟨m, rfl, true, rfl, iteT ⟨_, rfl, _, rfl, _, _, rfl, rfl, q⟩⟩⟩
    refine ite2 (fun c => ?_) (fun c => ?_)
    · have c' : V.str wd = V.str "ring" := of_decide_eq_true c
      exact step 1 (by unfold lowB; rw [if_pos (V.str.inj c')]) _ rfl
    · have c' : ¬ wd = "ring" := fun z => c (decide_eq_true (by rw [z]))
      exact step 0 (by unfold lowB; rw [if_neg c']) _ rfl
/-! ### more_than_one, mode_of -/
def moreB : Option Int → Bool
  | none => true
  | some m => decide (1 < m)
def spMore : Sp := fun vs H Q _ => ∃ (m : Option Int), vs = [oV m] ∧ Q (.bl (moreB m)) H
theorem ok_more (T : Tx K mg W) (D : Df K mg "more_than_one" s_more_than_one ["most"]) : Cal P w K mg base CX0 1 "more_than_one" ["most"] spMore := by
  obtain ⟨f, fd, g, F, b⟩ := D
  refine ⟨f, fd, g, F.kp, b, F.ok sc_more_than_one (fun vs H Q E h => ?_) (fun cdv A outer s H vs Q E hr h => ?_)⟩
  · obtain ⟨m, rfl, _⟩ := h
    rfl
  · obtain ⟨m, rfl, q⟩ := h
    refine ⟨_, (pss_one (ps_ret (pe_or (pe_cmp (pc_isN (pv 0)) rfl) (pe_one (pe_cmpR op_gt (pv 0) pe_int (nomark _)))))), ?_⟩
    cases m with
    | none => exact ⟨_, rfl, true, rfl, iteT q⟩
    | some m => exact ⟨_, rfl, false, rfl, iteF ⟨_, rfl, _, _, rfl, rfl, q⟩⟩
def modeS (b : Bool) : Str := if b then "labelled" else "unlabelled"
def spMode : Sp := fun vs H Q _ => ∃ (b : Bool), vs = [.bl b] ∧ Q (.str (modeS b)) H
theorem ok_mode (T : Tx K mg W) (D : Df K mg "mode_of" s_mode_of ["labelled"]) : Cal P w K mg base CX0 1 "mode_of" ["labelled"] spMode := by
  obtain ⟨f, fd, g, F, b⟩ := D
  refine ⟨f, fd, g, F.kp, b, F.ok sc_mode_of (fun vs H Q E h => ?_) (fun cdv A outer s H vs Q E hr h => ?_)⟩
  · obtain ⟨m, rfl, _⟩ := h
    rfl
  · obtain ⟨m, rfl, q⟩ := h
    refine ⟨_, (pss_one (ps_ret (pe_ifExp (pt_val (pv 0)) (pe_glob (by rfl) T.g_LABELLED T.r_LABELLED) (pe_glob (by rfl) T.g_UNLABELLED T.r_UNLABELLED)))), ?_⟩
    cases m with
    | true => exact ⟨_, rfl, true, rfl, iteT q⟩
    | false => exact ⟨_, rfl, false, rfl, iteF q⟩
end
end SM

namespace SM
open PySem L2
section
variable {P : Program} {w : World} {K : PySem.W.Frag} {mg : Str → Option Value} {base : Heap} {W : Ad}
/-! ### check_counts -/
def spCheck : Sp := fun vs H Q E => ∃ (a : Addr) (cs : List Int), vs = [.ref a] ∧ H a = some (.lst (cs.map V.int)) ∧ (∀ x ∈ cs, 0 ≤ x) ∧ 1 ≤ cs.length ∧ cs.length ≤ 61 ∧ ∀ H', Same H H' → Q .non H'
theorem ok_check (T : Tx K mg W) (D : Df K mg "check_counts" s_check_counts ["counts"]) (C1 : Cal P w K mg base CX0 1 "is_whole" ["value"] spWhole) :
    Cal P w K mg base CX0 2 "check_counts" ["counts"] spCheck := by
  obtain ⟨f, fd, g, F, b⟩ := D
  obtain ⟨f1, fd1, g_is_whole, k_is_whole, b_is_whole, G_is_whole⟩ := C1.ex
  refine ⟨f, fd, g, F.kp, b, F.ok sc_check_counts (fun vs H Q E h => ?_) (fun cdv A outer s H vs Q E hr h => ?_)⟩
  · obtain ⟨a, xs, rfl, _⟩ := h
    rfl
  · obtain ⟨a, cs, rfl, hA, hnn, h1, h61, k⟩ := h
    refine ⟨_, (pss_cons (ps_if (PW.pt (pw_or (pt_not (pt_val (pe_callB call_isi (by rfl) T.n_isinstance (by decide +kernel) (pa_cons (pv 0) (pa_cons (pe_bltn (v := .ty "list") (by rfl) T.n_list (by decide +kernel) rfl) pa_nil))))) (pw_or1 (pt_not (pt_chain op_le op_le pe_int (pe_callB call_len_seq (by rfl) T.n_len (by decide +kernel) (pa_cons (pv 0) pa_nil)) (pe_glob (by rfl) T.g_MOST_ITEMS T.r_MOST_ITEMS)))))) (
    (pss_one (ps_never))) (pss_nil))
  (pss_one (ps_if (pt_val (pe_callB (cr_any rfl) (by rfl) T.n_any (by decide +kernel) (pa_cons (pe_lc (own := [("item", 1)]) rfl sc_check_counts.nd (pi_list (pv 0)) (blkOk_by (own := [("item", 1)]) (N := ["counts", "item"]) (sc := defScope s_check_counts) (by decide +kernel)) (fun _ _ _ _ _ => (pg_name (i := 1) sc_check_counts.nd rfl (.inl rfl))) (fun _ _ _ _ _ => pts_nil) (fun _ _ _ _ _ => (pe_or (pe_not (pe_call G_is_whole (hr.mono (by decide)) (by rfl) g_is_whole k_is_whole b_is_whole .nil pass0 (pa_cons (pv 1) pa_nil))) (pe_one (pe_cmpR op_lt (pv 1) pe_int (nomark _)))))) pa_nil))) (
    (pss_one (ps_never))) (pss_nil)))), ?_⟩
    refine ⟨_, rfl, _, _, _, _, true, rfl, .ty "list", .base (.lst hA), kit_ty (by decide +kernel), _, rfl, iteF ?_⟩
    refine ⟨_, rfl, a, _, rfl, .inl (sq_of hA), _, _, rfl, rfl, _, rfl, ?_⟩
    have el : (((cs.map V.int).length : Nat) : Int) = cs.length := by rw [List.length_map]
    rw [el]
    refine ite2 (fun c1 => ?_) (fun c1 => absurd (decide_eq_true (show (1 : Int) ≤ cs.length by omega)) c1)
    refine ⟨_, _, rfl, rfl, _, rfl, ite2 (fun c2 => ?_) (fun c2 => ?_)⟩
    · have c2' : ¬ ((cs.length : Int) ≤ 61) := by simpa using c2
      omega
    · refine ⟨_, rfl, a, rfl, ⟨_, sq_of hA⟩, fun Dn hD => lc_list (K := K) (a := a) (xs := cs.map V.int) (fun i H' => Same H H' ∧ H' Dn = some (.lst ((List.replicate i false).map V.bl))) ⟨same_upd hD, upd_same⟩ (fun i H' _ h => sq_of (h.1 _ _ hA)) ?_ ?_⟩
      · rintro i x H' hi ⟨sm, hd⟩
        obtain ⟨z, hz, rfl⟩ := ints_of hi
        have hz0 := hnn z (List.mem_of_getElem? hz)
        have hil := (List.getElem?_eq_some_iff.mp hz).1
        refine ⟨rfl, ?_⟩
        rw [tYes, if_pos rfl]
        refine ⟨_, rfl, _, rfl, .inl ⟨z, rfl, true, rfl, false, rfl, iteF ?_⟩⟩
        refine ⟨_, rfl, _, _, rfl, rfl, _, hd, szl _ (by simp; omega), same_upd' sm hD, ?_⟩
        rw [upd_same, List.replicate_succ', List.map_append]
        show some (HO.lst (_ ++ [V.bl (decide (z < 0))])) = _
        rw [decide_eq_false (by omega)]; rfl
      · rintro H' ⟨sm, hd⟩
        refine ⟨Dn, List.replicate (cs.map V.int).length false, rfl, sq_of hd, _, rfl, ?_⟩
        have e : (List.replicate (cs.map V.int).length false).any id = false := by
          generalize (cs.map V.int).length = n
          induction n with
          | zero => rfl
          | succ j ih => rw [List.replicate_succ, List.any_cons, ih]; rfl
        rw [e]
        exact iteF (k H' sm)
end
end SM

namespace SM
open PySem L2
/-! ### comprehensions over a range: what is made, nothing else changed -/
theorem wipe1 (σ : St) (j : Nat) (v : Option V) : wipe ((wipe σ [j]).set j v) [j] = wipe σ [j] := by
  show ((σ.set j none).set j v).set j none = σ.set j none
  rw [List.set_set, List.set_set]
theorem lc_rangeF {lo : Int} {n : Nat} {j : Nat} {tt : TT} {te : TE} {σ : St} {H1 : Hp} {D : Addr} {Qd : Hp → Prop} (c : Nat → Bool) (f : Nat → V) (hn : n ≤ 100000 - 1) (hD : H1 D = none)
    (ht : ∀ i, i < n → ∀ H, Same H1 H → ∀ R : Bool → Hp → Prop, (∀ H', Same H H' → R (c i) H') → tt ((wipe σ [j]).set j (some (.int (lo + i)))) H R)
    (he : ∀ i, i < n → c i = true → ∀ H, Same H1 H → ∀ R : VK, (∀ H', Same H H' → R (f i) H') → te ((wipe σ [j]).set j (some (.int (lo + i)))) H R)
    (hd : ∀ H, Same H1 H → H D = some (.lst (((List.range n).filter c).map f)) → Qd H) :
    ∃ W : Nat → Nat → Hp → Prop, (∃ m, W 0 m (upd H1 D (.lst []))) ∧ ∀ i m H, W i m H →
      ((Itr lo n).stop i H ∧ Qd H) ∨ ((Itr lo n).go i H ∧ ∃ Nx : Hp → Prop, (∀ H', Nx H' → ∃ m', m' < m ∧ W (i + 1) m' H') ∧ ∀ x H', (Itr lo n).yld i H x H' → gName j x (wipe σ [j]) H' fun σ2 H2 => wipe σ2 [j] = wipe σ [j] ∧ tt σ2 H2 fun b H3 =>
        if b = true then te σ2 H3 fun y H4 => ∃ acc, H4 D = some (.lst acc) ∧ acc.length < sizeLine ∧ Nx (upd H4 D (.lst (acc ++ [y]))) else Nx H3) := by
  refine lc_range (fun i H => Same H1 H ∧ H D = some (.lst (((List.range i).filter c).map f))) ⟨same_upd hD, upd_same⟩ ?_ (fun H h => hd H h.1 h.2)
  rintro i H hi ⟨sm, hd'⟩
  refine ⟨wipe1 σ j _, ?_⟩
  refine ht i hi H sm _ fun H' s' => ?_
  have hd1 := s' _ _ hd'
  have sm1 : Same H1 H' := sm.trans s'
  cases e : c i with
  | false =>
    refine iteF ?_
    refine ⟨sm1, ?_⟩
    rw [List.range_succ, List.filter_append, List.map_append]
    simp [e, hd1]
  | true =>
    refine iteT ?_
    refine he i hi e H' sm1 _ fun H2 s2 => ⟨_, s2 _ _ hd1, szl _ ?_, same_upd' (sm1.trans s2) hD, ?_⟩
    · rw [List.length_map]
      have := List.length_filter_le c (List.range i)
      rw [List.length_range] at this
      omega
    · rw [upd_same, List.range_succ, List.filter_append, List.map_append]
      simp [e]
theorem lc_rangeM {lo : Int} {n : Nat} {j : Nat} {te : TE} {σ : St} {H1 : Hp} {D : Addr} {Qd : Hp → Prop} (f : Nat → V) (hn : n ≤ 100000 - 1) (hD : H1 D = none)
    (he : ∀ i, i < n → ∀ H, Same H1 H → ∀ R : VK, (∀ H', Same H H' → R (f i) H') → te ((wipe σ [j]).set j (some (.int (lo + i)))) H R)
    (hd : ∀ H, Same H1 H → H D = some (.lst ((List.range n).map f)) → Qd H) :
    ∃ W : Nat → Nat → Hp → Prop, (∃ m, W 0 m (upd H1 D (.lst []))) ∧ ∀ i m H, W i m H →
      ((Itr lo n).stop i H ∧ Qd H) ∨ ((Itr lo n).go i H ∧ ∃ Nx : Hp → Prop, (∀ H', Nx H' → ∃ m', m' < m ∧ W (i + 1) m' H') ∧ ∀ x H', (Itr lo n).yld i H x H' → gName j x (wipe σ [j]) H' fun σ2 H2 => wipe σ2 [j] = wipe σ [j] ∧ tYes σ2 H2 fun b H3 =>
        if b = true then te σ2 H3 fun y H4 => ∃ acc, H4 D = some (.lst acc) ∧ acc.length < sizeLine ∧ Nx (upd H4 D (.lst (acc ++ [y]))) else Nx H3) :=
  lc_rangeF (tt := tYes) (fun _ => true) f hn hD (fun i _ H _ R k => k H (.refl H)) (fun i hi _ => he i hi) (fun H s h => hd H s (by rw [h, List.filter_eq_self.mpr (fun _ _ => rfl)]))
section
variable {P : Program} {w : World} {K : PySem.W.Frag} {mg : Str → Option Value} {base : Heap} {W : Ad}
/-! ### divisors, totient -/
def divs (n : Nat) : List Int := ((List.range n).filter fun i => decide (n % (i + 1) = 0)).map fun i : Nat => ((i : Int) + 1)
def spDivs : Sp := fun vs H Q _ => ∃ n : Nat, vs = [.int n] ∧ n ≤ 10000 ∧ ∀ p H', Same H H' → H p = none → H' p = some (.lst ((divs n).map V.int)) → Q (.ref p) H'
theorem emod_nat (n i : Nat) : decide (V.int ((n : Int) % (1 + (i : Int))) = V.int 0) = decide (n % (i + 1) = 0) := by
  have e : ((n : Int) % (1 + (i : Int))) = ((n % (i + 1) : Nat) : Int) := by
    rw [show (1 + (i : Int)) = ((i + 1 : Nat) : Int) by omega]; rfl
  rw [e]
  by_cases h : n % (i + 1) = 0
  · rw [h]; simp
  · rw [decide_eq_false h]
    refine decide_eq_false fun z => h ?_
    have := V.int.inj z
    omega
theorem ok_divisors (T : Tx K mg W) (D : Df K mg "divisors" s_divisors ["number"]) : Cal P w K mg base CX0 1 "divisors" ["number"] spDivs := by
  obtain ⟨f, fd, g, F, b⟩ := D
  refine ⟨f, fd, g, F.kp, b, F.ok sc_divisors (fun vs H Q E h => ?_) (fun cdv A outer s H vs Q E hr h => ?_)⟩
  · obtain ⟨n, rfl, _⟩ := h
    rfl
  · obtain ⟨n, rfl, hn, q⟩ := h
    refine ⟨_, (pss_one (ps_ret (pe_lc (own := [("part", 1)]) rfl sc_divisors.nd (pi_range2 (by rfl) T.n_range (pa_cons pe_int (pa_cons (pe_op op_add (pv 0) pe_int) pa_nil))) (blkOk_by (own := [("part", 1)]) (N := ["number", "part"]) (sc := defScope s_divisors) (by decide +kernel)) (fun _ _ _ _ _ => (pg_name (i := 1) sc_divisors.nd rfl (.inl rfl))) (fun _ _ _ _ _ => pts_one (pt_cmpR op_eq (pe_op op_mod (pv 0) (pv 1)) pe_int (nomark _))) (fun _ _ _ _ _ => (pv 1))))), ?_⟩
    refine ⟨_, rfl, _, _, rfl, rfl, _, _, rfl, ⟨by omega, by omega, by omega, by omega⟩, fun Dn hD => ?_⟩
    have en : ((n : Int) + 1 - 1).toNat = n := by omega
    rw [en]
    refine lc_rangeF (lo := 1) (j := 1) (fun i => decide (n % (i + 1) = 0)) (fun i => V.int ((i : Int) + 1)) (by omega) hD (fun i hi H1 s1 R k => ?_) (fun i hi _ H1 s1 R k => ?_) (fun H1 s1 h1 => ?_)
    · refine ⟨_, rfl, _, rfl, _, _, rfl, rfl, (by show (0 : Int) < 1 + i; omega), rfl, _, rfl, ?_⟩
      have := k H1 (.refl H1)
      rw [← emod_nat] at this
      exact this
    · refine ⟨_, rfl, ?_⟩
      have := k H1 (.refl H1)
      rw [Int.add_comm] at this
      exact this
    · refine q Dn H1 s1 hD ?_
      rw [h1]
      unfold divs
      rw [List.map_map]
      rfl
def phi (n : Nat) : Int := (((List.range n).filter fun i => (Nat.gcd (i + 1) n == 1)).length : Int)
def spPhi : Sp := fun vs H Q _ => ∃ n : Nat, vs = [.int n] ∧ n ≤ 10000 ∧ ∀ H', Same H H' → Q (.int (phi n)) H'
theorem ok_totient (T : Tx K mg W) (D : Df K mg "totient" s_totient ["number"]) : Cal P w K mg base CX0 1 "totient" ["number"] spPhi := by
  obtain ⟨f, fd, g, F, b⟩ := D
  refine ⟨f, fd, g, F.kp, b, F.ok sc_totient (fun vs H Q E h => ?_) (fun cdv A outer s H vs Q E hr h => ?_)⟩
  · obtain ⟨n, rfl, _⟩ := h
    rfl
  · obtain ⟨n, rfl, hn, q⟩ := h
    refine ⟨_, (pss_one (ps_ret (pe_callB call_len_seq (by rfl) T.n_len (by decide +kernel) (pa_cons (pe_lc (own := [("part", 1)]) rfl sc_totient.nd (pi_range2 (by rfl) T.n_range (pa_cons pe_int (pa_cons (pe_op op_add (pv 0) pe_int) pa_nil))) (blkOk_by (own := [("part", 1)]) (N := ["number", "part"]) (sc := defScope s_totient) (by decide +kernel)) (fun _ _ _ _ _ => (pg_name (i := 1) sc_totient.nd rfl (.inl rfl))) (fun _ _ _ _ _ => pts_one (pt_cmpR op_eq (pe_callBfun cr_gcd (by rfl) T.m_gcd (pa_cons (pv 1) (pa_cons (pv 0) pa_nil))) pe_int (nomark _))) (fun _ _ _ _ _ => (pv 1))) pa_nil)))), ?_⟩
    refine ⟨_, rfl, _, _, rfl, rfl, _, _, rfl, ⟨by omega, by omega, by omega, by omega⟩, fun Dn hD => ?_⟩
    have en : ((n : Int) + 1 - 1).toNat = n := by omega
    rw [en]
    refine lc_rangeF (lo := 1) (j := 1) (fun i => (Nat.gcd (i + 1) n == 1)) (fun i => V.int ((i : Int) + 1)) (by omega) hD (fun i hi H1 s1 R k => ?_) (fun i hi _ H1 s1 R k => ?_) (fun H1 s1 h1 => ?_)
    · refine ⟨_, rfl, _, rfl, _, _, rfl, rfl, _, rfl, ?_⟩
      have := k H1 (.refl H1)
      have e : decide (V.int ((Nat.gcd (Int.natAbs (1 + (i : Int))) (Int.natAbs (n : Int)) : Nat) : Int) = V.int 1) = (Nat.gcd (i + 1) n == 1) := by
        rw [show Int.natAbs (1 + (i : Int)) = i + 1 by omega, Int.natAbs_natCast]
        by_cases h : Nat.gcd (i + 1) n = 1
        · rw [h]; rfl
        · rw [beq_eq_false_iff_ne.mpr h]
          refine decide_eq_false fun z => h ?_
          have := V.int.inj z
          omega
      rw [← e] at this
      exact this
    · refine ⟨_, rfl, ?_⟩
      have := k H1 (.refl H1)
      rw [Int.add_comm] at this
      exact this
    · refine ⟨Dn, _, rfl, .inl (sq_of h1), ?_⟩
      rw [List.length_map]
      exact q H1 s1
end
end SM

namespace SM
open PySem L2
/-! ### the mirror of the table -/
def shr (md : Str) (n i : Int) : Int := if md = "labelled" then PySem.W.mcComb n i else 1
def tab (md : Str) (cs : List Int) : Nat → Nat → Int
  | 0, n => if n = 0 then 1 else 0
  | 1, n => cs.getD n 0
  | m + 2, n => ((List.range (n - (m + 1))).map fun i : Nat => shr md n ((i : Int) + 1) * cs.getD (i + 1) 0 * tab md cs (m + 1) (n - (i + 1))).sum
theorem tab_small {md : Str} {cs : List Int} {m n : Nat} (h : n < m + 2) : tab md cs (m + 2) n = 0 := by
  rw [tab, show n - (m + 1) = 0 by omega]; rfl
/-- the numbers of first members -/
def shl (md : Str) (cs : List Int) (k : Nat) : List Int := 0 :: (List.range (k - 1)).map fun i : Nat => shr md k ((i : Int) + 1) * cs.getD (i + 1) 0
theorem shl_get {md : Str} {cs : List Int} {k i : Nat} (h : i + 1 < k) : (shl md cs k)[i + 1]? = some (shr md k ((i : Int) + 1) * cs.getD (i + 1) 0) := by
  unfold shl
  rw [List.getElem?_cons_succ, List.getElem?_map, List.getElem?_range (by omega)]; rfl
/-- counts that are not too great -/
def Bn (cs : List Int) : Prop := ∀ x ∈ cs, 0 ≤ x ∧ x ≤ 2 ^ 100
theorem Bn.get {cs : List Int} (h : Bn cs) (i : Nat) : 0 ≤ cs.getD i 0 ∧ cs.getD i 0 ≤ 2 ^ 100 := by
  rw [List.getD_eq_getElem?_getD]
  cases e : cs[i]? with
  | none => exact ⟨Int.le_refl 0, by decide⟩
  | some x => exact h x (List.mem_of_getElem? e)
def combOk : Bool := (List.range 62).all fun n => (List.range (n + 1)).all fun i => decide (0 ≤ PySem.W.mcComb n i) && decide (PySem.W.mcComb n i < 1152921504606846976)
theorem combOk_t : combOk = true := by decide +kernel
theorem shr_ok {md : Str} {n i : Nat} (hn : n ≤ 61) (hi : i ≤ n) : 0 ≤ shr md n i ∧ shr md n i < 1152921504606846976 := by
  unfold shr
  split
  · have h := combOk_t
    unfold combOk at h
    rw [List.all_eq_true] at h
    have h1 := h n (List.mem_range.mpr (by omega))
    rw [List.all_eq_true] at h1
    have h2 := h1 i (List.mem_range.mpr (by omega))
    rw [Bool.and_eq_true, decide_eq_true_eq, decide_eq_true_eq] at h2
    exact h2
  · exact ⟨by decide, by decide⟩
theorem nb {v : Int} {a : Nat} (h0 : 0 ≤ v) (h1 : v ≤ 2 ^ a) : v.natAbs < 2 ^ (a + 1) := by
  have e : ((2 : Int) ^ a) = ((2 ^ a : Nat) : Int) := by rw [Int.natCast_pow]; rfl
  rw [e] at h1
  have : 0 < 2 ^ a := Nat.pow_pos (by decide)
  rw [Nat.pow_succ]
  omega
theorem pow_mul_le {x y : Int} {a b : Nat} (h0 : 0 ≤ x) (hx : x ≤ 2 ^ a) (k0 : 0 ≤ y) (hy : y ≤ 2 ^ b) : 0 ≤ x * y ∧ x * y ≤ 2 ^ (a + b) :=
  ⟨Int.mul_nonneg h0 k0, by rw [Int.pow_add]; exact Int.mul_le_mul hx hy k0 (Int.le_of_lt (Int.pow_pos (by decide)))⟩
theorem pow_le {a b : Nat} (h : a ≤ b) : (2 : Int) ^ a ≤ 2 ^ b := by
  have := Nat.pow_le_pow_right (n := 2) (by decide) h
  have e : ∀ c : Nat, ((2 : Int) ^ c) = ((2 ^ c : Nat) : Int) := fun c => by rw [Int.natCast_pow]; rfl
  rw [e, e]
  omega
theorem sum_le {B : Int} : ∀ {l : List Int}, (∀ x ∈ l, 0 ≤ x ∧ x ≤ B) → 0 ≤ l.sum ∧ l.sum ≤ l.length * B
  | [], _ => ⟨Int.le_refl 0, by simp⟩
  | x :: r, h => by
    obtain ⟨a, b⟩ := sum_le (fun y hy => h y (List.mem_cons_of_mem _ hy))
    obtain ⟨c, d⟩ := h x List.mem_cons_self
    rw [List.sum_cons, List.length_cons]
    refine ⟨Int.add_nonneg c a, ?_⟩
    have : ((r.length + 1 : Nat) : Int) * B = r.length * B + B := by
      rw [Int.natCast_add, Int.add_mul]; simp
    omega
/-- a sum of at most 61 numbers -/
theorem sum61 {a : Nat} {l : List Int} (hl : l.length ≤ 64) (h : ∀ x ∈ l, 0 ≤ x ∧ x ≤ 2 ^ a) : 0 ≤ l.sum ∧ l.sum ≤ 2 ^ (a + 6) := by
  obtain ⟨p, q⟩ := sum_le h
  refine ⟨p, Int.le_trans q ?_⟩
  rw [Int.pow_add, Int.mul_comm]
  exact Int.mul_le_mul_of_nonneg_left (by show (l.length : Int) ≤ 2 ^ 6; omega) (Int.le_of_lt (Int.pow_pos (by decide)))
theorem shr_p {md : Str} {n i : Nat} (hn : n ≤ 61) (hi : i ≤ n) : 0 ≤ shr md n i ∧ shr md n i ≤ 2 ^ 60 := by
  obtain ⟨a, b⟩ := shr_ok (md := md) hn hi
  exact ⟨a, by omega⟩
theorem shr_mul {md : Str} {n i : Nat} {cs : List Int} (hn : n ≤ 61) (hi : i ≤ n) (h : Bn cs) : 0 ≤ shr md n i * cs.getD i 0 ∧ shr md n i * cs.getD i 0 ≤ 2 ^ 160 :=
  pow_mul_le (a := 60) (b := 100) (shr_p hn hi).1 (shr_p hn hi).2 (h.get i).1 (h.get i).2
theorem tab_le {md : Str} {cs : List Int} (h : Bn cs) : ∀ (m n : Nat), n ≤ 61 → 0 ≤ tab md cs m n ∧ tab md cs m n ≤ 2 ^ (170 * m)
  | 0, n, _ => by
    rw [tab]
    split <;> exact ⟨by decide, by decide⟩
  | 1, n, _ => by
    rw [tab]
    exact ⟨(h.get n).1, Int.le_trans (h.get n).2 (pow_le (by decide))⟩
  | m + 2, n, hn => by
    rw [tab]
    have := sum61 (a := 160 + 170 * (m + 1)) (l := (List.range (n - (m + 1))).map fun i : Nat => shr md n ((i : Int) + 1) * cs.getD (i + 1) 0 * tab md cs (m + 1) (n - (i + 1))) (by simp; omega) (fun x hx => by
      obtain ⟨i, hi, rfl⟩ := List.mem_map.mp hx
      have hi' := List.mem_range.mp hi
      have h1 := shr_mul (md := md) (n := n) (i := i + 1) hn (by omega) h
      have h2 := tab_le (md := md) h (m + 1) (n - (i + 1)) (by omega)
      exact pow_mul_le h1.1 h1.2 h2.1 h2.2)
    exact ⟨this.1, Int.le_trans this.2 (pow_le (by omega))⟩
/-! ### sets without labels -/
def hs (cs : List Int) : Nat → Nat → Int
  | 0, n => if n = 0 then 1 else 0
  | 1, n => cs.getD n 0
  | m + 2, n => if n < m + 2 then 0 else ((List.range (m + 2)).map fun i : Nat => ((List.range ((n - (m + 2)) / (i + 1) + 1)).map fun j : Nat => cs.getD (j + 1) 0 * hs cs (m + 1 - i) (n - (i + 1) * (j + 1))).sum).sum / ((m : Int) + 2)
termination_by m _ => m
decreasing_by omega
theorem hs_0 {cs : List Int} {n : Nat} : hs cs 0 n = if n = 0 then 1 else 0 := by rw [hs]
theorem hs_1 {cs : List Int} {n : Nat} : hs cs 1 n = cs.getD n 0 := by rw [hs]
theorem hs_2 {cs : List Int} {m n : Nat} (h : ¬ n < m + 2) : hs cs (m + 2) n = ((List.range (m + 2)).map fun i : Nat => ((List.range ((n - (m + 2)) / (i + 1) + 1)).map fun j : Nat => cs.getD (j + 1) 0 * hs cs (m + 1 - i) (n - (i + 1) * (j + 1))).sum).sum / ((m : Int) + 2) := by
  rw [hs, if_neg h]
theorem hs_small {cs : List Int} {m n : Nat} (h : n < m + 2) : hs cs (m + 2) n = 0 := by rw [hs, if_pos h]
theorem ediv_le {x b : Int} {a : Nat} (h0 : 0 ≤ x) (hx : x ≤ 2 ^ a) (hb : 0 < b) : 0 ≤ x / b ∧ x / b ≤ 2 ^ a :=
  ⟨Int.ediv_nonneg h0 (Int.le_of_lt hb), Int.le_trans (Int.ediv_le_self _ h0) hx⟩
theorem last_le {n m i : Nat} (h : m ≤ n) (hm : 0 < m) : (n - m) / (i + 1) + 1 ≤ n := by
  have := Nat.div_le_self (n - m) (i + 1)
  omega
theorem hs_le {cs : List Int} (h : Bn cs) : ∀ (m n : Nat), n ≤ 61 → 0 ≤ hs cs m n ∧ hs cs m n ≤ 2 ^ (170 * m) := by
  intro m
  induction m using Nat.strongRecOn with
  | ind m ih =>
    intro n hn
    match m with
    | 0 =>
      rw [hs_0]
      split <;> exact ⟨by decide, by decide⟩
    | 1 =>
      rw [hs_1]
      exact ⟨(h.get n).1, Int.le_trans (h.get n).2 (pow_le (by decide))⟩
    | m + 2 =>
      by_cases hl : n < m + 2
      · rw [hs_small hl]
        exact ⟨Int.le_refl 0, Int.le_of_lt (Int.pow_pos (by decide))⟩
      · rw [hs_2 hl]
        have s := sum61 (a := 100 + 170 * (m + 1) + 6) (l := (List.range (m + 2)).map fun i : Nat => ((List.range ((n - (m + 2)) / (i + 1) + 1)).map fun j : Nat => cs.getD (j + 1) 0 * hs cs (m + 1 - i) (n - (i + 1) * (j + 1))).sum) (by simp; omega) (fun x hx => by
          obtain ⟨i, hi, rfl⟩ := List.mem_map.mp hx
          have hi' := List.mem_range.mp hi
          refine sum61 (by rw [List.length_map, List.length_range]; have := last_le (n := n) (m := m + 2) (i := i) (by omega) (by omega); omega) (fun y hy => ?_)
          obtain ⟨j, hj, rfl⟩ := List.mem_map.mp hy
          have h1 := h.get (j + 1)
          have h2 := ih (m + 1 - i) (by omega) (n - (i + 1) * (j + 1)) (by omega)
          have h3 := pow_mul_le h1.1 h1.2 h2.1 h2.2
          exact ⟨h3.1, Int.le_trans h3.2 (pow_le (by omega))⟩)
        have d := ediv_le (b := (m : Int) + 2) s.1 s.2 (by omega)
        exact ⟨d.1, Int.le_trans d.2 (pow_le (by omega))⟩
/-! ### the table as it is kept -/
def unl (wd md : Str) : Bool := decide (wd = "set") && !decide (md = "labelled")
def tg (wd md : Str) (cs : List Int) (m n : Nat) : Int := if unl wd md = true then hs cs m n else tab md cs m n
theorem tg_u {wd md : Str} {cs : List Int} {m n : Nat} (h : unl wd md = true) : tg wd md cs m n = hs cs m n := if_pos h
theorem tg_t {wd md : Str} {cs : List Int} {m n : Nat} (h : unl wd md = false) : tg wd md cs m n = tab md cs m n := if_neg (by rw [h]; exact Bool.false_ne_true)
theorem tg_0 {wd md : Str} {cs : List Int} {n : Nat} : tg wd md cs 0 n = if n = 0 then 1 else 0 := by
  unfold tg
  split
  · rw [hs_0]
  · rw [tab]
theorem tg_1 {wd md : Str} {cs : List Int} {n : Nat} : tg wd md cs 1 n = cs.getD n 0 := by
  unfold tg
  split
  · rw [hs_1]
  · rw [tab]
theorem tg_small {wd md : Str} {cs : List Int} {m n : Nat} (h : n < m + 2) : tg wd md cs (m + 2) n = 0 := by
  unfold tg
  split
  · exact hs_small h
  · exact tab_small h
theorem tg_le {wd md : Str} {cs : List Int} (h : Bn cs) (m n : Nat) (hn : n ≤ 61) : 0 ≤ tg wd md cs m n ∧ tg wd md cs m n ≤ 2 ^ (170 * m) := by
  unfold tg
  split
  · exact hs_le h m n hn
  · exact tab_le h m n hn
def rowT (wd md : Str) (cs : List Int) (m k : Nat) : List Int := (List.range k).map fun n => tg wd md cs m n
theorem rowT_get {wd md : Str} {cs : List Int} {m k n : Nat} (h : n < k) : (rowT wd md cs m k)[n]? = some (tg wd md cs m n) := by
  unfold rowT
  rw [List.getElem?_map, List.getElem?_range h]; rfl
theorem rowT_succ (wd md : Str) (cs : List Int) (m k : Nat) : rowT wd md cs m (k + 1) = rowT wd md cs m k ++ [tg wd md cs m k] := by
  unfold rowT
  rw [List.range_succ, List.map_append]; rfl
theorem rowT_len (wd md : Str) (cs : List Int) (m k : Nat) : (rowT wd md cs m k).length = k := by
  unfold rowT; rw [List.length_map, List.length_range]
theorem rowT_zero {wd md : Str} {cs : List Int} {m k : Nat} (h : k ≤ m + 2) : rowT wd md cs (m + 2) k = List.replicate k 0 := by
  unfold rowT
  rw [List.eq_replicate_iff]
  refine ⟨by rw [List.length_map, List.length_range], fun x hx => ?_⟩
  obtain ⟨n, hn, rfl⟩ := List.mem_map.mp hx
  have := List.mem_range.mp hn
  exact tg_small (by omega)
/-! ### the object -/
def flds (w : Str) (m : Option Int) (c : Addr) (md : Str) (t : Addr) : List (Str × V) :=
  putF "table" (.ref t) (putF "mode" (.str md) (putF "counts" (.ref c) (putF "most" (oV m) (putF "word" (.str w) []))))
section
variable {w md : Str} {m : Option Int} {c t : Addr}
theorem flds_lookup (x : Str) : (flds w m c md t).lookup x = if x = "table" then some (.ref t) else if x = "mode" then some (.str md) else if x = "counts" then some (.ref c) else if x = "most" then some (oV m) else if x = "word" then some (.str w) else none := by
  unfold flds
  rw [lookup_putF, lookup_putF, lookup_putF, lookup_putF, lookup_putF]
  rfl
theorem l_word : (flds w m c md t).lookup ("word" : Str) = some (.str w) := by
  rw [flds_lookup, if_neg (by decide +kernel), if_neg (by decide +kernel), if_neg (by decide +kernel), if_neg (by decide +kernel), if_pos rfl]
theorem l_most : (flds w m c md t).lookup ("most" : Str) = some (oV m) := by
  rw [flds_lookup, if_neg (by decide +kernel), if_neg (by decide +kernel), if_neg (by decide +kernel), if_pos rfl]
theorem l_counts : (flds w m c md t).lookup ("counts" : Str) = some (.ref c) := by
  rw [flds_lookup, if_neg (by decide +kernel), if_neg (by decide +kernel), if_pos rfl]
theorem l_mode : (flds w m c md t).lookup ("mode" : Str) = some (.str md) := by
  rw [flds_lookup, if_neg (by decide +kernel), if_pos rfl]
theorem l_table : (flds w m c md t).lookup ("table" : Str) = some (.ref t) := by
  rw [flds_lookup, if_pos rfl]
theorem l_no {x : Str} (h1 : ¬ x = "table") (h2 : ¬ x = "mode") (h3 : ¬ x = "counts") (h4 : ¬ x = "most") (h5 : ¬ x = "word") : (flds w m c md t).lookup x = none := by
  rw [flds_lookup, if_neg h1, if_neg h2, if_neg h3, if_neg h4, if_neg h5]
end
theorem nodup_at {α : Type} : ∀ {l : List α} {i j : Nat}, l.Nodup → (hi : i < l.length) → (hj : j < l.length) → l[i] = l[j] → i = j
  | [], _, _, _, hi, _, _ => absurd hi (Nat.not_lt_zero _)
  | x :: r, 0, 0, _, _, _, _ => rfl
  | x :: r, 0, j + 1, nd, _, hj, e => by
    have := (List.nodup_cons.mp nd).1
    simp only [List.getElem_cons_zero, List.getElem_cons_succ] at e
    exact absurd (e ▸ List.getElem_mem (by simpa using hj)) this
  | x :: r, i + 1, 0, nd, hi, _, e => by
    have := (List.nodup_cons.mp nd).1
    simp only [List.getElem_cons_zero, List.getElem_cons_succ] at e
    exact absurd (e ▸ List.getElem_mem (by simpa using hi)) this
  | x :: r, i + 1, j + 1, nd, hi, hj, e => by
    simp only [List.getElem_cons_succ] at e
    exact congrArg (· + 1) (nodup_at (List.nodup_cons.mp nd).2 (by simpa using hi) (by simpa using hj) e)
structure TabAt (C : Addr) (H0 H : Hp) (p dx t l0 c : Addr) (ls : List Addr) (r0 : List Int) (rs : List (List Int)) (w : Str) (m : Option Int) (md : Str) : Prop where
  sm : Same H0 H
  hp : H p = some (.ins C dx (flds w m c md t))
  ht : H t = some (.lst (.ref l0 :: .ref c :: ls.map V.ref))
  h0 : H l0 = some (.lst (r0.map V.int))
  hl : ls.length = rs.length
  hr : ∀ (j : Nat) (l : Addr) (r : List Int), ls[j]? = some l → rs[j]? = some r → H l = some (.lst (r.map V.int))
  nd : (p :: t :: l0 :: ls).Nodup
  fr : ∀ a ∈ p :: t :: l0 :: ls, H0 a = none
section
variable {C : Addr} {H0 H H' : Hp} {p dx t l0 c : Addr} {ls : List Addr} {r0 : List Int} {rs : List (List Int)} {w md : Str} {m : Option Int}
theorem TabAt.mono (S : TabAt C H0 H p dx t l0 c ls r0 rs w m md) (s : Same H H') : TabAt C H0 H' p dx t l0 c ls r0 rs w m md :=
  ⟨S.sm.trans s, s _ _ S.hp, s _ _ S.ht, s _ _ S.h0, S.hl, fun j l r a b => s _ _ (S.hr j l r a b), S.nd, S.fr⟩
theorem TabAt.app0 (S : TabAt C H0 H p dx t l0 c ls r0 rs w m md) (x : Int) : TabAt C H0 (upd H l0 (.lst (r0.map V.int ++ [.int x]))) p dx t l0 c ls (r0 ++ [x]) rs w m md := by
  have nd := S.nd
  simp only [List.nodup_cons, List.mem_cons, not_or] at nd
  obtain ⟨⟨n1, n2, n3⟩, ⟨n4, n5⟩, n6, n7⟩ := nd
  refine ⟨same_upd' S.sm (S.fr l0 (by simp)), by rw [upd_ne n2]; exact S.hp, by rw [upd_ne n4]; exact S.ht, by rw [upd_same, List.map_append]; rfl, S.hl, fun j l r a b => ?_, S.nd, S.fr⟩
  have : l ≠ l0 := fun e => n6 (e ▸ List.mem_of_getElem? a)
  rw [upd_ne this]
  exact S.hr j l r a b
theorem TabAt.appT (S : TabAt C H0 H p dx t l0 c ls r0 rs w m md) {n : Addr} {r : List Int} (hn : H n = some (.lst (r.map V.int))) (nn : n ∉ p :: t :: l0 :: ls) (h0n : H0 n = none) :
    TabAt C H0 (upd H t (.lst ((.ref l0 :: .ref c :: ls.map V.ref) ++ [.ref n]))) p dx t l0 c (ls ++ [n]) r0 (rs ++ [r]) w m md := by
  have nd := S.nd
  simp only [List.nodup_cons, List.mem_cons, not_or] at nd
  obtain ⟨⟨n1, n2, n3⟩, ⟨n4, n5⟩, n6, n7⟩ := nd
  simp only [List.mem_cons, not_or] at nn
  obtain ⟨m1, m2, m3, m4⟩ := nn
  refine ⟨same_upd' S.sm (S.fr t (by simp)), by rw [upd_ne n1]; exact S.hp, ?_, ?_, by rw [List.length_append, List.length_append, S.hl]; rfl, fun j l r' a b => ?_, ?_, ?_⟩
  · rw [upd_same, List.map_append]; rfl
  · rw [upd_ne (Ne.symm n4)]; exact S.h0
  · by_cases hj : j < ls.length
    · rw [List.getElem?_append_left hj] at a
      rw [List.getElem?_append_left (by rw [← S.hl]; exact hj)] at b
      have : l ≠ t := fun e => n5 (e ▸ List.mem_of_getElem? a)
      rw [upd_ne this]
      exact S.hr j l r' a b
    · have hj' : j = ls.length := by
        have := (List.getElem?_eq_some_iff.mp a).1
        rw [List.length_append] at this
        simp at this
        omega
      subst hj'
      rw [List.getElem?_append_right (Nat.le_refl _)] at a
      rw [S.hl, List.getElem?_append_right (Nat.le_refl _)] at b
      simp at a b
      subst a b
      rw [upd_ne m2]
      exact hn
  · simp only [List.nodup_cons, List.mem_cons, List.mem_append, List.mem_nil_iff, or_false, not_or]
    refine ⟨⟨n1, n2, n3, Ne.symm m1⟩, ⟨n4, n5, Ne.symm m2⟩, ⟨n6, Ne.symm m3⟩, ?_⟩
    rw [List.nodup_append]
    exact ⟨n7, by simp, fun x hx y hy e => by simp at hy; subst hy e; exact m4 hx⟩
  · intro a ha
    simp only [List.mem_cons, List.mem_append, List.mem_nil_iff, or_false] at ha
    rcases ha with h | h | h | h | h
    · exact S.fr a (by simp [h])
    · exact S.fr a (by simp [h])
    · exact S.fr a (by simp [h])
    · exact S.fr a (by simp [h])
    · rw [h]; exact h0n
theorem TabAt.appL (S : TabAt C H0 H p dx t l0 c ls r0 rs w m md) {j : Nat} {l : Addr} {r : List Int} (x : Int) (hl : ls[j]? = some l) (hr : rs[j]? = some r) :
    TabAt C H0 (upd H l (.lst (r.map V.int ++ [.int x]))) p dx t l0 c ls r0 (rs.set j (r ++ [x])) w m md := by
  have nd := S.nd
  simp only [List.nodup_cons, List.mem_cons, not_or] at nd
  obtain ⟨⟨n1, n2, n3⟩, ⟨n4, n5⟩, n6, n7⟩ := nd
  have lm := List.mem_of_getElem? hl
  refine ⟨same_upd' S.sm (S.fr l (by simp [lm])), by rw [upd_ne (show p ≠ l from fun e => n3 (by rw [e]; exact lm))]; exact S.hp, by rw [upd_ne (show t ≠ l from fun e => n5 (by rw [e]; exact lm))]; exact S.ht, by rw [upd_ne (show l0 ≠ l from fun e => n6 (by rw [e]; exact lm))]; exact S.h0, by rw [List.length_set]; exact S.hl, fun i l' r' a b => ?_, S.nd, S.fr⟩
  by_cases e : i = j
  · subst e
    rw [hl] at a
    cases a
    rw [List.getElem?_set_self (List.getElem?_eq_some_iff.mp hr).1] at b
    cases b
    rw [upd_same, List.map_append]; rfl
  · rw [List.getElem?_set_ne (Ne.symm e)] at b
    have : l' ≠ l := fun z => by
      subst z
      obtain ⟨h1, e1⟩ := List.getElem?_eq_some_iff.mp a
      obtain ⟨h2, e2⟩ := List.getElem?_eq_some_iff.mp hl
      exact e (nodup_at n7 h1 h2 (e1.trans e2.symm))
    rw [upd_ne this]
    exact S.hr i l' r' a b
end
end SM

namespace SM
open PySem L2
theorem atI_of {α : Type} {xs : List α} {z : Int} {j : Nat} {v : α} (e : z = (j : Int)) (h : xs[j]? = some v) : atI xs z = some v := by
  subst e; exact atI_nat h
theorem getD_at {cs : List Int} {j : Nat} (h : j < cs.length) : (cs.map V.int)[j]? = some (.int (cs.getD j 0)) := by
  rw [ints_at h, List.getD_eq_getElem?_getD, List.getElem?_eq_getElem h]; rfl
section
variable {P : Program} {w : World} {K : PySem.W.Frag} {mg : Str → Option Value} {base : Heap} {W : Ad}
/-! ### ways_to_share -/
def spShare : Sp := fun vs H Q _ => ∃ (a n : Int) (md : Str), vs = [.int a, .int n, .str md] ∧ 0 ≤ a ∧ 0 ≤ n ∧ n < 18000 ∧ Q (.int (shr md n a)) H
theorem ok_share (T : Tx K mg W) (D : Df K mg "ways_to_share" s_ways_to_share ["first", "size", "mode"]) : Cal P w K mg base CX0 1 "ways_to_share" ["first", "size", "mode"] spShare := by
  obtain ⟨f, fd, g, F, b⟩ := D
  refine ⟨f, fd, g, F.kp, b, F.ok sc_ways_to_share (fun vs H Q E h => ?_) (fun cdv A outer s H vs Q E hr h => ?_)⟩
  · obtain ⟨a, n, md, rfl, _⟩ := h
    rfl
  · obtain ⟨a, n, md, rfl, h0, h1, h2, q⟩ := h
    refine ⟨_, (pss_one (ps_ret (pe_ifExp (pt_cmpR op_eq (pv 2) (pe_glob (by rfl) T.g_LABELLED T.r_LABELLED) (nomark _)) (pe_callBfun cr_comb (by rfl) T.m_comb (pa_cons (pv 1) (pa_cons (pv 0) pa_nil))) pe_int))), ?_⟩
    refine ⟨_, rfl, rfl, _, rfl, ite2 (fun e => ?_) (fun e => ?_)⟩
    · have e' : md = "labelled" := V.str.inj (of_decide_eq_true e)
      refine ⟨_, rfl, _, rfl, _, _, rfl, h1, h0, h2, fun _ => ?_⟩
      unfold shr at q
      rw [if_pos e'] at q
      exact q
    · have e' : ¬ md = "labelled" := fun z => e (decide_eq_true (by rw [z]))
      unfold shr at q
      rw [if_neg e'] at q
      exact q
/-! ### Members.__init__ -/
def spInit (C : Addr) : Sp := fun vs H Q _ => ∃ (p dx c : Addr) (wd md : Str) (m : Option Int), vs = [.ref p, .str wd, oV m, .ref c, .str md] ∧ H p = some (.ins C dx []) ∧
  ∀ (t l0 : Addr) (H' : Hp), H t = none → H l0 = none → t ≠ l0 → H' p = some (.ins C dx (flds wd m c md t)) → H' t = some (.lst [.ref l0, .ref c]) → H' l0 = some (.lst []) → (∀ b o, H b = some o → b ≠ p → H' b = some o) → Q .non H'
theorem ok_init (T : Tx K mg W) (D : DfM K W.cMembers "__init__" "Members.__init__" s_Members_init ["self", "word", "most", "counts", "mode"]) :
    CalM P w K mg base CX0 1 W.cMembers "__init__" ["self", "word", "most", "counts", "mode"] (spInit W.cMembers) := by
  obtain ⟨f, fd, mt, F, b⟩ := D
  refine ⟨f, fd, mt, b, F.ok sc_Members_init (fun vs H Q E h => ?_) (fun cdv A outer s H vs Q E hr h => ?_)⟩
  · obtain ⟨p, dx, c, wd, md, m, rfl, _⟩ := h
    rfl
  · obtain ⟨p, dx, c, wd, md, m, rfl, hp, q⟩ := h
    refine ⟨_, (pss_cons (ps_fld (pv 0) (pv 1) rfl)
  (pss_cons (ps_fld (pv 0) (pv 2) rfl)
  (pss_cons (ps_fld (pv 0) (pv 3) rfl)
  (pss_cons (ps_fld (pv 0) (pv 4) rfl)
  (pss_one (ps_fld (pv 0) (pe_lst (pa_cons (pe_lst pa_nil) (pa_cons (pv 3) pa_nil))) rfl)))))), ?_⟩
    refine ⟨_, rfl, _, rfl, p, _, dx, _, rfl, hp, T.cl_Members, T.f_word, by decide, ?_⟩
    refine ⟨_, rfl, _, rfl, p, _, dx, _, rfl, upd_same, T.cl_Members, T.f_most, by show 1 < 1000; decide, ?_⟩
    refine ⟨_, rfl, _, rfl, p, _, dx, _, rfl, upd_same, T.cl_Members, T.f_counts, ?_, ?_⟩
    · have : ∀ (f g : Str) (v : V) (fs : List (Str × V)), (putF f v fs).length ≤ fs.length + 1 := by
        intro f g v fs
        induction fs with
        | nil => exact Nat.le_refl _
        | cons x r ih =>
          obtain ⟨a, b⟩ := x
          show (if a = f then (a, v) :: r else (a, b) :: putF f v r).length ≤ r.length + 1 + 1
          split
          · exact Nat.le_succ _
          · exact Nat.succ_le_succ ih
      have h1 := this "most" "most" (oV m) (putF "word" (.str wd) [])
      have h2 := this "word" "word" (.str wd) []
      simp only [List.length_nil] at h2
      omega
    refine ⟨_, rfl, _, rfl, p, _, dx, _, rfl, upd_same, T.cl_Members, T.f_mode, ?_, ?_⟩
    · have : ∀ (f : Str) (v : V) (fs : List (Str × V)), (putF f v fs).length ≤ fs.length + 1 := by
        intro f v fs
        induction fs with
        | nil => exact Nat.le_refl _
        | cons x r ih =>
          obtain ⟨a, b⟩ := x
          show (if a = f then (a, v) :: r else (a, b) :: putF f v r).length ≤ r.length + 1 + 1
          split
          · exact Nat.le_succ _
          · exact Nat.succ_le_succ ih
      have h1 := this "most" (oV m) (putF "word" (.str wd) [])
      have h2 := this "word" (.str wd) []
      have h3 := this "counts" (.ref c) (putF "most" (oV m) (putF "word" (.str wd) []))
      simp only [List.length_nil] at h2
      omega
    refine ⟨Nat.zero_le _, fun l0 n0 => ⟨_, rfl, sz _ (by show 2 ≤ 100000; decide), fun t nt => ?_⟩⟩
    rw [upd_upd, upd_upd, upd_upd] at n0 nt ⊢
    have hp0 : l0 ≠ p := fun e => by rw [e, upd_same] at n0; cases n0
    have ht0 : t ≠ l0 := fun e => by rw [e, upd_same] at nt; cases nt
    rw [upd_ne ht0] at nt
    have htp : t ≠ p := fun e => by rw [e, upd_same] at nt; cases nt
    rw [upd_ne htp] at nt
    rw [upd_ne hp0] at n0
    refine ⟨_, rfl, p, _, dx, _, rfl, by rw [upd_ne htp.symm, upd_ne hp0.symm]; exact upd_same, T.cl_Members, T.f_table, ?_, ?_⟩
    · have : ∀ (f : Str) (v : V) (fs : List (Str × V)), (putF f v fs).length ≤ fs.length + 1 := by
        intro f v fs
        induction fs with
        | nil => exact Nat.le_refl _
        | cons x r ih =>
          obtain ⟨a, b⟩ := x
          show (if a = f then (a, v) :: r else (a, b) :: putF f v r).length ≤ r.length + 1 + 1
          split
          · exact Nat.le_succ _
          · exact Nat.succ_le_succ ih
      have h1 := this "most" (oV m) (putF "word" (.str wd) [])
      have h2 := this "word" (.str wd) []
      have h3 := this "counts" (.ref c) (putF "most" (oV m) (putF "word" (.str wd) []))
      have h4 := this "mode" (.str md) (putF "counts" (.ref c) (putF "most" (oV m) (putF "word" (.str wd) [])))
      simp only [List.length_nil] at h2
      omega
    refine q t l0 _ nt n0 ht0 upd_same ?_ ?_ fun b o hb nb => ?_
    · rw [upd_ne htp, upd_same]
    · rw [upd_ne hp0, upd_ne ht0.symm, upd_same]
    · rw [upd_ne nb, upd_ne (ne_of_none hb nt), upd_ne (ne_of_none hb n0), upd_ne nb]
      exact hb
/-! ### Members.shared_counts -/
/-- the state of a Members object ahead of a call: what all its methods ask -/
def spShared (K : PySem.W.Frag) (C : Addr) : Sp := fun vs H Q _ => ∃ (H0 : Hp) (p dx t l0 c : Addr) (ls : List Addr) (r0 : List Int) (rs : List (List Int)) (wd md : Str) (m : Option Int) (cs : List Int) (k : Nat),
  vs = [.ref p, .int k] ∧ TabAt C H0 H p dx t l0 c ls r0 rs wd m md ∧ SqL K H c (cs.map V.int) ∧ Bn cs ∧ k ≤ 61 ∧ k ≤ cs.length ∧
  ∀ (q : Addr) (H' : Hp), Same H H' → H q = none → H' q = some (.lst ((shl md cs k).map V.int)) → Q (.ref q) H'
theorem ok_shared (T : Tx K mg W) (D : DfM K W.cMembers "shared_counts" "Members.shared_counts" s_Members_shared_counts ["self", "size"]) (C1 : Cal P w K mg base CX0 1 "ways_to_share" ["first", "size", "mode"] spShare) :
    CalM P w K mg base CX0 2 W.cMembers "shared_counts" ["self", "size"] (spShared K W.cMembers) := by
  obtain ⟨f, fd, mt, F, b⟩ := D
  obtain ⟨f1, fd1, g_ways_to_share, k_ways_to_share, b_ways_to_share, G_ways_to_share⟩ := C1.ex
  refine ⟨f, fd, mt, b, F.ok sc_Members_shared_counts (fun vs H Q E h => ?_) (fun cdv A outer s H vs Q E hr h => ?_)⟩
  · obtain ⟨_, _, _, _, _, _, _, _, _, _, _, _, _, _, rfl, _⟩ := h
    rfl
  · obtain ⟨H0, p, dx, t, l0, c, ls, r0, rs, wd, md, m, cs, k, rfl, S, hc, hsm, hk, hkl, q⟩ := h
    refine ⟨_, (pss_one (ps_ret (pe_op op_cat (pe_lst (pa_cons pe_int pa_nil)) (pe_lc (own := [("at", 2)]) rfl sc_Members_shared_counts.nd (pi_range2 (by rfl) T.n_range (pa_cons pe_int (pa_cons (pv 1) pa_nil))) (blkOk_by (own := [("at", 2)]) (N := ["self", "size", "at"]) (sc := defScope s_Members_shared_counts) (by decide +kernel)) (fun _ _ _ _ _ => (pg_name (i := 2) sc_Members_shared_counts.nd rfl (.inl rfl))) (fun _ _ _ _ _ => pts_nil) (fun _ _ _ _ _ => (pe_op op_mulW (pe_call G_ways_to_share (hr.mono (by decide)) (by rfl) g_ways_to_share k_ways_to_share b_ways_to_share .nil pass0 (pa_cons (pv 2) (pa_cons (pv 1) (pa_cons (pe_fldB (K := K) rfl (pv 0) (by rfl)) pa_nil)))) (pe_ix (ix_listB (K := K) rfl) (pe_fldB (K := K) rfl (pv 0) (by rfl)) (pv 2) (fun _ _ => rfl)))))))), ?_⟩
    refine ⟨sz _ (by show 1 ≤ 100000; decide), fun l hl => ⟨_, rfl, _, _, rfl, ⟨by omega, by omega, by omega, by omega⟩, fun Dn hD => ?_⟩⟩
    have s1 : Same H (upd H l (.lst [.int 0])) := same_upd hl
    have en : ((k : Int) - 1).toNat = k - 1 := by omega
    rw [en]
    refine lc_rangeM (lo := 1) (j := 2) (fun i => V.int (shr md k (1 + (i : Int)) * cs.getD (i + 1) 0)) (by omega) hD (fun i hi H1 s2 R kk => ?_) (fun H1 s2 h1 => ?_)
    · have S1 := S.mono (s1.trans s2)
      have hc1 := (s1.trans s2).seq hc
      have hlt : i + 1 < cs.length := by omega
      refine ⟨_, rfl, _, rfl, _, rfl, p, _, dx, _, _, rfl, S1.hp, T.cl_Members, T.f_mode, l_mode, _, _, _, rfl, by omega, by omega, by omega, ?_⟩
      refine ⟨_, rfl, p, _, dx, _, _, rfl, S1.hp, T.cl_Members, T.f_counts, l_counts, _, rfl, c, _, _, _, rfl, rfl, hc1, atI_of (j := i + 1) (by omega) (getD_at hlt), _, _, rfl, rfl, ?_, kk H1 (.refl H1)⟩
      have h1 := shr_p (md := md) (n := k) (i := i + 1) hk (by omega)
      have h2 := hsm.get (i + 1)
      rw [show (1 : Int) + (i : Int) = ((i + 1 : Nat) : Int) by omega]
      exact wide_mul (nb h1.1 h1.2) (nb h2.1 h2.2) (by decide) (by decide) (by decide)
    · have s3 := s2 l _ upd_same
      refine ⟨l, Dn, _, _, rfl, rfl, s3, h1, sz _ ?_, fun r hr1 => ?_⟩
      · rw [List.length_map, List.length_range]; simp; omega
      · refine q r _ ((s1.trans s2).trans (same_upd hr1)) ((s1.trans s2).free hr1) ?_
        rw [upd_same]
        unfold shl
        rw [List.map_cons, List.map_map]
        congr 2
        show V.int 0 :: _ = _
        congr 1
        refine List.map_congr_left fun i _ => ?_
        show V.int (shr md k (1 + (i : Int)) * cs.getD (i + 1) 0) = V.int (shr md k ((i : Int) + 1) * cs.getD (i + 1) 0)
        rw [Int.add_comm]
end
end SM

namespace SM
open PySem L2
section
variable {P : Program} {w : World} {K : PySem.W.Frag} {mg : Str → Option Value} {base : Heap} {W : Ad}
/-! ### Members.next_rows -/
def spNextRows (K : PySem.W.Frag) (C : Addr) : Sp := fun vs H Q _ => ∃ (H0 : Hp) (p dx t l0 c : Addr) (ls : List Addr) (r0 : List Int) (rs : List (List Int)) (wd md : Str) (m : Option Int) (cs : List Int) (k j : Nat) (sh o : Addr) (ol : List Int),
  vs = [.ref p, .ref sh, .int ((j : Int) + 2), .int k] ∧ TabAt C H0 H p dx t l0 c ls r0 rs wd m md ∧ SqL K H sh ((shl md cs k).map V.int) ∧ Bn cs ∧ k ≤ 61 ∧ j + 2 ≤ k ∧
  (c :: ls)[j]? = some o ∧ SqL K H o (ol.map V.int) ∧ (∀ n, n < k → ol[n]? = some (tab md cs (j + 1) n)) ∧
  ∀ H', Same H H' → Q (.int (tab md cs (j + 2) k)) H'
theorem ok_nextRows (T : Tx K mg W) (D : DfM K W.cMembers "next_rows" "Members.next_rows" s_Members_next_rows ["self", "shared", "members", "size"]) :
    CalM P w K mg base CX0 1 W.cMembers "next_rows" ["self", "shared", "members", "size"] (spNextRows K W.cMembers) := by
  obtain ⟨f, fd, mt, F, b⟩ := D
  refine ⟨f, fd, mt, b, F.ok sc_Members_next_rows (fun vs H Q E h => ?_) (fun cdv A outer s H vs Q E hr h => ?_)⟩
  · obtain ⟨_, _, _, _, _, _, _, _, _, _, _, _, _, _, _, _, _, _, rfl, _⟩ := h
    rfl
  · obtain ⟨H0, p, dx, t, l0, c, ls, r0, rs, wd, md, m, cs, k, j, sh, o, ol, rfl, S, hsh, hsm, hk, hjk, ho, hol, hget, q⟩ := h
    refine ⟨_, (pss_cons (ps_set (i := 4) sc_Members_next_rows.nd rfl (.inr rfl) (pe_ix ix_list (pe_fld (pv 0) rfl) (pe_op op_sub (pv 2) pe_int) (fun _ _ => rfl)))
  (pss_one (ps_ret (pe_callB (cr_sum rfl) (by rfl) T.n_sum (by decide +kernel) (pa_cons (pe_lc (own := [("at", 5)]) rfl sc_Members_next_rows.nd (pi_range2 (by rfl) T.n_range (pa_cons pe_int (pa_cons (pe_op op_add (pe_op op_sub (pv 3) (pv 2)) pe_int) pa_nil))) (blkOk_by (own := [("at", 5)]) (N := ["self", "shared", "members", "size", "others", "at"]) (sc := defScope s_Members_next_rows) (by decide +kernel)) (fun _ _ _ _ _ => (pg_name (i := 5) sc_Members_next_rows.nd rfl (.inl rfl))) (fun _ _ _ _ _ => pts_nil) (fun _ _ _ _ _ => (pe_op op_mulW (pe_ix (ix_listB (K := K) rfl) (pv 1) (pv 5) (fun _ _ => rfl)) (pe_ix (ix_listB (K := K) rfl) (pv 4) (pe_op op_sub (pv 3) (pv 5)) (fun _ _ => rfl))))) pa_nil))))), ?_⟩
    refine ⟨_, rfl, p, _, dx, _, _, rfl, S.hp, T.cl_Members, T.f_table, l_table, _, rfl, _, _, rfl, rfl, t, _, _, .ref o, rfl, rfl, sq_of S.ht, atI_of (j := j + 1) (by omega) ?_, ?_⟩
    · rw [List.getElem?_cons_succ, ← List.map_cons (f := V.ref), List.getElem?_map, ho]; rfl
    refine ⟨_, rfl, _, rfl, _, _, rfl, rfl, _, _, rfl, rfl, _, _, rfl, ⟨by omega, by omega, by omega, by omega⟩, fun Dn hD => ?_⟩
    have en : ((k : Int) - ((j : Int) + 2) + 2 - 1).toNat = k - (j + 1) := by omega
    rw [en]
    refine lc_rangeM (lo := 1) (j := 5) (fun i => V.int (shr md k ((i : Int) + 1) * cs.getD (i + 1) 0 * tab md cs (j + 1) (k - (i + 1)))) (by omega) hD (fun i hi H1 s2 R kk => ?_) (fun H1 s2 h1 => ?_)
    · refine ⟨_, rfl, _, rfl, sh, _, _, .int (shr md k ((i : Int) + 1) * cs.getD (i + 1) 0), rfl, rfl, s2.seq hsh, atI_of (j := i + 1) (by omega) ?_, ?_⟩
      · rw [List.getElem?_map, shl_get (by omega)]; rfl
      refine ⟨_, rfl, _, rfl, _, rfl, _, _, rfl, rfl, o, _, _, .int (tab md cs (j + 1) (k - (i + 1))), rfl, rfl, s2.seq hol, atI_of (j := k - (i + 1)) (by omega) ?_, _, _, rfl, rfl, ?_, kk H1 (.refl H1)⟩
      · rw [List.getElem?_map, hget _ (by omega)]; rfl
      · have h1 := shr_mul (md := md) (n := k) (i := i + 1) hk (by omega) hsm
        have h2 := tab_le (md := md) hsm (j + 1) (k - (i + 1)) (by omega)
        exact wide_mul (nb h1.1 h1.2) (nb h2.1 h2.2) (by omega) (by omega) (by omega)
    · refine ⟨Dn, (List.range (k - (j + 1))).map fun i : Nat => shr md k ((i : Int) + 1) * cs.getD (i + 1) 0 * tab md cs (j + 1) (k - (i + 1)), rfl, sq_of ?_, ?_⟩
      · rw [h1, List.map_map]; rfl
      · exact q H1 s2
/-! ### Members.next_sets -/
def spNextSets (K : PySem.W.Frag) (C : Addr) : Sp := fun vs H Q _ => ∃ (H0 : Hp) (p dx t l0 c : Addr) (ls : List Addr) (r0 : List Int) (rs : List (List Int)) (wd md : Str) (m : Option Int) (cs : List Int) (k j : Nat),
  vs = [.ref p, .int ((j : Int) + 2), .int k] ∧ TabAt C H0 H p dx t l0 c ls r0 rs wd m md ∧ Bn cs ∧ k ≤ 61 ∧ j + 2 ≤ k ∧ k < cs.length ∧ SqL K H c (cs.map V.int) ∧ md ≠ "rigid" ∧
  (∀ i, i < j + 2 → ∃ (o : Addr) (ol : List Int), (l0 :: c :: ls)[i]? = some o ∧ SqL K H o (ol.map V.int) ∧ ∀ n, n < k → ol[n]? = some (hs cs i n)) ∧
  ∀ H', Same H H' → Q (.int (hs cs (j + 2) k)) H'
theorem ok_nextSets (T : Tx K mg W) (D : DfM K W.cMembers "next_sets" "Members.next_sets" s_Members_next_sets ["self", "members", "size"]) :
    CalM P w K mg base CX0 1 W.cMembers "next_sets" ["self", "members", "size"] (spNextSets K W.cMembers) := by
  obtain ⟨f, fd, mt, F, b⟩ := D
  refine ⟨f, fd, mt, b, F.ok sc_Members_next_sets (fun vs H Q E h => ?_) (fun cdv A outer s H vs Q E hr h => ?_)⟩
  · obtain ⟨_, _, _, _, _, _, _, _, _, _, _, _, _, _, _, rfl, _⟩ := h
    rfl
  · obtain ⟨H0, p, dx, t, l0, c, ls, r0, rs, wd, md, m, cs, k, j, rfl, S, hsm, hk, hjk, hkl, hc, hmd, hcell, q⟩ := h
    refine ⟨_, (pss_cons (ps_set (i := 3) sc_Members_next_sets.nd rfl (.inl rfl) pe_int)
  (pss_cons (ps_for PassesOwn.never rfl (pi_range2 (by rfl) T.n_range (pa_cons pe_int (pa_cons (pe_op op_add (pv 1) pe_int) pa_nil))) (pg_name (i := 4) sc_Members_next_sets.nd rfl (.inr rfl)) (
    (pss_cons (ps_set (i := 5) sc_Members_next_sets.nd rfl (.inr rfl) (pe_ix ix_list (pe_fld (pv 0) rfl) (pe_op op_sub (pv 1) (pv 4)) (fun _ _ => rfl)))
    (pss_cons (ps_set (i := 6) sc_Members_next_sets.nd rfl (.inl rfl) (pe_op op_fdiv (pe_op op_add (pe_op op_sub (pv 2) (pv 1)) (pv 4)) (pv 4)))
    (pss_cons (ps_set (i := 7) sc_Members_next_sets.nd rfl (.inl rfl) (pe_callB (cr_sum rfl) (by rfl) T.n_sum (by decide +kernel) (pa_cons (pe_lc (own := [("at", 8)]) rfl sc_Members_next_sets.nd (pi_range2 (by rfl) T.n_range (pa_cons pe_int (pa_cons (pe_op op_add (pv 6) pe_int) pa_nil))) (blkOk_by (own := [("at", 8)]) (N := ["self", "members", "size", "total", "equal", "others", "last", "ways", "at"]) (sc := defScope s_Members_next_sets) (by decide +kernel)) (fun _ _ _ _ _ => (pg_name (i := 8) sc_Members_next_sets.nd rfl (.inl rfl))) (fun _ _ _ _ _ => pts_nil) (fun _ _ _ _ _ => (pe_op op_mulW (pe_ix (ix_listB (K := K) rfl) (pe_fldB (K := K) rfl (pv 0) (by rfl)) (pv 8) (fun _ _ => rfl)) (pe_ix (ix_listB (K := K) rfl) (pv 5) (pe_op op_sub (pv 2) (pe_op op_mulW (pv 4) (pv 8))) (fun _ _ => rfl))))) pa_nil)))
    (pss_cons (ps_if (PW.pt (pw_and (pt_cmpR op_eq (pe_fld (pv 0) rfl) (pe_glob (by rfl) T.g_RIGID T.r_RIGID) (nomark _)) (pw_and1 (pt_cmpR op_eq (pe_op op_mod (pv 4) pe_int) pe_int (nomark _))))) (
      (pss_one (ps_never))) (pss_nil))
    (pss_one (ps_aug (i := 3) sc_Members_next_sets.nd rfl (.inl rfl) (pv 7) ip_add))))))))
  (pss_one (ps_ret (pe_op op_fdiv (pv 3) (pv 1)))))), ?_⟩
    refine ⟨_, rfl, _, _, rfl, rfl, _, _, rfl, ⟨by omega, by omega, by omega, by omega⟩, ?_⟩
    rw [show ((j : Int) + 2 + 1 - 1).toNat = j + 2 by omega]
    refine for_range (lo := 1) (n := j + 2) (fun i σ H' => ∃ y4 y5 y6 y7, σ = [some (.ref p), some (.int ((j : Int) + 2)), some (.int k), some (.int ((List.range i).map fun i : Nat => ((List.range ((k - (j + 2)) / (i + 1) + 1)).map fun z : Nat => cs.getD (z + 1) 0 * hs cs (j + 1 - i) (k - (i + 1) * (z + 1))).sum).sum), y4, y5, y6, y7, none] ∧ Same H H')
      ⟨none, none, none, none, rfl, .refl H⟩ ?_ ?_
    · rintro i σ H1 hi ⟨y4, y5, y6, y7, rfl, s1⟩
      obtain ⟨o, ol, go, hol, hget⟩ := hcell (j + 1 - i) (by omega)
      have S1 := S.mono s1
      refine ⟨_, rfl, p, _, dx, _, _, rfl, S1.hp, T.cl_Members, T.f_table, l_table, _, rfl, _, rfl, _, _, rfl, rfl, t, _, _, .ref o, rfl, rfl, sq_of S1.ht, atI_of (j := j + 1 - i) (by omega) ?_, ?_⟩
      · rw [← List.map_cons (f := V.ref), ← List.map_cons (f := V.ref), List.getElem?_map, go]; rfl
      refine ⟨_, rfl, _, rfl, _, _, rfl, rfl, _, rfl, _, _, rfl, rfl, _, rfl, _, _, rfl, rfl, ⟨by omega, by omega⟩, ?_⟩
      have el : ((k : Int) - ((j : Int) + 2) + (1 + (i : Int))) / (1 + (i : Int)) = (((k - (j + 2)) / (i + 1) + 1 : Nat) : Int) := by
        rw [show ((k : Int) - ((j : Int) + 2) + (1 + (i : Int))) = ((k - (j + 2) + (i + 1) : Nat) : Int) by omega, show (1 + (i : Int)) = ((i + 1 : Nat) : Int) by omega, ← Int.natCast_ediv, Nat.add_div_right _ (by omega)]
      have hlast : (k - (j + 2)) / (i + 1) + 1 ≤ k := last_le (by omega) (by omega)
      have hlast2 : ((k - (j + 2)) / (i + 1)) * (i + 1) ≤ k - (j + 2) := Nat.div_mul_le_self _ _
      dsimp only
      rw [el]
      generalize hL : (k - (j + 2)) / (i + 1) + 1 = L at hlast ⊢
      have hL2 : ∀ z, z < L → (i + 1) * (z + 1) ≤ k - (j + 1 - i) ∧ 1 ≤ (i + 1) * (z + 1) := by
        intro z hz
        have hz' : z ≤ (k - (j + 2)) / (i + 1) := by omega
        have h5 := Nat.mul_le_mul_left (i + 1) hz'
        have e1 : (i + 1) * (z + 1) = (i + 1) * z + (i + 1) := Nat.mul_succ _ _
        have e2 : (i + 1) * ((k - (j + 2)) / (i + 1)) ≤ k - (j + 2) := Nat.mul_div_le _ _
        omega
      refine ⟨_, rfl, _, _, rfl, rfl, _, _, rfl, ⟨by omega, by omega, by omega, by omega⟩, fun Dn hD => ?_⟩
      rw [show ((L : Int) + 1 - 1).toNat = L by omega]
      refine lc_rangeM (lo := 1) (j := 8) (fun z => V.int (cs.getD (z + 1) 0 * hs cs (j + 1 - i) (k - (i + 1) * (z + 1)))) (by omega) hD (fun z hz H2 s2 R kk => ?_) (fun H2 s2 h2 => ?_)
      · have S2 := S1.mono s2
        have h12 := s1.trans s2
        obtain ⟨z1, z2⟩ := hL2 z hz
        have zk : z + 1 < cs.length := by
          have h6 : z + 1 ≤ (i + 1) * (z + 1) := Nat.le_mul_of_pos_left _ (by omega)
          have h7 : k - (j + 1 - i) ≤ k := Nat.sub_le _ _
          generalize (i + 1) * (z + 1) = y at z1 z2 h6
          omega
        have b1 := hsm.get (z + 1)
        have b2 := hs_le hsm (j + 1 - i) (k - (i + 1) * (z + 1)) (by omega)
        refine ⟨_, rfl, p, _, dx, _, _, rfl, S2.hp, T.cl_Members, T.f_counts, l_counts, _, rfl, c, _, _, _, rfl, rfl, h12.seq hc, atI_of (j := z + 1) (by omega) (getD_at zk), ?_⟩
        refine ⟨_, rfl, _, rfl, _, rfl, _, rfl, _, _, rfl, rfl, ?_, _, _, rfl, rfl, o, _, _, .int (hs cs (j + 1 - i) (k - (i + 1) * (z + 1))), rfl, rfl, h12.seq hol, atI_of (j := k - (i + 1) * (z + 1)) ?_ ?_, _, _, rfl, rfl, ?_, kk H2 (.refl H2)⟩
        · rw [show (1 + (i : Int)) = ((i + 1 : Nat) : Int) by omega, show (1 + (z : Int)) = ((z + 1 : Nat) : Int) by omega]
          exact wide_mul (a := 10) (b := 10) (by rw [Int.natAbs_natCast]; omega) (by rw [Int.natAbs_natCast]; omega) (by decide) (by decide) (by decide)
        · show (k : Int) - (1 + (i : Int)) * (1 + (z : Int)) = _
          rw [show (1 + (i : Int)) = ((i + 1 : Nat) : Int) by omega, show (1 + (z : Int)) = ((z + 1 : Nat) : Int) by omega, ← Int.natCast_mul]
          omega
        · rw [List.getElem?_map, hget _ (by omega)]; rfl
        · exact wide_mul (nb b1.1 b1.2) (nb b2.1 b2.2) (by omega) (by omega) (by omega)
      · refine ⟨Dn, (List.range L).map fun z : Nat => cs.getD (z + 1) 0 * hs cs (j + 1 - i) (k - (i + 1) * (z + 1)), rfl, sq_of ?_, ?_⟩
        · rw [h2, List.map_map]; rfl
        have S2 := S1.mono s2
        refine ⟨_, rfl, p, _, dx, _, _, rfl, S2.hp, T.cl_Members, T.f_mode, l_mode, rfl, _, rfl, ?_⟩
        have em : decide (V.str md = V.str "rigid") = false := decide_eq_false fun z => hmd (V.str.inj z)
        rw [em]
        refine iteF (iteF ?_)
        have es : ((List.range (i + 1)).map fun i : Nat => ((List.range ((k - (j + 2)) / (i + 1) + 1)).map fun z : Nat => cs.getD (z + 1) 0 * hs cs (j + 1 - i) (k - (i + 1) * (z + 1))).sum).sum =
            ((List.range i).map fun i : Nat => ((List.range ((k - (j + 2)) / (i + 1) + 1)).map fun z : Nat => cs.getD (z + 1) 0 * hs cs (j + 1 - i) (k - (i + 1) * (z + 1))).sum).sum + ((List.range L).map fun z : Nat => cs.getD (z + 1) 0 * hs cs (j + 1 - i) (k - (i + 1) * (z + 1))).sum := by
          rw [List.range_succ, List.map_append, List.sum_append, ← hL]
          simp only [List.map_cons, List.map_nil, List.sum_cons, List.sum_nil, Int.add_zero]
        refine ⟨_, rfl, _, rfl, _, _, rfl, rfl, some (.int (1 + i)), some (.ref o), some (.int L), some (.int ((List.range L).map fun z : Nat => cs.getD (z + 1) 0 * hs cs (j + 1 - i) (k - (i + 1) * (z + 1))).sum), ?_, s1.trans s2⟩
        rw [es]
        rfl
    · rintro σ H1 ⟨y4, y5, y6, y7, rfl, s1⟩
      refine ⟨_, rfl, _, rfl, _, _, rfl, rfl, ⟨by omega, by omega⟩, ?_⟩
      have := q H1 s1
      rw [hs_2 (by omega)] at this
      exact this
end
end SM

namespace SM
open PySem L2
/-! ### the numbers of rows -/
def lim : Option Int → Nat → Nat
  | none, s => s
  | some i, s => min s i.toNat
def nl (m : Option Int) (k : Nat) : Nat := lim m (k - 1) - 1
def rsT (wd md : Str) (cs : List Int) (n k : Nat) : List (List Int) := (List.range n).map fun j => rowT wd md cs (j + 2) k
/-- the rows within grow: the first i are told -/
def rsAt (wd md : Str) (cs : List Int) (n k i : Nat) : List (List Int) := (List.range n).map fun j => if j < i then rowT wd md cs (j + 2) (k + 1) else rowT wd md cs (j + 2) k
section
variable {wd md : Str} {cs : List Int}
theorem rsAt_len {n k i : Nat} : (rsAt wd md cs n k i).length = n := by
  unfold rsAt
  rw [List.length_map, List.length_range]
theorem rsAt_get {n k i j : Nat} (h : j < n) : (rsAt wd md cs n k i)[j]? = some (if j < i then rowT wd md cs (j + 2) (k + 1) else rowT wd md cs (j + 2) k) := by
  unfold rsAt
  rw [List.getElem?_map, List.getElem?_range h]; rfl
theorem rsAt_more {n k i : Nat} (hi : i ≤ n) (hk : k ≤ n + 2) : rsAt wd md cs n k i ++ [List.replicate k 0] = rsAt wd md cs (n + 1) k i := by
  unfold rsAt
  rw [List.range_succ, List.map_append, List.map_singleton, if_neg (by omega), rowT_zero hk]
theorem rsAt_set {n k i : Nat} : (rsAt wd md cs n k i).set i (rowT wd md cs (i + 2) k ++ [tg wd md cs (i + 2) k]) = rsAt wd md cs n k (i + 1) := by
  apply List.ext_getElem?
  intro j
  by_cases hj : j < n
  · by_cases e : j = i
    · subst e
      rw [List.getElem?_set_self (by rw [rsAt_len]; exact hj), rsAt_get hj, if_pos (Nat.lt_succ_self _), rowT_succ]
    · rw [List.getElem?_set_ne (Ne.symm e), rsAt_get hj, rsAt_get hj]
      by_cases h1 : j < i
      · rw [if_pos h1, if_pos (by omega)]
      · rw [if_neg h1, if_neg (by omega)]
  · rw [List.getElem?_eq_none (by rw [List.length_set, rsAt_len]; omega), List.getElem?_eq_none (by rw [rsAt_len]; omega)]
theorem rsAt_0 {n k : Nat} : rsAt wd md cs n k 0 = rsT wd md cs n k := by
  unfold rsAt rsT
  refine List.map_congr_left fun j _ => ?_
  rw [if_neg (Nat.not_lt_zero _)]
theorem rsAt_all {n k i : Nat} (h : n ≤ i) : rsAt wd md cs n k i = rsT wd md cs n (k + 1) := by
  unfold rsAt rsT
  refine List.map_congr_left fun j hj => ?_
  have := List.mem_range.mp hj
  rw [if_pos (by omega)]
end
section
variable {P : Program} {w : World} {K : PySem.W.Frag} {mg : Str → Option Value} {base : Heap} {W : Ad}
theorem ite_tC {c : Prop} [Decidable c] {Q : VK} {a b v : V} {σ : St} {H : Hp} (e1 : c → a = v) (e2 : ¬ c → b = v) (h : Q v H) : if c then tC a σ H Q else tC b σ H Q := by
  by_cases hc : c
  · rw [if_pos hc, e1 hc]; exact h
  · rw [if_neg hc, e2 hc]; exact h
theorem rd_limit {C : Addr} {σ : St} {H : Hp} {Q : VK} {p dx t c : Addr} {wd md : Str} {m : Option Int} {k : Nat} (cl : Cls K C) (fm : NoAttr K C "most") (h0 : σ[0]? = some (some (.ref p))) (h1 : σ[1]? = some (some (.int k)))
    (hp : H p = some (.ins C dx (flds wd m c md t))) (hm : ∀ i, m = some i → 0 ≤ i) (q : Q (.int (lim m k : Nat)) H) :
    tIf (tB (tIsN (tFld K (tVar 0) "most"))) (tVar 1) (tCB (fun xs H Q => ∃ i j, xs = [.int i, .int j] ∧ Q (.int (if j < i then j else i)) H) (tCons (tVar 1) (tCons (tFld K (tVar 0) "most") tNil))) σ H Q := by
  cases m with
  | none => exact ⟨_, h0, p, C, dx, _, _, rfl, hp, cl, fm, l_most, true, rfl, iteT ⟨_, h1, q⟩⟩
  | some i =>
    have hi := hm i rfl
    refine ⟨_, h0, p, C, dx, _, _, rfl, hp, cl, fm, l_most, false, rfl, iteF ⟨_, h1, _, h0, p, C, dx, _, _, rfl, hp, cl, fm, l_most, _, _, rfl, ?_⟩⟩
    have e : (if i < (k : Int) then i else (k : Int)) = ((lim (some i) k : Nat) : Int) := by
      rw [show lim (some i) k = min k i.toNat from rfl]
      split <;> omega
    rw [e]
    exact q
/-- the test for sets without labels -/
theorem rd_unl {C : Addr} {σ : St} {H : Hp} {Q : Bool → Hp → Prop} {p dx t c : Addr} {wd md : Str} {m : Option Int} (cl : Cls K C) (fw : NoAttr K C "word") (fm : NoAttr K C "mode") (h0 : σ[0]? = some (some (.ref p)))
    (hp : H p = some (.ins C dx (flds wd m c md t))) (q : Q (unl wd md) H) :
    tAnd (tTest (tOp rEq (tFld K (tVar 0) "word") (tC (.str "set")))) (tTest (tOp rNe (tFld K (tVar 0) "mode") (tC (.str "labelled")))) σ H Q := by
  unfold unl at q
  have e1 : ∀ a b : Str, decide (V.str a = V.str b) = decide (a = b) := fun a b => by
    by_cases h : a = b
    · rw [h]; simp
    · rw [decide_eq_false h, decide_eq_false (fun z => h (V.str.inj z))]
  refine ⟨_, h0, p, C, dx, _, _, rfl, hp, cl, fw, l_word, rfl, _, rfl, ?_⟩
  rw [e1]
  by_cases h : wd = "set"
  · rw [decide_eq_true h] at q ⊢
    refine iteT ⟨_, h0, p, C, dx, _, _, rfl, hp, cl, fm, l_mode, rfl, _, rfl, ?_⟩
    rw [e1]
    exact q
  · rw [decide_eq_false h] at q ⊢
    exact iteF q
/-! ### Members.grow -/
def spGrow (K : PySem.W.Frag) (C : Addr) : Sp := fun vs H Q _ => ∃ (H0 : Hp) (p dx t l0 c : Addr) (ls : List Addr) (wd md : Str) (m : Option Int) (cs : List Int) (k : Nat),
  vs = [.ref p] ∧ TabAt C H0 H p dx t l0 c ls (rowT wd md cs 0 k) (rsT wd md cs (nl m k) k) wd m md ∧ SqL K H0 c (cs.map V.int) ∧ Bn cs ∧ k < cs.length ∧ cs.length ≤ 61 ∧ (∀ i, m = some i → 0 ≤ i) ∧
  md ≠ "rigid" ∧
  ∀ (ls' : List Addr) (H' : Hp), TabAt C H0 H' p dx t l0 c ls' (rowT wd md cs 0 (k + 1)) (rsT wd md cs (nl m (k + 1)) (k + 1)) wd m md → (∀ b o, H b = some o → b ∉ t :: l0 :: ls → H' b = some o) → Q .non H'
theorem ok_grow (T : Tx K mg W) (D : DfM K W.cMembers "grow" "Members.grow" s_Members_grow ["self"]) (C1 : CalM P w K mg base CX0 2 W.cMembers "shared_counts" ["self", "size"] (spShared K W.cMembers))
    (C2 : CalM P w K mg base CX0 1 W.cMembers "next_rows" ["self", "shared", "members", "size"] (spNextRows K W.cMembers)) (C3 : CalM P w K mg base CX0 1 W.cMembers "next_sets" ["self", "members", "size"] (spNextSets K W.cMembers)) :
    CalM P w K mg base CX0 3 W.cMembers "grow" ["self"] (spGrow K W.cMembers) := by
  obtain ⟨f, fd, mt, F, b⟩ := D
  obtain ⟨f1, fd1, M_Members_shared_counts, B_Members_shared_counts, G_Members_shared_counts⟩ := C1.ex
  obtain ⟨f2, fd2, M_Members_next_rows, B_Members_next_rows, G_Members_next_rows⟩ := C2.ex
  obtain ⟨f3, fd3, M_Members_next_sets, B_Members_next_sets, G_Members_next_sets⟩ := C3.ex
  refine ⟨f, fd, mt, b, F.ok sc_Members_grow (fun vs H Q E h => ?_) (fun cdv A outer s H vs Q E hr h => ?_)⟩
  · obtain ⟨_, _, _, _, _, _, _, _, _, _, _, _, rfl, _⟩ := h
    rfl
  · obtain ⟨H0, p, dx, t, l0, c, ls, wd, md, m, cs, k, rfl, S, hc0, hsm, hk, hcl, hm, hmd, q⟩ := h
    refine ⟨_, (pss_cons (ps_set (i := 1) sc_Members_grow.nd rfl (.inl rfl) (pe_callB call_len_seq (by rfl) T.n_len (by decide +kernel) (pa_cons (pe_ix ix_list (pe_fld (pv 0) rfl) pe_int (fun _ _ => rfl)) pa_nil)))
  (pss_cons (ps_expr (pe_bm PySem.F.plainAttrs_list PySem.F.slot_list_append PySem.F.type_list_append mt_append (pe_ix ix_list (pe_fld (pv 0) rfl) pe_int (fun _ _ => rfl)) (pa_cons (pe_ifExp (pt_cmpR op_eq (pv 1) pe_int (nomark _)) pe_int pe_int) pa_nil)))
  (pss_cons (ps_set (i := 2) sc_Members_grow.nd rfl (.inl rfl) (pe_ifExp (pt_cmp (pc_isN (pe_fld (pv 0) rfl)) rfl) (pv 1) (pe_callB (call_min2 rfl) (by rfl) T.n_min (by decide +kernel) (pa_cons (pv 1) (pa_cons (pe_fld (pv 0) rfl) pa_nil)))))
  (pss_cons (ps_set (i := 3) sc_Members_grow.nd rfl (.inl rfl) (pe_meth (pv 0) T.cl_Members M_Members_shared_counts G_Members_shared_counts (hr.mono (by decide)) B_Members_shared_counts .nil pass0 (pa_cons (pv 1) pa_nil)))
  (pss_one (ps_for PassesOwn.never rfl (pi_range2 (by rfl) T.n_range (pa_cons pe_int (pa_cons (pe_op op_add (pv 2) pe_int) pa_nil))) (pg_name (i := 4) sc_Members_grow.nd rfl (.inl rfl)) (
    (pss_cons (ps_if (pt_cmpR op_eq (pv 4) (pe_callB call_len_seq (by rfl) T.n_len (by decide +kernel) (pa_cons (pe_fld (pv 0) rfl) pa_nil)) (nomark _)) (
      (pss_one (ps_expr (pe_bm PySem.F.plainAttrs_list PySem.F.slot_list_append PySem.F.type_list_append mt_append (pe_fld (pv 0) rfl) (pa_cons (pe_op op_rep (pe_lst (pa_cons pe_int pa_nil)) (pv 1)) pa_nil))))) (pss_nil))
    (pss_one (ps_if (PW.pt (pw_and (pt_cmpR op_eq (pe_fld (pv 0) rfl) pe_str (nomark _)) (pw_and1 (pt_cmpR op_ne (pe_fld (pv 0) rfl) (pe_glob (by rfl) T.g_LABELLED T.r_LABELLED) (nomark _))))) (
      (pss_one (ps_expr (pe_bm PySem.F.plainAttrs_list PySem.F.slot_list_append PySem.F.type_list_append mt_append (pe_ix ix_list (pe_fld (pv 0) rfl) (pv 4) (fun _ _ => rfl)) (pa_cons (pe_meth (pv 0) T.cl_Members M_Members_next_sets G_Members_next_sets (hr.mono (by decide)) B_Members_next_sets .nil pass0 (pa_cons (pv 4) (pa_cons (pv 1) pa_nil))) pa_nil))))) (
      (pss_one (ps_expr (pe_bm PySem.F.plainAttrs_list PySem.F.slot_list_append PySem.F.type_list_append mt_append (pe_ix ix_list (pe_fld (pv 0) rfl) (pv 4) (fun _ _ => rfl)) (pa_cons (pe_meth (pv 0) T.cl_Members M_Members_next_rows G_Members_next_rows (hr.mono (by decide)) B_Members_next_rows .nil pass0 (pa_cons (pv 3) (pa_cons (pv 4) (pa_cons (pv 1) pa_nil)))) pa_nil))))))))))))))), ?_⟩
    -- size = len(self.table[0])
    refine ⟨_, rfl, p, _, dx, _, _, rfl, S.hp, T.cl_Members, T.f_table, l_table, t, _, _, .ref l0, rfl, rfl, sq_of S.ht, atI_nat (j := 0) rfl, l0, _, rfl, .inl (sq_of S.h0), ?_⟩
    have ek : (((rowT wd md cs 0 k).map V.int).length : Int) = k := by rw [List.length_map, rowT_len]
    rw [ek]
    -- self.table[0].append(..)
    refine ⟨_, rfl, p, _, dx, _, _, rfl, S.hp, T.cl_Members, T.f_table, l_table, t, _, _, .ref l0, rfl, rfl, sq_of S.ht, atI_nat (j := 0) rfl, .inl ⟨rfl, _, sq_of S.h0⟩, _, rfl, rfl, _, rfl, ?_⟩
    refine ite_tC (v := .int (tg wd md cs 0 k)) (fun e => ?_) (fun e => ?_) ?_
    · have : (k : Int) = 0 := V.int.inj (of_decide_eq_true e)
      rw [tg_0, if_pos (by omega)]
    · have : ¬ k = 0 := fun z => e (decide_eq_true (by rw [z]; rfl))
      rw [tg_0, if_neg this]
    refine ⟨l0, _, _, rfl, rfl, S.h0, szl _ (by rw [List.length_map, rowT_len]; omega), ?_⟩
    have S1 := S.app0 (tg wd md cs 0 k)
    rw [← rowT_succ] at S1
    generalize hH1 : upd H l0 (.lst ((rowT wd md cs 0 k).map V.int ++ [.int (tg wd md cs 0 k)])) = H1 at S1 ⊢
    have fr1 : ∀ b o, H b = some o → b ∉ t :: l0 :: ls → H1 b = some o := fun b o hb nb => by
      rw [← hH1, upd_ne (fun e => nb (by simp [e]))]
      exact hb
    -- limit
    refine rd_limit T.cl_Members T.f_most rfl rfl S1.hp hm ?_
    -- shared = ..
    refine ⟨_, rfl, p, dx, _, rfl, S1.hp, l_no (by decide +kernel) (by decide +kernel) (by decide +kernel) (by decide +kernel) (by decide +kernel), _, rfl, H0, p, dx, t, l0, c, ls, _, _, wd, md, m, cs, k, rfl, S1, S1.sm.seq hc0, hsm, by omega, by omega, fun sh H2 s2 nsh hsh => ?_⟩
    have S2 := S1.mono s2
    have fr2 : ∀ b o, H b = some o → b ∉ t :: l0 :: ls → H2 b = some o := fun b o hb nb => s2 _ _ (fr1 b o hb nb)
    have hshr : sh ∉ t :: l0 :: ls := fun hm => by
      simp only [List.mem_cons] at hm
      rcases hm with e | e | e
      · rw [e, S1.ht] at nsh; cases nsh
      · rw [e, S1.h0] at nsh; cases nsh
      · obtain ⟨j, hj, ej⟩ := List.mem_iff_getElem.mp e
        have g1 : ls[j]? = some sh := by rw [List.getElem?_eq_getElem hj, ej]
        have g2 := List.getElem?_eq_getElem (l := rsT wd md cs (nl m k) k) (i := j) (by rw [← S1.hl]; exact hj)
        rw [S1.hr j sh _ g1 g2] at nsh; cases nsh
    -- for members in range(2, limit + 1)
    have hlim : lim m k ≤ k := by
      cases m with
      | none => exact Nat.le_refl _
      | some i => exact Nat.min_le_left _ _
    refine ⟨_, rfl, _, _, rfl, rfl, _, _, rfl, ⟨by omega, by omega, by omega, by omega⟩, ?_⟩
    have en : ((lim m k : Int) + 1 - 2).toNat = nl m (k + 1) := by
      unfold nl
      rw [Nat.add_sub_cancel]
      omega
    rw [en]
    have hab : nl m k ≤ nl m (k + 1) := by
      unfold nl
      cases m with
      | none => show k - 1 - 1 ≤ k - 1; omega
      | some i => show min (k - 1) i.toNat - 1 ≤ min k i.toNat - 1; omega
    have hz : ∀ i, i < nl m (k + 1) → nl m k ≤ i → k ≤ i + 2 ∧ i + 2 ≤ k := by
      intro i h1 h2
      unfold nl at h1 h2
      cases m with
      | none =>
        have h1 : i < k - 1 := h1
        have h2 : k - 1 - 1 ≤ i := h2
        omega
      | some qq =>
        have h1 : i < min k qq.toNat - 1 := h1
        have h2 : min (k - 1) qq.toNat - 1 ≤ i := h2
        omega
    have hik : ∀ i, i < nl m (k + 1) → i + 2 ≤ k := by
      intro i h1
      unfold nl at h1
      rw [Nat.add_sub_cancel] at h1
      omega
    refine for_range (lo := 2) (fun i σ H' => ∃ (y4 : Option V) (ls2 : List Addr), σ = [some (.ref p), some (.int k), some (.int (lim m k : Nat)), some (.ref sh), y4] ∧
      TabAt W.cMembers H0 H' p dx t l0 c ls2 (rowT wd md cs 0 (k + 1)) (rsAt wd md cs (max (nl m k) i) k i) wd m md ∧ H' sh = some (.lst ((shl md cs k).map V.int)) ∧ sh ∉ t :: l0 :: ls2 ∧
      (∀ l ∈ ls2, l ∈ ls ∨ H l = none) ∧ (∀ l ∈ ls, l ∈ ls2) ∧ (∀ b o, H b = some o → b ∉ t :: l0 :: ls → H' b = some o)) ⟨none, ls, rfl, ?_, hsh, hshr, fun l hl => .inl hl, fun l hl => hl, fr2⟩ ?_ ?_
    · rw [rsAt_0, Nat.max_eq_left (Nat.zero_le _)]
      exact S2
    · rintro i σ H3 hi ⟨y4, ls2, rfl, S3, h3, nsh3, new3, sub3, fr3⟩
      have hi2 := hik i hi
      -- the rest of the turn, once the row is there
      have rest : ∀ (ls3 : List Addr) (H4 : Hp), TabAt W.cMembers H0 H4 p dx t l0 c ls3 (rowT wd md cs 0 (k + 1)) (rsAt wd md cs (max (nl m k) (i + 1)) k i) wd m md → H4 sh = some (.lst ((shl md cs k).map V.int)) → sh ∉ t :: l0 :: ls3 →
          (∀ l ∈ ls3, l ∈ ls ∨ H l = none) → (∀ b o, H b = some o → b ∉ t :: l0 :: ls → H4 b = some o) →
          ∃ (l : Addr) (r : List Int), ls3[i]? = some l ∧ H4 l = some (.lst (r.map V.int)) ∧ r.length = k ∧
            (∀ i', i' < i + 2 → ∃ (o : Addr) (ol : List Int), (l0 :: c :: ls3)[i']? = some o ∧ SqL K H4 o (ol.map V.int) ∧ ∀ n, n < k → ol[n]? = some (tg wd md cs i' n)) ∧
            ∀ H5, Same H4 H5 → (TabAt W.cMembers H0 (upd H5 l (.lst (r.map V.int ++ [.int (tg wd md cs (i + 2) k)]))) p dx t l0 c ls3 (rowT wd md cs 0 (k + 1)) (rsAt wd md cs (max (nl m k) (i + 1)) k (i + 1)) wd m md ∧
              (upd H5 l (.lst (r.map V.int ++ [.int (tg wd md cs (i + 2) k)]))) sh = some (.lst ((shl md cs k).map V.int)) ∧ (∀ b o, H b = some o → b ∉ t :: l0 :: ls → (upd H5 l (.lst (r.map V.int ++ [.int (tg wd md cs (i + 2) k)]))) b = some o)) := by
        intro ls3 H4 S4 h4 nsh4 new4 fr4
        have hlen : ls3.length = max (nl m k) (i + 1) := by rw [S4.hl, rsAt_len]
        have hil : i < ls3.length := by omega
        have gl : ls3[i]? = some ls3[i] := List.getElem?_eq_getElem hil
        have gr : (rsAt wd md cs (max (nl m k) (i + 1)) k i)[i]? = some (rowT wd md cs (i + 2) k) := by
          rw [rsAt_get (by omega), if_neg (Nat.lt_irrefl _)]
        have goal1 : ∀ H5, Same H4 H5 → (TabAt W.cMembers H0 (upd H5 ls3[i] (.lst ((rowT wd md cs (i + 2) k).map V.int ++ [.int (tg wd md cs (i + 2) k)]))) p dx t l0 c ls3 (rowT wd md cs 0 (k + 1)) (rsAt wd md cs (max (nl m k) (i + 1)) k (i + 1)) wd m md ∧
              (upd H5 ls3[i] (.lst ((rowT wd md cs (i + 2) k).map V.int ++ [.int (tg wd md cs (i + 2) k)]))) sh = some (.lst ((shl md cs k).map V.int)) ∧ (∀ b o, H b = some o → b ∉ t :: l0 :: ls → (upd H5 ls3[i] (.lst ((rowT wd md cs (i + 2) k).map V.int ++ [.int (tg wd md cs (i + 2) k)]))) b = some o)) := by
          intro H5 s5
          have S5 := (S4.mono s5).appL (tg wd md cs (i + 2) k) gl gr
          rw [rsAt_set] at S5
          have hmem : ls3[i] ∈ ls3 := List.getElem_mem hil
          refine ⟨S5, ?_, fun b o hb nb => ?_⟩
          · rw [upd_ne (fun e => nsh4 (by rw [e]; simp [hmem]))]
            exact s5 _ _ h4
          · have : b ≠ ls3[i] := fun e => by
              rcases new4 _ hmem with h | h
              · exact nb (by rw [e]; simp [h])
              · rw [← e, hb] at h; cases h
            rw [upd_ne this]
            exact s5 _ _ (fr4 b o hb nb)
        refine ⟨_, _, gl, S4.hr _ _ _ gl gr, rowT_len _ _ _ _ _, fun i' hi' => ?_, goal1⟩
        match i', hi' with
        | 0, _ => exact ⟨l0, _, rfl, sq_of S4.h0, fun n hn => rowT_get (by omega)⟩
        | 1, _ =>
          refine ⟨c, cs, rfl, S4.sm.seq hc0, fun n hn => ?_⟩
          rw [List.getElem?_eq_getElem (by omega), tg_1, List.getD_eq_getElem?_getD, List.getElem?_eq_getElem (by omega)]; rfl
        | z + 2, hi' =>
          have gl' : ls3[z]? = some ls3[z] := List.getElem?_eq_getElem (by omega)
          have gr' : (rsAt wd md cs (max (nl m k) (i + 1)) k i)[z]? = some (rowT wd md cs (z + 2) (k + 1)) := by
            rw [rsAt_get (by omega), if_pos (by omega)]
          exact ⟨ls3[z], _, gl', sq_of (S4.hr _ _ _ gl' gr'), fun n hn => rowT_get (by omega)⟩
      -- if members == len(self.table)
      refine ⟨_, rfl, _, rfl, p, _, dx, _, _, rfl, S3.hp, T.cl_Members, T.f_table, l_table, t, _, rfl, .inl (sq_of S3.ht), rfl, _, rfl, ?_⟩
      have hl3 : ls2.length = max (nl m k) i := by rw [S3.hl, rsAt_len]
      have elen : (((V.ref l0 :: V.ref c :: ls2.map V.ref).length : Nat) : Int) = (ls2.length : Int) + 2 := by
        simp only [List.length_cons, List.length_map]
        omega
      refine ite2 (fun e => ?_) (fun e => ?_)
      · have e' : (2 : Int) + i = (ls2.length : Int) + 2 := elen ▸ V.int.inj (of_decide_eq_true e)
        have ea : nl m k ≤ i := by omega
        obtain ⟨hz1, hz2⟩ := hz i hi ea
        refine ⟨_, rfl, p, _, dx, _, _, rfl, S3.hp, T.cl_Members, T.f_table, l_table, .inl ⟨rfl, _, sq_of S3.ht⟩, sz _ (by show 1 ≤ 100000; decide), fun z0 nz0 => ⟨_, rfl, z0, k, _, rfl, rfl, upd_same, by omega, by omega, sz _ (by simp; omega), fun n nn => ?_⟩⟩
        have s4 : Same H3 (upd H3 z0 (.lst [.int 0])) := same_upd nz0
        have s5 := s4.trans (same_upd (o := HO.lst (List.replicate (k : Int).toNat [V.int 0]).flatten) nn)
        have S5 := S3.mono s5
        have nn3 : H3 n = none := s4.free nn
        have rep : (List.replicate (k : Int).toNat [V.int 0]).flatten = (List.replicate k (0 : Int)).map V.int := by
          rw [Int.toNat_natCast, List.map_replicate]
          induction k with
          | zero => rfl
          | succ j ih => simp [List.replicate_succ]
        have nreg : n ∉ p :: t :: l0 :: ls2 := fun hm => by
          simp only [List.mem_cons] at hm
          rcases hm with e | e | e | e
          · rw [e, S3.hp] at nn3; cases nn3
          · rw [e, S3.ht] at nn3; cases nn3
          · rw [e, S3.h0] at nn3; cases nn3
          · obtain ⟨j, hj, ej⟩ := List.mem_iff_getElem.mp e
            have g1 : ls2[j]? = some n := by rw [List.getElem?_eq_getElem hj, ej]
            have g2 := List.getElem?_eq_getElem (l := rsAt wd md cs (max (nl m k) i) k i) (i := j) (by rw [← S3.hl]; exact hj)
            rw [S3.hr j n _ g1 g2] at nn3; cases nn3
        refine ⟨t, _, _, rfl, rfl, S5.ht, szl _ (by simp; omega), ?_⟩
        have S4 := S5.appT (n := n) (r := List.replicate k 0) (by rw [upd_same, rep]) nreg (S3.sm.free nn3)
        have hmx : max (nl m k) i = i := Nat.max_eq_right ea
        rw [hmx, rsAt_more (Nat.le_refl _) hz1] at S4
        have hmx' : max (nl m k) (i + 1) = i + 1 := Nat.max_eq_right (by omega)
        rw [← hmx'] at S4
        have nsn : sh ≠ n := fun e => by rw [e] at h3; rw [h3] at nn3; cases nn3
        have nst : sh ≠ t := fun e => nsh3 (by simp [e])
        have h4 : (upd (upd (upd H3 z0 (.lst [.int 0])) n (HO.lst (List.replicate (k : Int).toNat [V.int 0]).flatten)) t (HO.lst ((V.ref l0 :: V.ref c :: ls2.map V.ref) ++ [V.ref n]))) sh = some (.lst ((shl md cs k).map V.int)) := by
          rw [upd_ne nst]
          exact s5 _ _ h3
        have nHn : H n = none := by
          cases e1 : H n with
          | none => rfl
          | some o =>
            by_cases hb : n ∈ t :: l0 :: ls
            · simp only [List.mem_cons] at hb
              rcases hb with e2 | e2 | e2
              · exact absurd (by simp [e2]) nreg
              · exact absurd (by simp [e2]) nreg
              · exact absurd (e2 : n ∈ ls) fun e3 => by
                  -- the addresses of the older rows stay among the newer ones
                  exact nreg (by simp [sub3 n e3])
            · rw [fr3 n o e1 hb] at nn3; cases nn3
        have nsh4 : sh ∉ t :: l0 :: (ls2 ++ [n]) := fun hm => by
          simp only [List.mem_cons, List.mem_append, List.mem_nil_iff, or_false] at hm
          rcases hm with e | e | e | e
          · exact nsh3 (by simp [e])
          · exact nsh3 (by simp [e])
          · exact nsh3 (by simp [e])
          · exact nsn e
        have new4 : ∀ l ∈ ls2 ++ [n], l ∈ ls ∨ H l = none := fun l hl => by
          rcases List.mem_append.mp hl with h | h
          · exact new3 l h
          · simp at h
            rw [h]; exact .inr nHn
        have fr4 : ∀ b o, H b = some o → b ∉ t :: l0 :: ls → (upd (upd (upd H3 z0 (.lst [.int 0])) n (HO.lst (List.replicate (k : Int).toNat [V.int 0]).flatten)) t (HO.lst ((V.ref l0 :: V.ref c :: ls2.map V.ref) ++ [V.ref n]))) b = some o := fun b o hb nb => by
          rw [upd_ne (fun e => nb (by simp [e]))]
          exact s5 _ _ (fr3 b o hb nb)
        have sub4 : ∀ l ∈ ls, l ∈ ls2 ++ [n] := fun l hl => List.mem_append_left _ (sub3 l hl)
        generalize (upd (upd (upd H3 z0 (.lst [.int 0])) n (HO.lst (List.replicate (k : Int).toNat [V.int 0]).flatten)) t (HO.lst ((V.ref l0 :: V.ref c :: ls2.map V.ref) ++ [V.ref n]))) = H4 at S4 h4 fr4 ⊢
        generalize ls2 ++ [n] = ls3 at S4 nsh4 new4 sub4
        obtain ⟨l, r, gl, hl4, hrl, cells, fin⟩ := rest ls3 H4 S4 h4 nsh4 new4 fr4
        refine rd_unl T.cl_Members T.f_word T.f_mode rfl S4.hp ?_
        have gT : (V.ref l0 :: V.ref c :: ls3.map V.ref)[i + 2]? = some (V.ref l) := by
          rw [List.getElem?_cons_succ, List.getElem?_cons_succ, List.getElem?_map, gl]; rfl
        cases hu : unl wd md with
        | false =>
          refine iteF ?_
          obtain ⟨o, ol, go, hol, hget⟩ := cells (i + 1) (by omega)
          rw [List.getElem?_cons_succ] at go
          refine ⟨_, rfl, p, _, dx, _, _, rfl, S4.hp, T.cl_Members, T.f_table, l_table, _, rfl, t, _, _, .ref l, rfl, rfl, sq_of S4.ht, atI_of (j := i + 2) (by omega) gT, .inl ⟨rfl, _, sq_of hl4⟩, ?_⟩
          refine ⟨_, rfl, p, dx, _, rfl, S4.hp, l_no (by decide +kernel) (by decide +kernel) (by decide +kernel) (by decide +kernel) (by decide +kernel), _, rfl, _, rfl, _, rfl, H0, p, dx, t, l0, c, ls3, _, _, wd, md, m, cs, k, i, sh, o, ol, by rw [Int.add_comm 2]; rfl, S4, sq_of h4, hsm, by omega, hi2, go, hol, fun n hn => by rw [hget n hn, tg_t hu], fun H5 s5 => ?_⟩
          obtain ⟨f1, f2, f3⟩ := fin H5 s5
          rw [tg_t hu] at f1 f2 f3
          refine ⟨l, _, _, rfl, rfl, s5 _ _ hl4, szl _ (by rw [List.length_map, hrl]; omega), ?_⟩
          exact ⟨_, ls3, rfl, f1, f2, nsh4, new4, sub4, f3⟩
        | true =>
          refine iteT ?_
          refine ⟨_, rfl, p, _, dx, _, _, rfl, S4.hp, T.cl_Members, T.f_table, l_table, _, rfl, t, _, _, .ref l, rfl, rfl, sq_of S4.ht, atI_of (j := i + 2) (by omega) gT, .inl ⟨rfl, _, sq_of hl4⟩, ?_⟩
          refine ⟨_, rfl, p, dx, _, rfl, S4.hp, l_no (by decide +kernel) (by decide +kernel) (by decide +kernel) (by decide +kernel) (by decide +kernel), _, rfl, _, rfl, H0, p, dx, t, l0, c, ls3, _, _, wd, md, m, cs, k, i, by rw [Int.add_comm 2]; rfl, S4, hsm, by omega, hi2, hk, S4.sm.seq hc0, hmd, fun i' hi' => ?_, fun H5 s5 => ?_⟩
          · obtain ⟨o, ol, go, hol, hget⟩ := cells i' hi'
            exact ⟨o, ol, go, hol, fun n hn => by rw [hget n hn, tg_u hu]⟩
          obtain ⟨f1, f2, f3⟩ := fin H5 s5
          rw [tg_u hu] at f1 f2 f3
          refine ⟨l, _, _, rfl, rfl, s5 _ _ hl4, szl _ (by rw [List.length_map, hrl]; omega), ?_⟩
          exact ⟨_, ls3, rfl, f1, f2, nsh4, new4, sub4, f3⟩
      · have e' : ¬ (2 : Int) + i = (ls2.length : Int) + 2 := fun z => e (decide_eq_true (by rw [elen, z]))
        have ea : i < nl m k := by omega
        have S4 := S3
        rw [Nat.max_eq_left (by omega), ← Nat.max_eq_left (show i + 1 ≤ nl m k by omega)] at S4
        have h4 := h3
        have nsh4 := nsh3
        have new4 := new3
        have fr4 := fr3
        have sub4 := sub3
        generalize H3 = H4 at S4 h4 fr4 ⊢
        generalize ls2 = ls3 at S4 nsh4 new4 sub4
        obtain ⟨l, r, gl, hl4, hrl, cells, fin⟩ := rest ls3 H4 S4 h4 nsh4 new4 fr4
        refine rd_unl T.cl_Members T.f_word T.f_mode rfl S4.hp ?_
        have gT : (V.ref l0 :: V.ref c :: ls3.map V.ref)[i + 2]? = some (V.ref l) := by
          rw [List.getElem?_cons_succ, List.getElem?_cons_succ, List.getElem?_map, gl]; rfl
        cases hu : unl wd md with
        | false =>
          refine iteF ?_
          obtain ⟨o, ol, go, hol, hget⟩ := cells (i + 1) (by omega)
          rw [List.getElem?_cons_succ] at go
          refine ⟨_, rfl, p, _, dx, _, _, rfl, S4.hp, T.cl_Members, T.f_table, l_table, _, rfl, t, _, _, .ref l, rfl, rfl, sq_of S4.ht, atI_of (j := i + 2) (by omega) gT, .inl ⟨rfl, _, sq_of hl4⟩, ?_⟩
          refine ⟨_, rfl, p, dx, _, rfl, S4.hp, l_no (by decide +kernel) (by decide +kernel) (by decide +kernel) (by decide +kernel) (by decide +kernel), _, rfl, _, rfl, _, rfl, H0, p, dx, t, l0, c, ls3, _, _, wd, md, m, cs, k, i, sh, o, ol, by rw [Int.add_comm 2]; rfl, S4, sq_of h4, hsm, by omega, hi2, go, hol, fun n hn => by rw [hget n hn, tg_t hu], fun H5 s5 => ?_⟩
          obtain ⟨f1, f2, f3⟩ := fin H5 s5
          rw [tg_t hu] at f1 f2 f3
          refine ⟨l, _, _, rfl, rfl, s5 _ _ hl4, szl _ (by rw [List.length_map, hrl]; omega), ?_⟩
          exact ⟨_, ls3, rfl, f1, f2, nsh4, new4, sub4, f3⟩
        | true =>
          refine iteT ?_
          refine ⟨_, rfl, p, _, dx, _, _, rfl, S4.hp, T.cl_Members, T.f_table, l_table, _, rfl, t, _, _, .ref l, rfl, rfl, sq_of S4.ht, atI_of (j := i + 2) (by omega) gT, .inl ⟨rfl, _, sq_of hl4⟩, ?_⟩
          refine ⟨_, rfl, p, dx, _, rfl, S4.hp, l_no (by decide +kernel) (by decide +kernel) (by decide +kernel) (by decide +kernel) (by decide +kernel), _, rfl, _, rfl, H0, p, dx, t, l0, c, ls3, _, _, wd, md, m, cs, k, i, by rw [Int.add_comm 2]; rfl, S4, hsm, by omega, hi2, hk, S4.sm.seq hc0, hmd, fun i' hi' => ?_, fun H5 s5 => ?_⟩
          · obtain ⟨o, ol, go, hol, hget⟩ := cells i' hi'
            exact ⟨o, ol, go, hol, fun n hn => by rw [hget n hn, tg_u hu]⟩
          obtain ⟨f1, f2, f3⟩ := fin H5 s5
          rw [tg_u hu] at f1 f2 f3
          refine ⟨l, _, _, rfl, rfl, s5 _ _ hl4, szl _ (by rw [List.length_map, hrl]; omega), ?_⟩
          exact ⟨_, ls3, rfl, f1, f2, nsh4, new4, sub4, f3⟩
    · rintro σ H3 ⟨y4, ls2, rfl, S3, h3, nsh3, new3, sub3, fr3⟩
      rw [Nat.max_eq_right hab, rsAt_all (Nat.le_refl _)] at S3
      exact q ls2 H3 S3 fr3
end
end SM

namespace SM
open PySem L2
theorem dec_str (a b : Str) : decide (V.str a = V.str b) = decide (a = b) := by
  by_cases h : a = b
  · rw [h]; simp
  · rw [decide_eq_false h, decide_eq_false (fun z => h (V.str.inj z))]
theorem fdiv_one (v : Int) : v.fdiv 1 = v := by
  rw [Int.fdiv_eq_ediv_of_nonneg _ (by decide), Int.ediv_one]
theorem q_fdiv1 {R : VK} {v : Int} {H : Hp} (h : R (.int v) H) : R ((fun i j : Int => V.int (i.fdiv j)) v 1) H := by
  show R (.int (v.fdiv 1)) H
  rw [fdiv_one]
  exact h
section
variable {P : Program} {w : World} {K : PySem.W.Frag} {mg : Str → Option Value} {base : Heap} {W : Ad}
/-- a place of the table -/
def Cell (K : PySem.W.Frag) (H : Hp) (l0 c : Addr) (ls : List Addr) (j n : Nat) (v : Int) : Prop := ∃ (l : Addr) (ol : List Int), (l0 :: c :: ls)[j]? = some l ∧ SqL K H l (ol.map V.int) ∧ ol[n]? = some v
theorem Cell.mono {H H' : Hp} {l0 c : Addr} {ls : List Addr} {j n : Nat} {v : Int} (h : Cell K H l0 c ls j n v) (s : Same H H') : Cell K H' l0 c ls j n v := by
  obtain ⟨l, ol, a, b, d⟩ := h
  exact ⟨l, ol, a, s.seq b, d⟩
/-- self.table[a][b] -/
theorem rd_cell {C : Addr} {H0 H : Hp} {p dx t l0 c : Addr} {ls : List Addr} {r0 : List Int} {rs : List (List Int)} {wd md : Str} {m : Option Int} {j n : Nat} {v : Int} {σ : St} {Q : VK} {ta tb : TE}
    (S : TabAt C H0 H p dx t l0 c ls r0 rs wd m md) (cl : Cls K C) (ft : NoAttr K C "table") (hc : Cell K H l0 c ls j n v) (h0 : σ[0]? = some (some (.ref p)))
    (ha : ∀ R : VK, R (.int j) H → ta σ H R) (hb : ∀ R : VK, R (.int n) H → tb σ H R) (q : Q (.int v) H) :
    tOp (rIxL K) (tOp (rIxL K) (tFld K (tVar 0) "table") ta) tb σ H Q := by
  obtain ⟨l, ol, g1, g2, g3⟩ := hc
  refine ⟨_, h0, p, C, dx, _, _, rfl, S.hp, cl, ft, l_table, ha _ ⟨t, _, _, .ref l, rfl, rfl, sq_of S.ht, atI_nat (j := j) ?_, hb _ ⟨l, _, _, .int v, rfl, rfl, g2, atI_nat (j := n) ?_, q⟩⟩⟩
  · rw [← List.map_cons (f := V.ref), ← List.map_cons (f := V.ref), List.getElem?_map, g1]; rfl
  · rw [List.getElem?_map, g3]; rfl
/-! ### Members.rings -/
def ringL (j n : Nat) : List Nat := (List.range (Nat.gcd j n)).filter fun i => decide (Nat.gcd j n % (i + 1) = 0)
def ringV (g : Nat → Nat → Int) (j n : Nat) : Int := ((ringL j n).map fun i => phi (i + 1) * g (j / (i + 1)) (n / (i + 1))).sum / (j : Int)
theorem phi_le (n : Nat) : 0 ≤ phi n ∧ phi n ≤ n := by
  unfold phi
  have := List.length_filter_le (fun i => Nat.gcd (i + 1) n == 1) (List.range n)
  rw [List.length_range] at this
  omega
def spRings (K : PySem.W.Frag) (C : Addr) : Sp := fun vs H Q _ => ∃ (H0 : Hp) (p dx t l0 c : Addr) (ls : List Addr) (r0 : List Int) (rs : List (List Int)) (wd md : Str) (m : Option Int) (j n : Nat) (g : Nat → Nat → Int),
  vs = [.ref p, .int j, .int n] ∧ TabAt C H0 H p dx t l0 c ls r0 rs wd m md ∧ (∀ a b, a ≤ j → b ≤ n → Cell K H l0 c ls a b (g a b)) ∧ md ≠ "rigid" ∧ 1 ≤ j ∧ j ≤ 1000 ∧ n ≤ 1000 ∧ ∀ H', Same H H' → Q (.int (ringV g j n)) H'
theorem ok_rings0 (T : Tx K mg W) (D : DfM K W.cMembers "rings" "Members.rings" s_Members_rings ["self", "members", "size"]) (C1 : Cal P w K mg base CX0 1 "divisors" ["number"] spDivs)
    (C2 : Cal P w K mg base CX0 1 "totient" ["number"] spPhi) : CalM P w K mg base CX0 2 W.cMembers "rings" ["self", "members", "size"] (spRings K W.cMembers) := by
  obtain ⟨f, fd, mt, F, b⟩ := D
  obtain ⟨f1, fd1, g_divisors, k_divisors, b_divisors, G_divisors⟩ := C1.ex
  obtain ⟨f2, fd2, g_totient, k_totient, b_totient, G_totient⟩ := C2.ex
  refine ⟨f, fd, mt, b, F.ok sc_Members_rings (fun vs H Q E h => ?_) (fun cdv A outer s H vs Q E hr h => ?_)⟩
  · obtain ⟨_, _, _, _, _, _, _, _, _, _, _, _, _, _, _, rfl, _⟩ := h
    rfl
  · obtain ⟨H0, p, dx, t, l0, c, ls, r0, rs, wd, md, m, j, n, g, rfl, S, hc, hmd, hj1, hj, hn, q⟩ := h
    refine ⟨_, (pss_cons (ps_set (i := 3) sc_Members_rings.nd rfl (.inl rfl) pe_int)
  (pss_cons (ps_for PassesOwn.never rfl (pi_list (pe_call G_divisors (hr.mono (by decide)) (by rfl) g_divisors k_divisors b_divisors .nil pass0 (pa_cons (pe_callBfun cr_gcd (by rfl) T.m_gcd (pa_cons (pv 1) (pa_cons (pv 2) pa_nil))) pa_nil))) (pg_name (i := 4) sc_Members_rings.nd rfl (.inl rfl)) (
    (pss_cons (ps_set (i := 5) sc_Members_rings.nd rfl (.inl rfl) (pe_ifExp (pt_cmpR op_eq (pe_fld (pv 0) rfl) (pe_glob (by rfl) T.g_RIGID T.r_RIGID) (nomark _)) pe_never (pe_call G_totient (hr.mono (by decide)) (by rfl) g_totient k_totient b_totient .nil pass0 (pa_cons (pv 4) pa_nil))))
    (pss_one (ps_aug (i := 3) sc_Members_rings.nd rfl (.inl rfl) (pe_op op_mul (pv 5) (pe_ix ix_list (pe_ix ix_list (pe_fld (pv 0) rfl) (pe_op op_fdiv (pv 1) (pv 4)) (fun _ _ => rfl)) (pe_op op_fdiv (pv 2) (pv 4)) (fun _ _ => rfl))) ip_add)))))
  (pss_one (ps_ret (pe_op op_fdiv (pv 3) (pv 1)))))), ?_⟩
    have hgj : Nat.gcd j n ≤ j := Nat.le_of_dvd (by omega) (Nat.gcd_dvd_left j n)
    refine ⟨_, rfl, _, rfl, _, _, rfl, Nat.gcd j n, (by show [V.int ((Nat.gcd ((j : Int).natAbs) ((n : Int).natAbs) : Nat) : Int)] = _; rw [Int.natAbs_natCast, Int.natAbs_natCast]), by omega, fun pd H1 s1 nd hd => ?_⟩
    have hdl : (divs (Nat.gcd j n)).map V.int = (ringL j n).map fun i : Nat => V.int ((i : Int) + 1) := by
      unfold divs ringL
      rw [List.map_map]; rfl
    rw [hdl] at hd
    refine ⟨pd, rfl, ⟨_, sq_of hd⟩, for_list (K := K) (a := pd) (xs := (ringL j n).map fun i : Nat => V.int ((i : Int) + 1)) (fun i σ H' => ∃ y4 y5, σ = [some (.ref p), some (.int j), some (.int n), some (.int ((((ringL j n).take i).map fun i => phi (i + 1) * g (j / (i + 1)) (n / (i + 1))).sum)), y4, y5] ∧ Same H1 H') ⟨none, none, rfl, .refl _⟩ (fun i σ H' _ ⟨_, _, _, s⟩ => sq_of (s _ _ hd)) ?_ ?_⟩
    · rintro i x σ H' hi ⟨y4, y5, rfl, s2⟩
      obtain ⟨z, hz, rfl⟩ : ∃ z, (ringL j n)[i]? = some z ∧ x = V.int ((z : Int) + 1) := by
        rw [List.getElem?_map] at hi
        cases e : (ringL j n)[i]? with
        | none => rw [e] at hi; cases hi
        | some z => rw [e] at hi; exact ⟨z, rfl, (Option.some.inj hi).symm⟩
      have hzl : z < Nat.gcd j n := List.mem_range.mp (List.mem_filter.mp (List.mem_of_getElem? hz)).1
      have S2 := S.mono (s1.trans s2)
      refine ⟨_, rfl, p, _, dx, _, _, rfl, S2.hp, T.cl_Members, T.f_mode, l_mode, rfl, _, rfl, ?_⟩
      rw [dec_str, decide_eq_false hmd]
      refine iteF ⟨_, rfl, z + 1, rfl, by omega, fun H3 s3 => ?_⟩
      have S3 := S2.mono s3
      have hc3 := (hc (j / (z + 1)) (n / (z + 1)) (Nat.div_le_self _ _) (Nat.div_le_self _ _)).mono ((s1.trans s2).trans s3)
      refine ⟨_, rfl, _, rfl, ?_⟩
      refine rd_cell S3 T.cl_Members T.f_table hc3 rfl (j := j / (z + 1)) (n := n / (z + 1)) (fun R k => ⟨_, rfl, _, rfl, _, _, rfl, rfl, ⟨by omega, by omega⟩, k⟩) (fun R k => ⟨_, rfl, _, rfl, _, _, rfl, rfl, ⟨by omega, by omega⟩, k⟩) ?_
      have hp := phi_le (z + 1)
      refine ⟨_, _, rfl, rfl, .inl ⟨by omega, by omega⟩, _, _, rfl, rfl, some (.int ((z : Int) + 1)), some (.int (phi (z + 1))), ?_, (s2.trans s3)⟩
      rw [take_more hz, List.map_append, List.sum_append]
      simp only [List.map_cons, List.map_nil, List.sum_cons, List.sum_nil, Int.add_zero]
      rfl
    · rintro σ H' ⟨y4, y5, rfl, s2⟩
      rw [List.length_map, List.take_length]
      refine ⟨_, rfl, _, rfl, _, _, rfl, rfl, ⟨by omega, by omega⟩, ?_⟩
      exact q H' (s1.trans s2)
/-! ### Members.exactly -/
def fct (j : Nat) : Int := ((Builtin.Math.factorialNat j : Nat) : Int)
def exG (wd md : Str) (cs : List Int) (j n : Nat) : Int :=
  if wd = "row" ∨ unl wd md = true then tg wd md cs j n else if wd = "set" then tg wd md cs j n / fct j else if md = "labelled" then tg wd md cs j n / (j : Int) else ringV (fun a b => tg wd md cs a b) j n
def factOk : Bool := (List.range 62).all fun a => decide (0 < fct a) && decide ((fct a).natAbs.log2 < 9000)
theorem factOk_t : factOk = true := by decide +kernel
theorem fct_ok {a : Nat} (h : a ≤ 61) : CDivW 0 (fct a) := by
  have h0 := factOk_t
  unfold factOk at h0
  rw [List.all_eq_true] at h0
  have h1 := h0 a (List.mem_range.mpr (by omega))
  rw [Bool.and_eq_true, decide_eq_true_eq, decide_eq_true_eq] at h1
  exact h1
def spExactly (K : PySem.W.Frag) (C : Addr) : Sp := fun vs H Q _ => ∃ (H0 : Hp) (p dx t l0 c : Addr) (ls : List Addr) (r0 : List Int) (rs : List (List Int)) (wd md : Str) (m : Option Int) (cs : List Int) (j n : Nat),
  vs = [.ref p, .int j, .int n] ∧ TabAt C H0 H p dx t l0 c ls r0 rs wd m md ∧ (∀ a b, a ≤ j → b ≤ n → Cell K H l0 c ls a b (tg wd md cs a b)) ∧ md ≠ "rigid" ∧ n ≤ 61 ∧ j ≤ 61 ∧ (wd = "row" ∨ wd = "set" ∨ 1 ≤ j) ∧ ∀ H', Same H H' → Q (.int (exG wd md cs j n)) H'
theorem ok_exactly (T : Tx K mg W) (D : DfM K W.cMembers "exactly" "Members.exactly" s_Members_exactly ["self", "members", "size"])
    (C1 : CalM P w K mg base CX0 2 W.cMembers "rings" ["self", "members", "size"] (spRings K W.cMembers)) : CalM P w K mg base CX0 3 W.cMembers "exactly" ["self", "members", "size"] (spExactly K W.cMembers) := by
  obtain ⟨f, fd, mt, F, b⟩ := D
  obtain ⟨f1, fd1, M_Members_rings, B_Members_rings, G_Members_rings⟩ := C1.ex
  refine ⟨f, fd, mt, b, F.ok sc_Members_exactly (fun vs H Q E h => ?_) (fun cdv A outer s H vs Q E hr h => ?_)⟩
  · obtain ⟨_, _, _, _, _, _, _, _, _, _, _, _, _, _, _, rfl, _⟩ := h
    rfl
  · obtain ⟨H0, p, dx, t, l0, c, ls, r0, rs, wd, md, m, cs, j, n, rfl, S, hcell, hmd, hn, hj, hw, q⟩ := h
    have hc := hcell j n (Nat.le_refl _) (Nat.le_refl _)
    refine ⟨_, (pss_cons (ps_if (PW.pt (pw_or (pt_cmpR op_eq (pe_fld (pv 0) rfl) pe_str (nomark _)) (pw_or1 (PW.pt (pw_and (pt_cmpR op_eq (pe_fld (pv 0) rfl) pe_str (nomark _)) (pw_and1 (pt_cmpR op_ne (pe_fld (pv 0) rfl) (pe_glob (by rfl) T.g_LABELLED T.r_LABELLED) (nomark _)))))))) (
    (pss_one (ps_ret (pe_ix ix_list (pe_ix ix_list (pe_fld (pv 0) rfl) (pv 1) (fun _ _ => rfl)) (pv 2) (fun _ _ => rfl))))) (pss_nil))
  (pss_cons (ps_if (pt_cmpR op_eq (pe_fld (pv 0) rfl) pe_str (nomark _)) (
    (pss_one (ps_ret (pe_op op_fdivW (pe_ix ix_list (pe_ix ix_list (pe_fld (pv 0) rfl) (pv 1) (fun _ _ => rfl)) (pv 2) (fun _ _ => rfl)) (pe_callBfun cr_factorial (by rfl) T.m_factorial (pa_cons (pv 1) pa_nil)))))) (pss_nil))
  (pss_cons (ps_if (pt_cmpR op_eq (pe_fld (pv 0) rfl) (pe_glob (by rfl) T.g_LABELLED T.r_LABELLED) (nomark _)) (
    (pss_one (ps_ret (pe_op op_fdiv (pe_ix ix_list (pe_ix ix_list (pe_fld (pv 0) rfl) (pv 1) (fun _ _ => rfl)) (pv 2) (fun _ _ => rfl)) (pv 1))))) (pss_nil))
  (pss_one (ps_ret (pe_meth (pv 0) T.cl_Members M_Members_rings G_Members_rings (hr.mono (by decide)) B_Members_rings .nil pass0 (pa_cons (pv 1) (pa_cons (pv 2) pa_nil)))))))), ?_⟩
    refine ⟨_, rfl, p, _, dx, _, _, rfl, S.hp, T.cl_Members, T.f_word, l_word, rfl, _, rfl, ?_⟩
    rw [dec_str]
    by_cases h1 : wd = "row"
    · have q' := q H (.refl H)
      unfold exG at q'
      rw [if_pos (.inl h1)] at q'
      rw [decide_eq_true h1]
      refine iteT (iteT ?_)
      exact rd_cell S T.cl_Members T.f_table hc rfl (fun R k => ⟨_, rfl, k⟩) (fun R k => ⟨_, rfl, k⟩) q'
    · rw [decide_eq_false h1]
      refine iteF ?_
      refine rd_unl T.cl_Members T.f_word T.f_mode rfl S.hp ?_
      cases hu : unl wd md with
      | true =>
        have q' := q H (.refl H)
        unfold exG at q'
        rw [if_pos (.inr hu)] at q'
        refine iteT ?_
        exact rd_cell S T.cl_Members T.f_table hc rfl (fun R k => ⟨_, rfl, k⟩) (fun R k => ⟨_, rfl, k⟩) q'
      | false =>
        have hno : ¬ (wd = "row" ∨ unl wd md = true) := fun z => z.elim h1 (fun y => by rw [hu] at y; cases y)
        refine iteF ?_
        refine ⟨_, rfl, p, _, dx, _, _, rfl, S.hp, T.cl_Members, T.f_word, l_word, rfl, _, rfl, ?_⟩
        rw [dec_str]
        by_cases h2 : wd = "set"
        · have q' := q H (.refl H)
          unfold exG at q'
          rw [if_neg hno, if_pos h2] at q'
          rw [decide_eq_true h2]
          refine iteT ?_
          refine rd_cell S T.cl_Members T.f_table hc rfl (fun R k => ⟨_, rfl, k⟩) (fun R k => ⟨_, rfl, k⟩) ?_
          refine ⟨_, rfl, _, rfl, by omega, by omega, ⟨_, fct j, rfl, ?_, fct_ok hj, q'⟩⟩
          rw [Int.toNat_natCast]; rfl
        · rw [decide_eq_false h2]
          refine iteF ?_
          refine ⟨_, rfl, p, _, dx, _, _, rfl, S.hp, T.cl_Members, T.f_mode, l_mode, rfl, _, rfl, ?_⟩
          rw [dec_str]
          have hj1 : 1 ≤ j := (hw.resolve_left h1).resolve_left h2
          by_cases h3 : md = "labelled"
          · have q' := q H (.refl H)
            unfold exG at q'
            rw [if_neg hno, if_neg h2, if_pos h3] at q'
            rw [decide_eq_true h3]
            refine iteT ?_
            refine rd_cell S T.cl_Members T.f_table hc rfl (fun R k => ⟨_, rfl, k⟩) (fun R k => ⟨_, rfl, k⟩) ?_
            exact ⟨_, rfl, _, _, rfl, rfl, ⟨by omega, by omega⟩, q'⟩
          · rw [decide_eq_false h3]
            refine iteF ?_
            refine ⟨_, rfl, p, dx, _, rfl, S.hp, l_no (by decide +kernel) (by decide +kernel) (by decide +kernel) (by decide +kernel) (by decide +kernel), _, rfl, _, rfl, H0, p, dx, t, l0, c, ls, r0, rs, wd, md, m, j, n, fun a b => tg wd md cs a b, rfl, S, hcell, hmd, hj1, by omega, by omega, fun H' s' => ?_⟩
            have q' := q H' s'
            unfold exG at q'
            rw [if_neg hno, if_neg h2, if_neg h3] at q'
            exact q'
/-! ### Members.within -/
def spWithin (K : PySem.W.Frag) (C : Addr) : Sp := fun vs H Q _ => ∃ (H0 : Hp) (p dx t l0 c : Addr) (ls : List Addr) (r0 : List Int) (rs : List (List Int)) (wd md : Str) (m : Option Int) (cs : List Int) (lo n : Nat),
  vs = [.ref p, .int lo, oV m, .int n] ∧ TabAt C H0 H p dx t l0 c ls r0 rs wd m md ∧ md ≠ "rigid" ∧ n ≤ 61 ∧ lo ≤ 1000 ∧ (∀ i, m = some i → 0 ≤ i) ∧ (wd = "row" ∨ wd = "set" ∨ 1 ≤ lo) ∧
  (∀ a b, a ≤ lim m (max n 1) → b ≤ n → Cell K H l0 c ls a b (tg wd md cs a b)) ∧
  ∀ H', Same H H' → Q (.int ((List.range (lim m (max n 1) + 1 - lo)).map fun i => exG wd md cs (lo + i) n).sum) H'
theorem ok_within (T : Tx K mg W) (D : DfM K W.cMembers "within" "Members.within" s_Members_within ["self", "least", "most", "size"])
    (C1 : CalM P w K mg base CX0 3 W.cMembers "exactly" ["self", "members", "size"] (spExactly K W.cMembers)) : CalM P w K mg base CX0 4 W.cMembers "within" ["self", "least", "most", "size"] (spWithin K W.cMembers) := by
  obtain ⟨f, fd, mt, F, b⟩ := D
  obtain ⟨f1, fd1, M_Members_exactly, B_Members_exactly, G_Members_exactly⟩ := C1.ex
  refine ⟨f, fd, mt, b, F.ok sc_Members_within (fun vs H Q E h => ?_) (fun cdv A outer s H vs Q E hr h => ?_)⟩
  · obtain ⟨_, _, _, _, _, _, _, _, _, _, _, _, _, _, _, rfl, _⟩ := h
    rfl
  · obtain ⟨H0, p, dx, t, l0, c, ls, r0, rs, wd, md, m, cs, lo, n, rfl, S, hmd, hn, hlo, hm, hwl, hcell, q⟩ := h
    refine ⟨_, (pss_cons (ps_set (i := 4) sc_Members_within.nd rfl (.inl rfl) (pe_callB (call_max2 rfl) (by rfl) T.n_max (by decide +kernel) (pa_cons (pv 3) (pa_cons pe_int pa_nil))))
  (pss_cons (ps_set (i := 5) sc_Members_within.nd rfl (.inl rfl) (pe_ifExp (pt_cmp (pc_isN (pv 2)) rfl) (pv 4) (pe_callB (call_min2 rfl) (by rfl) T.n_min (by decide +kernel) (pa_cons (pv 4) (pa_cons (pv 2) pa_nil)))))
  (pss_one (ps_ret (pe_callB (cr_sum rfl) (by rfl) T.n_sum (by decide +kernel) (pa_cons (pe_lc (own := [("members", 6)]) rfl sc_Members_within.nd (pi_range2 (by rfl) T.n_range (pa_cons (pv 1) (pa_cons (pe_op op_add (pv 5) pe_int) pa_nil))) (blkOk_by (own := [("members", 6)]) (N := ["self", "least", "most", "size", "greatest", "last", "members"]) (sc := defScope s_Members_within) (by decide +kernel)) (fun _ _ _ _ _ => (pg_name (i := 6) sc_Members_within.nd rfl (.inl rfl))) (fun _ _ _ _ _ => pts_nil) (fun _ _ _ _ _ => (pe_meth (pv 0) T.cl_Members M_Members_exactly G_Members_exactly (hr.mono (by decide)) B_Members_exactly .nil pass0 (pa_cons (pv 6) (pa_cons (pv 3) pa_nil))))) pa_nil)))))), ?_⟩
    refine ⟨_, rfl, _, _, rfl, ?_⟩
    have e1 : (if (1 : Int) > (n : Int) then (1 : Int) else (n : Int)) = ((max n 1 : Nat) : Int) := by
      split <;> omega
    rw [e1]
    have rd : ∀ (Q' : VK) (σ : St), σ[2]? = some (some (oV m)) → σ[4]? = some (some (.int ((max n 1 : Nat) : Int))) → Q' (.int (lim m (max n 1) : Nat)) H →
        tIf (tB (tIsN (tVar 2))) (tVar 4) (tCB (fun xs H Q => ∃ i j, xs = [.int i, .int j] ∧ Q (.int (if j < i then j else i)) H) (tCons (tVar 4) (tCons (tVar 2) tNil))) σ H Q' := by
      intro Q' σ h2 h4 q'
      cases m with
      | none => exact ⟨_, h2, true, rfl, iteT ⟨_, h4, q'⟩⟩
      | some i =>
        have hi := hm i rfl
        refine ⟨_, h2, false, rfl, iteF ⟨_, h4, _, h2, _, _, rfl, ?_⟩⟩
        have e : (if i < ((max n 1 : Nat) : Int) then i else ((max n 1 : Nat) : Int)) = ((lim (some i) (max n 1) : Nat) : Int) := by
          rw [show lim (some i) (max n 1) = min (max n 1) i.toNat from rfl]
          split <;> omega
        rw [e]
        exact q'
    refine rd _ _ rfl rfl ?_
    have hlim : lim m (max n 1) ≤ max n 1 := by
      cases m with
      | none => exact Nat.le_refl _
      | some i => exact Nat.min_le_left _ _
    generalize lim m (max n 1) = L at hcell q hlim ⊢
    refine ⟨_, rfl, _, rfl, _, _, rfl, rfl, _, _, rfl, ⟨by omega, by omega, by omega, by omega⟩, fun Dn hD => ?_⟩
    have en : ((L : Int) + 1 - (lo : Int)).toNat = L + 1 - lo := by omega
    rw [en]
    refine lc_rangeM (lo := (lo : Int)) (j := 6) (fun i => V.int (exG wd md cs (lo + i) n)) (by omega) hD (fun i hi H1 s2 R kk => ?_) (fun H1 s2 h1 => ?_)
    · have S1 := S.mono s2
      exact ⟨_, rfl, p, dx, _, rfl, S1.hp, l_no (by decide +kernel) (by decide +kernel) (by decide +kernel) (by decide +kernel) (by decide +kernel), _, rfl, _, rfl, H0, p, dx, t, l0, c, ls, r0, rs, wd, md, m, cs, lo + i, n, by rfl, S1, fun a b ha hb => (hcell a b (by omega) hb).mono s2, hmd, hn, by omega, hwl.imp id (fun z => z.imp id (fun y => by omega)), fun H' s' => kk H' s'⟩
    · refine ⟨Dn, (List.range (L + 1 - lo)).map fun i => exG wd md cs (lo + i) n, rfl, sq_of ?_, ?_⟩
      · rw [h1, List.map_map]; rfl
      · exact q H1 s2
end
end SM

namespace SM
open PySem L2
theorem TabAt.rebase {C : Addr} {B H : Hp} {q : Addr} {o o' : HO} {p dx t l0 c : Addr} {ls : List Addr} {r0 : List Int} {rs : List (List Int)} {w md : Str} {m : Option Int} (S : TabAt C (upd B q o) H p dx t l0 c ls r0 rs w m md) :
    TabAt C (upd B q o') (upd H q o') p dx t l0 c ls r0 rs w m md := by
  have nq : ∀ a ∈ p :: t :: l0 :: ls, a ≠ q := fun a ha e => by
    have := S.fr a ha
    rw [e, upd_same] at this
    cases this
  have hB : ∀ a ∈ p :: t :: l0 :: ls, B a = none := fun a ha => by
    have := S.fr a ha
    rw [upd_ne (nq a ha)] at this
    exact this
  refine ⟨fun b x e => ?_, ?_, ?_, ?_, S.hl, fun j l r a b => ?_, S.nd, fun a ha => ?_⟩
  · by_cases h : b = q
    · subst h
      rw [upd_same] at e ⊢
      exact e
    · rw [upd_ne h] at e ⊢
      exact S.sm b x (by rw [upd_ne h]; exact e)
  · rw [upd_ne (nq p (by simp))]; exact S.hp
  · rw [upd_ne (nq t (by simp))]; exact S.ht
  · rw [upd_ne (nq l0 (by simp))]; exact S.h0
  · have hm : l ∈ ls := List.mem_of_getElem? a
    rw [upd_ne (nq l (by simp [hm]))]
    exact S.hr j l r a b
  · rw [upd_ne (nq a ha)]
    exact hB a ha
/-! ### rows, sets, rings -/
def inW (wd : Str) : Bool := inV (.str wd) [.str "row", .str "set", .str "ring"]
theorem isR_of {wd : Str} (h : inW wd = true) : wd = "row" ∨ wd = "set" ∨ wd = "ring" := by
  unfold inW inV at h
  simp only [List.any_cons, List.any_nil, Bool.or_false, Bool.or_eq_true, eqV, beq_iff_eq] at h
  rcases h with h | h | h
  · exact .inl h.symm
  · exact .inr (.inl h.symm)
  · exact .inr (.inr h.symm)
def outG (wd md : Str) (cs : List Int) (m : Option Int) (lo n : Nat) : Int := ((List.range (lim m (max n 1) + 1 - lo)).map fun i => exG wd md cs (lo + i) n).sum
def spCW : Sp := fun vs H Q _ => ∃ (wd : Str) (a : Addr) (cs : List Int) (l : Nat) (m : Option Int) (lb : Bool), vs = [.str wd, .ref a, .int l, oV m, .bl lb] ∧ H a = some (.lst (cs.map V.int)) ∧ Bn cs ∧ 1 ≤ cs.length ∧ cs.length ≤ 61 ∧ inW wd = true ∧ areB wd l m = true ∧
  (cs.getD 0 0 = 0 ∨ moreB m = false) ∧ l ≤ 1000 ∧ ∀ (p : Addr) (H' : Hp), Same H H' → H p = none → H' p = some (.lst (((List.range cs.length).map fun n => outG wd (modeS lb) cs m l n).map V.int)) → Q (.ref p) H'
section
variable {P : Program} {w : World} {K : PySem.W.Frag} {mg : Str → Option Value} {base : Heap} {W : Ad}
theorem ok_CW (T : Tx K mg W) (D : Df K mg "_counts_within" s__counts_within ["word", "counts", "least", "most", "labelled"])
    (C1 : Cal P w K mg base CX0 2 "check_counts" ["counts"] spCheck) (C2 : Cal P w K mg base CX0 2 "are_bounds" ["word", "least", "most"] spBounds) (C3 : Cal P w K mg base CX0 1 "more_than_one" ["most"] spMore)
    (C4 : Cal P w K mg base CX0 1 "mode_of" ["labelled"] spMode) (MKI : ∃ f, Mk K W.cMembers f ∧ ∃ fd, Binds K fd ["self", "word", "most", "counts", "mode"] [] ∧ FnOk P w K mg base CX0 1 f fd ["self", "word", "most", "counts", "mode"] (spInit W.cMembers))
    (C5 : CalM P w K mg base CX0 3 W.cMembers "grow" ["self"] (spGrow K W.cMembers)) (C6 : CalM P w K mg base CX0 4 W.cMembers "within" ["self", "least", "most", "size"] (spWithin K W.cMembers)) :
    Cal P w K mg base CX0 5 "_counts_within" ["word", "counts", "least", "most", "labelled"] spCW := by
  obtain ⟨f, fd, g, F, b⟩ := D
  obtain ⟨f1, fd1, g_check_counts, k_check_counts, b_check_counts, G_check_counts⟩ := C1.ex
  obtain ⟨f2, fd2, g_are_bounds, k_are_bounds, b_are_bounds, G_are_bounds⟩ := C2.ex
  obtain ⟨f3, fd3, g_more_than_one, k_more_than_one, b_more_than_one, G_more_than_one⟩ := C3.ex
  obtain ⟨f4, fd4, g_mode_of, k_mode_of, b_mode_of, G_mode_of⟩ := C4.ex
  obtain ⟨fi, MK_Members, fdi, B_Members_init, G_Members_init⟩ := MKI
  obtain ⟨f5, fd5, M_Members_grow, B_Members_grow, G_Members_grow⟩ := C5.ex
  obtain ⟨f6, fd6, M_Members_within, B_Members_within, G_Members_within⟩ := C6.ex
  refine ⟨f, fd, g, F.kp, b, F.ok sc__counts_within (fun vs H Q E h => ?_) (fun cdv A outer s H vs Q E hr h => ?_)⟩
  · obtain ⟨_, _, _, _, _, _, rfl, _⟩ := h
    rfl
  · obtain ⟨wd, a, cs, lo, m, lb, rfl, hA, hsm, hc1, hc61, hw, hb, hhm, hl, k⟩ := h
    have hcl : 1 ≤ cs.length ∧ cs.length ≤ 61 := ⟨hc1, hc61⟩
    refine ⟨_, (pss_cons (ps_expr (pe_call G_check_counts (hr.mono (by decide)) (by rfl) g_check_counts k_check_counts b_check_counts .nil pass0 (pa_cons (pv 1) pa_nil)))
  (pss_cons (ps_if (PW.pt (pw_or (pt_cmpR op_notIn_seq (pv 0) (pe_glob (by rfl) T.g_MEMBER_WORDS T.r_MEMBER_WORDS) (by rfl)) (pw_or1 (pt_not (pt_val (pe_call G_are_bounds (hr.mono (by decide)) (by rfl) g_are_bounds k_are_bounds b_are_bounds .nil pass0 (pa_cons (pv 0) (pa_cons (pv 2) (pa_cons (pv 3) pa_nil))))))))) (
    (pss_one (ps_never))) (pss_nil))
  (pss_cons (ps_if (PW.pt (pw_and (pt_cmpR op_gt (pe_ix ix_list (pv 1) pe_int (fun _ _ => rfl)) pe_int (nomark _)) (pw_and1 (pt_val (pe_call G_more_than_one (hr.mono (by decide)) (by rfl) g_more_than_one k_more_than_one b_more_than_one .nil pass0 (pa_cons (pv 3) pa_nil)))))) (
    (pss_one (ps_never))) (pss_nil))
  (pss_cons (ps_set (i := 5) sc__counts_within.nd rfl (.inl rfl) (pe_make MK_Members G_Members_init (hr.mono (by decide)) (by rfl) T.g_Members B_Members_init .nil pass0 (pa_cons (pv 0) (pa_cons (pv 3) (pa_cons (pv 1) (pa_cons (pe_call G_mode_of (hr.mono (by decide)) (by rfl) g_mode_of k_mode_of b_mode_of .nil pass0 (pa_cons (pv 4) pa_nil)) pa_nil))))))
  (pss_cons (ps_set (i := 6) sc__counts_within.nd rfl (.inl rfl) (pe_lst pa_nil))
  (pss_cons (ps_for PassesOwn.never rfl (pi_range1 (by rfl) T.n_range (pa_cons (pe_callB call_len_seq (by rfl) T.n_len (by decide +kernel) (pa_cons (pv 1) pa_nil)) pa_nil)) (pg_name (i := 7) sc__counts_within.nd rfl (.inl rfl)) (
    (pss_cons (ps_expr (pe_meth0 (pv 5) T.cl_Members M_Members_grow G_Members_grow (hr.mono (by decide)) B_Members_grow .nil pass0))
    (pss_one (ps_expr (pe_bm PySem.F.plainAttrs_list PySem.F.slot_list_append PySem.F.type_list_append mt_append (pv 6) (pa_cons (pe_meth (pv 5) T.cl_Members M_Members_within G_Members_within (hr.mono (by decide)) B_Members_within .nil pass0 (pa_cons (pv 2) (pa_cons (pv 3) (pa_cons (pv 7) pa_nil)))) pa_nil)))))))
  (pss_one (ps_ret (pv 6))))))))), ?_⟩
    refine ⟨_, rfl, a, cs, rfl, hA, fun x hx => (hsm x hx).1, hc1, hc61, fun H1 s1 => ?_⟩
    have hA1 := s1 _ _ hA
    refine ⟨_, rfl, W.aMW, _, rfl, .inr (T.s_MW _), rfl, rfl, _, rfl, ?_⟩
    have : (if (true : Bool) = true then !inV (V.str wd) [.str "row", .str "set", .str "ring"] else inV (V.str wd) [.str "row", .str "set", .str "ring"]) = false := by
      show (!inW wd) = false
      rw [hw]; rfl
    rw [this]
    refine iteF ?_
    refine ⟨_, rfl, _, rfl, _, rfl, wd, lo, m, rfl, _, rfl, ?_⟩
    rw [hb]
    refine iteF ?_
    -- counts[0] > 0 and more_than_one(most)
    refine ⟨_, rfl, a, _, _, .int (cs.getD 0 0), rfl, rfl, sq_of hA1, atI_nat (j := 0) (getD_at (by omega)), _, _, rfl, rfl, _, rfl, ?_⟩
    refine ite2 (fun c1 => ?_) (fun c1 => ?_)
    · have c1' : (0 : Int) < cs.getD 0 0 := of_decide_eq_true c1
      have hmf : moreB m = false := hhm.resolve_left (by omega)
      refine ⟨_, rfl, m, rfl, _, rfl, ?_⟩
      rw [hmf]
      refine iteF ?_
      have hwl : wd = "row" ∨ wd = "set" ∨ 1 ≤ lo := by
        by_cases h1 : wd = "ring"
        · right; right
          unfold areB lowB at hb
          rw [if_pos h1] at hb
          simp only [Bool.and_eq_true, decide_eq_true_eq] at hb
          omega
        · rcases isR_of hw with e | e | e
          · exact .inl e
          · exact .inr (.inl e)
          · exact absurd e h1
      have hm0 : ∀ i, m = some i → 0 ≤ i := by
        intro i e
        subst e
        unfold areB upB at hb
        simp only [Bool.and_eq_true, decide_eq_true_eq] at hb
        omega
      have hmd : modeS lb ≠ "rigid" := by cases lb <;> decide +kernel
      -- told = Members(..)
      refine ⟨_, rfl, _, rfl, _, rfl, _, rfl, lb, rfl, fun x dx nx ndx nne => ⟨x, dx, a, wd, modeS lb, m, rfl, upd_same, fun t l0 H2 nt nl0 tne hp2 ht2 h02 keep => ⟨rfl, ?_⟩⟩⟩
      have s2 : Same H1 H2 := fun b o e => keep b o (by rw [upd_ne (ne_of_none e nx), upd_ne (ne_of_none e ndx)]; exact e) (ne_of_none e nx)
      have ntx : t ≠ x := fun e => by rw [e, upd_same] at nt; cases nt
      have nlx : l0 ≠ x := fun e => by rw [e, upd_same] at nl0; cases nl0
      rw [upd_ne ntx] at nt
      rw [upd_ne nlx] at nl0
      have ntd : t ≠ dx := fun e => by rw [e, upd_same] at nt; cases nt
      have nld : l0 ≠ dx := fun e => by rw [e, upd_same] at nl0; cases nl0
      rw [upd_ne ntd] at nt
      rw [upd_ne nld] at nl0
      -- made = []
      refine ⟨Nat.zero_le _, fun q nq => ?_⟩
      have nqx : x ≠ q := fun e => by rw [← e, hp2] at nq; cases nq
      have nqt : t ≠ q := fun e => by rw [← e, ht2] at nq; cases nq
      have nql : l0 ≠ q := fun e => by rw [← e, h02] at nq; cases nq
      have hq1 : H1 q = none := s2.free nq
      have St : TabAt W.cMembers (upd H1 q (.lst [])) (upd H2 q (.lst [])) x dx t l0 a [] (rowT wd (modeS lb) cs 0 0) (rsT wd (modeS lb) cs (nl m 0) 0) wd m (modeS lb) := by
        have e0 : nl m 0 = 0 := by
          unfold nl
          have : lim m (0 - 1) ≤ 0 := by
            cases m with
            | none => exact Nat.le_refl _
            | some i => exact Nat.min_le_left _ _
          omega
        rw [e0]
        refine ⟨fun b o e => ?_, by rw [upd_ne nqx]; exact hp2, by rw [upd_ne nqt]; exact ht2, by rw [upd_ne nql]; exact h02, rfl, fun j l r e => by simp at e, by simp [ntx.symm, nlx.symm, tne], fun b hb => ?_⟩
        · by_cases hbq : b = q
          · rw [hbq, upd_same] at e ⊢; exact e
          · rw [upd_ne hbq] at e ⊢; exact s2 _ _ e
        · simp only [List.mem_cons, List.mem_nil_iff, or_false] at hb
          rcases hb with e | e | e
          · rw [e, upd_ne nqx]; exact nx
          · rw [e, upd_ne nqt]; exact nt
          · rw [e, upd_ne nql]; exact nl0
      have hA2 : ∀ o, (upd H1 q o) a = some (.lst (cs.map V.int)) := fun o => by
        rw [upd_ne (ne_of_none hA1 hq1)]; exact hA1
      -- the loop
      refine ⟨_, rfl, a, _, rfl, .inl (sq_of (St.sm _ _ (hA2 _))), cs.length, by rw [List.length_map], by omega, by omega, ?_⟩
      rw [Int.toNat_natCast]
      refine for_range (lo := 0) (n := cs.length) (fun i σ H' => ∃ (y7 : Option V) (ls : List Addr), σ = [some (.str wd), some (.ref a), some (.int lo), some (oV m), some (.bl lb), some (.ref x), some (.ref q), y7] ∧
        TabAt W.cMembers (upd H1 q (.lst (((List.range i).map fun n => outG wd (modeS lb) cs m lo n).map V.int))) H' x dx t l0 a ls (rowT wd (modeS lb) cs 0 i) (rsT wd (modeS lb) cs (nl m i) i) wd m (modeS lb)) ⟨none, [], rfl, St⟩ ?_ ?_
      · rintro i σ H3 hi ⟨y7, ls, rfl, S3⟩
        have hc0 : SqL K (upd H1 q (.lst (((List.range i).map fun n => outG wd (modeS lb) cs m lo n).map V.int))) a (cs.map V.int) := sq_of (hA2 _)
        refine ⟨_, rfl, x, dx, _, rfl, S3.hp, l_no (by decide +kernel) (by decide +kernel) (by decide +kernel) (by decide +kernel) (by decide +kernel), _, x, dx, t, l0, a, ls, wd, modeS lb, m, cs, i, rfl, S3, hc0, hsm, hi, hcl.2, hm0, hmd, fun ls' H4 S4 _ => ?_⟩
        have hq4 : H4 q = some (.lst (((List.range i).map fun n => outG wd (modeS lb) cs m lo n).map V.int)) := S4.sm _ _ upd_same
        have hcell : ∀ a' b', a' ≤ lim m (max i 1) → b' ≤ i → Cell K H4 l0 a ls' a' b' (tg wd (modeS lb) cs a' b') := by
          intro j b' h2 hb'
          match j, h2 with
          | 0, _ => exact ⟨l0, _, rfl, sq_of S4.h0, rowT_get (by omega)⟩
          | 1, _ =>
            refine ⟨a, cs, rfl, S4.sm.seq hc0, ?_⟩
            rw [List.getElem?_eq_getElem (by omega), tg_1, List.getD_eq_getElem?_getD, List.getElem?_eq_getElem (by omega)]; rfl
          | j' + 2, h2 =>
            have hj : j' < nl m (i + 1) := by
              unfold nl
              rw [Nat.add_sub_cancel]
              cases m with
              | none =>
                have h2' : j' + 2 ≤ max i 1 := h2
                show j' < i - 1
                omega
              | some z =>
                have h2' : j' + 2 ≤ min (max i 1) z.toNat := h2
                show j' < min i z.toNat - 1
                omega
            have gl : ls'[j']? = some (ls'[j']'(by rw [S4.hl]; unfold rsT; simpa using hj)) := List.getElem?_eq_getElem _
            have gr : (rsT wd (modeS lb) cs (nl m (i + 1)) (i + 1))[j']? = some (rowT wd (modeS lb) cs (j' + 2) (i + 1)) := by
              unfold rsT
              rw [List.getElem?_map, List.getElem?_range hj]; rfl
            exact ⟨_, _, gl, sq_of (S4.hr _ _ _ gl gr), rowT_get (by omega)⟩
        refine ⟨_, rfl, .inl ⟨rfl, _, sq_of hq4⟩, _, rfl, x, dx, _, rfl, S4.hp, l_no (by decide +kernel) (by decide +kernel) (by decide +kernel) (by decide +kernel) (by decide +kernel), _, rfl, _, rfl, _, rfl, _, x, dx, t, l0, a, ls', _, _, wd, modeS lb, m, cs, lo, i, by rw [Int.zero_add]; rfl, S4, hmd, by omega, hl, hm0, hwl, hcell, fun H5 s5 => ?_⟩
        refine ⟨q, _, _, rfl, rfl, s5 _ _ hq4, szl _ (by simp; omega), ?_⟩
        refine ⟨_, ls', rfl, ?_⟩
        have S6 := (S4.mono s5).rebase (o' := HO.lst ((((List.range i).map fun n => outG wd (modeS lb) cs m lo n).map V.int) ++ [V.int (outG wd (modeS lb) cs m lo i)]))
        rw [show (((List.range (i + 1)).map fun n => outG wd (modeS lb) cs m lo n).map V.int) = (((List.range i).map fun n => outG wd (modeS lb) cs m lo n).map V.int) ++ [V.int (outG wd (modeS lb) cs m lo i)] by
          rw [List.range_succ, List.map_append, List.map_append]; rfl]
        exact S6
      · rintro σ H3 ⟨y7, ls, rfl, S3⟩
        have hq3 := S3.sm _ _ (upd_same (H := H1) (a := q))
        have s13 : Same H1 H3 := fun b o e => S3.sm b o (by rw [upd_ne (ne_of_none e hq1)]; exact e)
        exact ⟨_, rfl, k q H3 (s1.trans s13) (s1.free hq1) hq3⟩
    · refine iteF ?_
      have hwl : wd = "row" ∨ wd = "set" ∨ 1 ≤ lo := by
        by_cases h1 : wd = "ring"
        · right; right
          unfold areB lowB at hb
          rw [if_pos h1] at hb
          simp only [Bool.and_eq_true, decide_eq_true_eq] at hb
          omega
        · rcases isR_of hw with e | e | e
          · exact .inl e
          · exact .inr (.inl e)
          · exact absurd e h1
      have hm0 : ∀ i, m = some i → 0 ≤ i := by
        intro i e
        subst e
        unfold areB upB at hb
        simp only [Bool.and_eq_true, decide_eq_true_eq] at hb
        omega
      have hmd : modeS lb ≠ "rigid" := by cases lb <;> decide +kernel
      -- told = Members(..)
      refine ⟨_, rfl, _, rfl, _, rfl, _, rfl, lb, rfl, fun x dx nx ndx nne => ⟨x, dx, a, wd, modeS lb, m, rfl, upd_same, fun t l0 H2 nt nl0 tne hp2 ht2 h02 keep => ⟨rfl, ?_⟩⟩⟩
      have s2 : Same H1 H2 := fun b o e => keep b o (by rw [upd_ne (ne_of_none e nx), upd_ne (ne_of_none e ndx)]; exact e) (ne_of_none e nx)
      have ntx : t ≠ x := fun e => by rw [e, upd_same] at nt; cases nt
      have nlx : l0 ≠ x := fun e => by rw [e, upd_same] at nl0; cases nl0
      rw [upd_ne ntx] at nt
      rw [upd_ne nlx] at nl0
      have ntd : t ≠ dx := fun e => by rw [e, upd_same] at nt; cases nt
      have nld : l0 ≠ dx := fun e => by rw [e, upd_same] at nl0; cases nl0
      rw [upd_ne ntd] at nt
      rw [upd_ne nld] at nl0
      -- made = []
      refine ⟨Nat.zero_le _, fun q nq => ?_⟩
      have nqx : x ≠ q := fun e => by rw [← e, hp2] at nq; cases nq
      have nqt : t ≠ q := fun e => by rw [← e, ht2] at nq; cases nq
      have nql : l0 ≠ q := fun e => by rw [← e, h02] at nq; cases nq
      have hq1 : H1 q = none := s2.free nq
      have St : TabAt W.cMembers (upd H1 q (.lst [])) (upd H2 q (.lst [])) x dx t l0 a [] (rowT wd (modeS lb) cs 0 0) (rsT wd (modeS lb) cs (nl m 0) 0) wd m (modeS lb) := by
        have e0 : nl m 0 = 0 := by
          unfold nl
          have : lim m (0 - 1) ≤ 0 := by
            cases m with
            | none => exact Nat.le_refl _
            | some i => exact Nat.min_le_left _ _
          omega
        rw [e0]
        refine ⟨fun b o e => ?_, by rw [upd_ne nqx]; exact hp2, by rw [upd_ne nqt]; exact ht2, by rw [upd_ne nql]; exact h02, rfl, fun j l r e => by simp at e, by simp [ntx.symm, nlx.symm, tne], fun b hb => ?_⟩
        · by_cases hbq : b = q
          · rw [hbq, upd_same] at e ⊢; exact e
          · rw [upd_ne hbq] at e ⊢; exact s2 _ _ e
        · simp only [List.mem_cons, List.mem_nil_iff, or_false] at hb
          rcases hb with e | e | e
          · rw [e, upd_ne nqx]; exact nx
          · rw [e, upd_ne nqt]; exact nt
          · rw [e, upd_ne nql]; exact nl0
      have hA2 : ∀ o, (upd H1 q o) a = some (.lst (cs.map V.int)) := fun o => by
        rw [upd_ne (ne_of_none hA1 hq1)]; exact hA1
      -- the loop
      refine ⟨_, rfl, a, _, rfl, .inl (sq_of (St.sm _ _ (hA2 _))), cs.length, by rw [List.length_map], by omega, by omega, ?_⟩
      rw [Int.toNat_natCast]
      refine for_range (lo := 0) (n := cs.length) (fun i σ H' => ∃ (y7 : Option V) (ls : List Addr), σ = [some (.str wd), some (.ref a), some (.int lo), some (oV m), some (.bl lb), some (.ref x), some (.ref q), y7] ∧
        TabAt W.cMembers (upd H1 q (.lst (((List.range i).map fun n => outG wd (modeS lb) cs m lo n).map V.int))) H' x dx t l0 a ls (rowT wd (modeS lb) cs 0 i) (rsT wd (modeS lb) cs (nl m i) i) wd m (modeS lb)) ⟨none, [], rfl, St⟩ ?_ ?_
      · rintro i σ H3 hi ⟨y7, ls, rfl, S3⟩
        have hc0 : SqL K (upd H1 q (.lst (((List.range i).map fun n => outG wd (modeS lb) cs m lo n).map V.int))) a (cs.map V.int) := sq_of (hA2 _)
        refine ⟨_, rfl, x, dx, _, rfl, S3.hp, l_no (by decide +kernel) (by decide +kernel) (by decide +kernel) (by decide +kernel) (by decide +kernel), _, x, dx, t, l0, a, ls, wd, modeS lb, m, cs, i, rfl, S3, hc0, hsm, hi, hcl.2, hm0, hmd, fun ls' H4 S4 _ => ?_⟩
        have hq4 : H4 q = some (.lst (((List.range i).map fun n => outG wd (modeS lb) cs m lo n).map V.int)) := S4.sm _ _ upd_same
        have hcell : ∀ a' b', a' ≤ lim m (max i 1) → b' ≤ i → Cell K H4 l0 a ls' a' b' (tg wd (modeS lb) cs a' b') := by
          intro j b' h2 hb'
          match j, h2 with
          | 0, _ => exact ⟨l0, _, rfl, sq_of S4.h0, rowT_get (by omega)⟩
          | 1, _ =>
            refine ⟨a, cs, rfl, S4.sm.seq hc0, ?_⟩
            rw [List.getElem?_eq_getElem (by omega), tg_1, List.getD_eq_getElem?_getD, List.getElem?_eq_getElem (by omega)]; rfl
          | j' + 2, h2 =>
            have hj : j' < nl m (i + 1) := by
              unfold nl
              rw [Nat.add_sub_cancel]
              cases m with
              | none =>
                have h2' : j' + 2 ≤ max i 1 := h2
                show j' < i - 1
                omega
              | some z =>
                have h2' : j' + 2 ≤ min (max i 1) z.toNat := h2
                show j' < min i z.toNat - 1
                omega
            have gl : ls'[j']? = some (ls'[j']'(by rw [S4.hl]; unfold rsT; simpa using hj)) := List.getElem?_eq_getElem _
            have gr : (rsT wd (modeS lb) cs (nl m (i + 1)) (i + 1))[j']? = some (rowT wd (modeS lb) cs (j' + 2) (i + 1)) := by
              unfold rsT
              rw [List.getElem?_map, List.getElem?_range hj]; rfl
            exact ⟨_, _, gl, sq_of (S4.hr _ _ _ gl gr), rowT_get (by omega)⟩
        refine ⟨_, rfl, .inl ⟨rfl, _, sq_of hq4⟩, _, rfl, x, dx, _, rfl, S4.hp, l_no (by decide +kernel) (by decide +kernel) (by decide +kernel) (by decide +kernel) (by decide +kernel), _, rfl, _, rfl, _, rfl, _, x, dx, t, l0, a, ls', _, _, wd, modeS lb, m, cs, lo, i, by rw [Int.zero_add]; rfl, S4, hmd, by omega, hl, hm0, hwl, hcell, fun H5 s5 => ?_⟩
        refine ⟨q, _, _, rfl, rfl, s5 _ _ hq4, szl _ (by simp; omega), ?_⟩
        refine ⟨_, ls', rfl, ?_⟩
        have S6 := (S4.mono s5).rebase (o' := HO.lst ((((List.range i).map fun n => outG wd (modeS lb) cs m lo n).map V.int) ++ [V.int (outG wd (modeS lb) cs m lo i)]))
        rw [show (((List.range (i + 1)).map fun n => outG wd (modeS lb) cs m lo n).map V.int) = (((List.range i).map fun n => outG wd (modeS lb) cs m lo n).map V.int) ++ [V.int (outG wd (modeS lb) cs m lo i)] by
          rw [List.range_succ, List.map_append, List.map_append]; rfl]
        exact S6
      · rintro σ H3 ⟨y7, ls, rfl, S3⟩
        have hq3 := S3.sm _ _ (upd_same (H := H1) (a := q))
        have s13 : Same H1 H3 := fun b o e => S3.sm b o (by rw [upd_ne (ne_of_none e hq1)]; exact e)
        exact ⟨_, rfl, k q H3 (s1.trans s13) (s1.free hq1) hq3⟩
end
end SM

/-! Sums, the binomial convolution, and sets without labels: plain mathematics. -/
namespace SMath
def S : Nat → (Nat → Int) → Int
  | 0, _ => 0
  | n + 1, f => S n f + f n
theorem S_list (n : Nat) (f : Nat → Int) : ((List.range n).map f).sum = S n f := by
  induction n with
  | zero => rfl
  | succ n ih => rw [List.range_succ, List.map_append, List.sum_append, ih]; simp [S]
theorem S_congr {n : Nat} {f g : Nat → Int} (h : ∀ i, i < n → f i = g i) : S n f = S n g := by
  induction n with
  | zero => rfl
  | succ n ih => rw [S, S, ih fun i hi => h i (Nat.lt_succ_of_lt hi), h n (Nat.lt_succ_self n)]
theorem S_add (n : Nat) (f g : Nat → Int) : S n (fun i => f i + g i) = S n f + S n g := by
  induction n with
  | zero => rfl
  | succ n ih => rw [S, S, S, ih]; omega
theorem S_mul (n : Nat) (c : Int) (f : Nat → Int) : S n (fun i => c * f i) = c * S n f := by
  induction n with
  | zero => simp [S]
  | succ n ih => rw [S, S, ih, Int.mul_add]
theorem S_zero (n : Nat) : S n (fun _ => 0) = 0 := by
  induction n with
  | zero => rfl
  | succ n ih => rw [S, ih]; rfl
theorem S_zero' {n : Nat} {f : Nat → Int} (h : ∀ i, i < n → f i = 0) : S n f = 0 := (S_congr h).trans (S_zero n)
theorem S_first (n : Nat) (f : Nat → Int) : S (n + 1) f = f 0 + S n (fun i => f (i + 1)) := by
  induction n with
  | zero => simp [S]
  | succ n ih => rw [S, ih, S]; omega
theorem S_ext {n k : Nat} {f : Nat → Int} (h : ∀ i, n ≤ i → i < n + k → f i = 0) : S (n + k) f = S n f := by
  induction k with
  | zero => rfl
  | succ k ih => rw [← Nat.add_assoc, S, ih fun i a b => h i a (by omega), h (n + k) (by omega) (by omega)]; omega
theorem S_ext' {n m : Nat} {f : Nat → Int} (hm : n ≤ m) (h : ∀ i, n ≤ i → i < m → f i = 0) : S m f = S n f := by
  obtain ⟨k, rfl⟩ := Nat.exists_eq_add_of_le hm
  exact S_ext h
theorem S_swap (n m : Nat) (f : Nat → Nat → Int) : S n (fun i => S m (f i)) = S m (fun j => S n (fun i => f i j)) := by
  induction n with
  | zero => simp [S, S_zero]
  | succ n ih => rw [S, ih, ← S_add]; rfl
/-! ### binomials -/
def bin : Nat → Nat → Int
  | _, 0 => 1
  | 0, _ + 1 => 0
  | n + 1, k + 1 => bin n k + bin n (k + 1)
theorem bin_0 (n : Nat) : bin n 0 = 1 := by cases n <;> rfl
theorem bin_gt : ∀ {n k : Nat}, n < k → bin n k = 0
  | 0, k + 1, _ => rfl
  | n + 1, k + 1, h => by rw [bin, bin_gt (by omega), bin_gt (by omega)]; rfl
/-! ### the convolution with binomials -/
def bc (f g : Nat → Int) (n : Nat) : Int := S (n + 1) fun k => bin n k * f k * g (n - k)
def dl (f : Nat → Int) : Nat → Int := fun n => f (n + 1)
theorem bc_dl (f g : Nat → Int) (n : Nat) : bc f g (n + 1) = bc (dl f) g n + bc f (dl g) n := by
  have e1 : bc f g (n + 1) = f 0 * g (n + 1) + (S (n + 1) (fun k => bin n k * f (k + 1) * g (n - k)) + S (n + 1) (fun k => bin n (k + 1) * f (k + 1) * g (n - k))) := by
    unfold bc
    rw [S_first, ← S_add]
    have a : bin (n + 1) 0 * f 0 * g (n + 1 - 0) = f 0 * g (n + 1) := by rw [bin_0, Int.one_mul]; rfl
    have b : S (n + 1) (fun i => bin (n + 1) (i + 1) * f (i + 1) * g (n + 1 - (i + 1))) = S (n + 1) (fun k => bin n k * f (k + 1) * g (n - k) + bin n (k + 1) * f (k + 1) * g (n - k)) := S_congr fun i _ => by
      rw [bin, Int.add_mul, Int.add_mul, Nat.add_sub_add_right]
    rw [a, b]
  have e2 : bc f (dl g) n = f 0 * g (n + 1) + S (n + 1) (fun k => bin n (k + 1) * f (k + 1) * g (n - k)) := by
    have a : bc f (dl g) n = S (n + 2) (fun k => bin n k * f k * g (n + 1 - k)) := by
      rw [S, bin_gt (Nat.lt_succ_self n), Int.zero_mul, Int.zero_mul, Int.add_zero]
      unfold bc dl
      exact S_congr fun i hi => by rw [show n - i + 1 = n + 1 - i by omega]
    rw [a, S_first, bin_0, Int.one_mul]
    show f 0 * g (n + 1) + _ = _
    congr 1
    exact S_congr fun i _ => by rw [Nat.add_sub_add_right]
  rw [e1, e2]
  unfold bc dl
  omega
theorem bc_0 (f g : Nat → Int) : bc f g 0 = f 0 * g 0 := by
  unfold bc
  simp [S, bin_0]
theorem bc_left (n : Nat) : ∀ f g h : Nat → Int, bc f (bc g h) n = bc g (bc f h) n := by
  induction n with
  | zero =>
    intro f g h
    rw [bc_0, bc_0, bc_0, bc_0, ← Int.mul_assoc, ← Int.mul_assoc, Int.mul_comm (f 0)]
  | succ n ih =>
    intro f g h
    have e : ∀ f g h : Nat → Int, bc f (bc g h) (n + 1) = bc (dl f) (bc g h) n + (bc f (bc (dl g) h) n + bc f (bc g (dl h)) n) := by
      intro f g h
      rw [bc_dl]
      congr 1
      have : ∀ k, dl (bc g h) k = bc (dl g) h k + bc g (dl h) k := fun k => bc_dl g h k
      unfold bc at this ⊢
      rw [← S_add]
      refine S_congr fun i _ => ?_
      rw [this, Int.mul_add]
    rw [e, e, ih (dl f) g h, ih f (dl g) h, ih f g (dl h)]
    omega
theorem bc_mul (f g : Nat → Int) (c : Int) (n : Nat) : bc f (fun k => c * g k) n = c * bc f g n := by
  unfold bc
  rw [← S_mul]
  exact S_congr fun i _ => by rw [← Int.mul_assoc, Int.mul_comm (bin n i * f i) c, Int.mul_assoc]
theorem bc_congr {f g h k : Nat → Int} {n : Nat} (h1 : ∀ i, i ≤ n → f i = h i) (h2 : ∀ i, i ≤ n → g i = k i) : bc f g n = bc h k n := by
  unfold bc
  exact S_congr fun i hi => by rw [h1 i (by omega), h2 (n - i) (by omega)]
/-- rows of m labelled members -/
def R (c : Nat → Int) : Nat → Nat → Int
  | 0 => fun n => if n = 0 then 1 else 0
  | m + 1 => bc c (R c m)
/-- the row with the least label taken off -/
theorem R_dl (c : Nat → Int) : ∀ m n, R c (m + 1) (n + 1) = ((m : Int) + 1) * bc (dl c) (R c m) n
  | 0, n => by
    show bc c (R c 0) (n + 1) = _
    rw [bc_dl]
    have e : bc c (dl (R c 0)) n = 0 := by
      unfold bc
      refine S_zero' fun i _ => ?_
      show _ * (if n - i + 1 = 0 then (1 : Int) else 0) = 0
      rw [if_neg (by omega), Int.mul_zero]
    rw [e]
    simp
  | m + 1, n => by
    show bc c (R c (m + 1)) (n + 1) = _
    rw [bc_dl]
    have e : bc c (dl (R c (m + 1))) n = ((m : Int) + 1) * bc (dl c) (R c (m + 1)) n := by
      have : ∀ k, dl (R c (m + 1)) k = ((m : Int) + 1) * bc (dl c) (R c m) k := fun k => R_dl c m k
      rw [bc_congr (fun _ _ => rfl) (fun k _ => this k), bc_mul, bc_left]
      rfl
    rw [e]
    have : ((m + 1 : Nat) : Int) = (m : Int) + 1 := by omega
    rw [this, Int.add_mul ((m : Int) + 1) 1, Int.one_mul]
    omega
end SMath

namespace SMath
/-! ### series shifted -/
def sh (s : Nat) (f : Nat → Int) (n : Nat) : Int := if s ≤ n then f (n - s) else 0
theorem sh_0 (f : Nat → Int) : sh 0 f = f := by
  funext n
  unfold sh
  rw [if_pos (Nat.zero_le n), Nat.sub_zero]
theorem sh_sh (s t : Nat) (f : Nat → Int) : sh s (sh t f) = sh (t + s) f := by
  funext n
  unfold sh
  by_cases h1 : s ≤ n
  · rw [if_pos h1]
    by_cases h2 : t ≤ n - s
    · rw [if_pos h2, if_pos (by omega), show n - s - t = n - (t + s) by omega]
    · rw [if_neg h2, if_neg (by omega)]
  · rw [if_neg h1, if_neg (by omega)]
theorem sh_add (s : Nat) (f g : Nat → Int) : sh s (fun n => f n + g n) = fun n => sh s f n + sh s g n := by
  funext n
  unfold sh
  split <;> simp
theorem sh_mul (s : Nat) (c : Int) (f : Nat → Int) : sh s (fun n => c * f n) = fun n => c * sh s f n := by
  funext n
  unfold sh
  split <;> simp
theorem sh_S (s k : Nat) (f : Nat → Nat → Int) : sh s (fun n => S k (fun i => f i n)) = fun n => S k (fun i => sh s (f i) n) := by
  funext n
  unfold sh
  split
  · rfl
  · rw [S_zero]
/-! ### the recurrence by members -/
structure Op (P : Nat → (Nat → Int) → Nat → Int) : Prop where
  add : ∀ e f g, P e (fun n => f n + g n) = fun n => P e f n + P e g n
  comm : ∀ e s f, P e (sh s f) = sh s (P e f)
def Rec (P : Nat → (Nat → Int) → Nat → Int) (B : Nat → Nat → Int) : Prop := ∀ (m n : Nat), ((m : Int) + 1) * B (m + 1) n = S (m + 1) fun e => P (e + 1) (B (m - e)) n
def geo (s : Nat) (B : Nat → Nat → Int) : Nat → Nat → Int
  | 0 => B 0
  | m + 1 => fun n => B (m + 1) n + sh s (geo s B m) n
theorem op_step {P : Nat → (Nat → Int) → Nat → Int} (hP : Op P) (s : Nat) : Op fun e f n => P e f n + sh (e * s) f n := by
  refine ⟨fun e f g => ?_, fun e t f => ?_⟩
  · funext n
    rw [hP.add, sh_add]
    dsimp only
    omega
  · funext n
    rw [sh_add, hP.comm, sh_sh, sh_sh, Nat.add_comm t]
theorem rec_step {P : Nat → (Nat → Int) → Nat → Int} {B : Nat → Nat → Int} (hP : Op P) (hB : Rec P B) (s : Nat) : Rec (fun e f n => P e f n + sh (e * s) f n) (geo s B) := by
  intro m
  induction m with
  | zero =>
    intro n
    have h := hB 0 n
    simp only [S, Int.zero_add, Nat.sub_self, Nat.sub_zero] at h ⊢
    show ((0 : Nat) + 1 : Int) * (B 1 n + sh s (B 0) n) = P 1 (B 0) n + sh (1 * s) (B 0) n
    have h' : B 1 n = P 1 (B 0) n := by simpa using h
    rw [h', Nat.one_mul]
    simp
  | succ m ih =>
    intro n
    -- the first part of the right side
    have a1 : S (m + 2) (fun e => P (e + 1) (geo s B (m + 1 - e)) n) = S (m + 2) (fun e => P (e + 1) (B (m + 1 - e)) n) + S (m + 1) (fun e => sh s (P (e + 1) (geo s B (m - e))) n) := by
      rw [S, show S (m + 2) (fun e => P (e + 1) (B (m + 1 - e)) n) = S (m + 1) (fun e => P (e + 1) (B (m + 1 - e)) n) + P (m + 1 + 1) (B (m + 1 - (m + 1))) n from rfl, Nat.sub_self]
      have : S (m + 1) (fun e => P (e + 1) (geo s B (m + 1 - e)) n) = S (m + 1) (fun e => P (e + 1) (B (m + 1 - e)) n) + S (m + 1) (fun e => sh s (P (e + 1) (geo s B (m - e))) n) := by
        rw [← S_add]
        refine S_congr fun e he => ?_
        rw [show m + 1 - e = (m - e) + 1 by omega]
        show P (e + 1) (fun n => B (m - e + 1) n + sh s (geo s B (m - e)) n) n = _
        rw [hP.add, hP.comm]
      rw [this]
      show _ + P (m + 1 + 1) (B 0) n = _
      omega
    have a2 : S (m + 2) (fun e => sh ((e + 1) * s) (geo s B (m + 1 - e)) n) = sh s (geo s B (m + 1)) n + S (m + 1) (fun e => sh s (sh ((e + 1) * s) (geo s B (m - e))) n) := by
      rw [S_first, Nat.zero_add, Nat.one_mul, Nat.sub_zero]
      congr 1
      refine S_congr fun e _ => ?_
      rw [sh_sh, Nat.add_sub_add_right, show (e + 1 + 1) * s = (e + 1) * s + s by rw [Nat.succ_mul (e + 1)]]
    have a3 : S (m + 1) (fun e => sh s (P (e + 1) (geo s B (m - e))) n) + S (m + 1) (fun e => sh s (sh ((e + 1) * s) (geo s B (m - e))) n) = ((m : Int) + 1) * sh s (geo s B (m + 1)) n := by
      have h : (fun n => ((m : Int) + 1) * geo s B (m + 1) n) = fun n => S (m + 1) fun e => P (e + 1) (geo s B (m - e)) n + sh ((e + 1) * s) (geo s B (m - e)) n := funext fun n => ih n
      have h2 := congrFun (congrArg (sh s) h) n
      rw [sh_mul, sh_S] at h2
      have h2' : ((m : Int) + 1) * sh s (geo s B (m + 1)) n = S (m + 1) fun e => sh s (fun n => P (e + 1) (geo s B (m - e)) n + sh ((e + 1) * s) (geo s B (m - e)) n) n := h2
      rw [h2', ← S_add]
      refine S_congr fun e _ => ?_
      rw [sh_add]
    have h := hB (m + 1) n
    rw [S_add, a1, a2, ← h]
    have hc : ((m + 1 : Nat) : Int) = (m : Int) + 1 := by omega
    rw [hc]
    show ((m : Int) + 1 + 1) * (B (m + 1 + 1) n + sh s (geo s B (m + 1)) n) = _
    rw [Int.mul_add]
    have h5 : ((m : Int) + 1 + 1) * sh s (geo s B (m + 1)) n = ((m : Int) + 1) * sh s (geo s B (m + 1)) n + sh s (geo s B (m + 1)) n := by rw [Int.add_mul ((m : Int) + 1) 1, Int.one_mul]
    rw [h5, ← a3]
    omega
/-! ### the bag -/
def geoN (s : Nat) : Nat → (Nat → Nat → Int) → Nat → Nat → Int
  | 0, B => B
  | v + 1, B => geo s (geoN s v B)
def d2 : Nat → Nat → Int := fun m n => if m = 0 ∧ n = 0 then 1 else 0
def bag (c : Nat → Nat) : Nat → Nat → Nat → Int
  | 0 => d2
  | L + 1 => geoN (L + 1) (c (L + 1)) (bag c L)
def Pc (c : Nat → Nat) (L e : Nat) (f : Nat → Int) (n : Nat) : Int := S L fun i => (c (i + 1) : Int) * sh (e * (i + 1)) f n
theorem op_Pc (c : Nat → Nat) (L : Nat) : Op (Pc c L) := by
  refine ⟨fun e f g => ?_, fun e s f => ?_⟩
  · funext n
    unfold Pc
    rw [← S_add]
    refine S_congr fun i _ => ?_
    rw [sh_add, Int.mul_add]
  · funext n
    show S L (fun i => (c (i + 1) : Int) * sh (e * (i + 1)) (sh s f) n) = sh s (fun n => S L fun i => (c (i + 1) : Int) * sh (e * (i + 1)) f n) n
    rw [sh_S]
    refine S_congr fun i _ => ?_
    rw [sh_mul, sh_sh, sh_sh, Nat.add_comm s]
theorem rec_geoN {P : Nat → (Nat → Int) → Nat → Int} {B : Nat → Nat → Int} (hP : Op P) (hB : Rec P B) (s : Nat) : ∀ v : Nat, Op (fun e f n => P e f n + (v : Int) * sh (e * s) f n) ∧ Rec (fun e f n => P e f n + (v : Int) * sh (e * s) f n) (geoN s v B)
  | 0 => by
    have e : (fun (e : Nat) (f : Nat → Int) (n : Nat) => P e f n + ((0 : Nat) : Int) * sh (e * s) f n) = P := by
      funext e f n
      simp
    rw [e]
    exact ⟨hP, hB⟩
  | v + 1 => by
    obtain ⟨h1, h2⟩ := rec_geoN hP hB s v
    have e : (fun (e : Nat) (f : Nat → Int) (n : Nat) => P e f n + ((v + 1 : Nat) : Int) * sh (e * s) f n) = fun e f n => (P e f n + (v : Int) * sh (e * s) f n) + sh (e * s) f n := by
      funext e f n
      rw [show ((v + 1 : Nat) : Int) = (v : Int) + 1 by omega, Int.add_mul, Int.one_mul]
      omega
    rw [e]
    exact ⟨op_step h1 s, rec_step h1 h2 s⟩
theorem rec_bag (c : Nat → Nat) : ∀ L, Rec (Pc c L) (bag c L)
  | 0 => by
    intro m n
    have e : S (m + 1) (fun e => Pc c 0 (e + 1) (bag c 0 (m - e)) n) = 0 := S_zero' fun i _ => rfl
    rw [e]
    show ((m : Int) + 1) * (if m + 1 = 0 ∧ n = 0 then (1 : Int) else 0) = 0
    rw [if_neg (by omega), Int.mul_zero]
  | L + 1 => (rec_geoN (op_Pc c L) (rec_bag c L) (L + 1) (c (L + 1))).2
theorem geo_0 (s : Nat) (B : Nat → Nat → Int) : geo s B 0 = B 0 := rfl
theorem geoN_0 (s v : Nat) (B : Nat → Nat → Int) : geoN s v B 0 = B 0 := by
  induction v with
  | zero => rfl
  | succ v ih => show geo s (geoN s v B) 0 = _; rw [geo_0, ih]
theorem bag_0 (c : Nat → Nat) (n : Nat) : ∀ L, bag c L 0 n = if n = 0 then 1 else 0
  | 0 => by
    show (if 0 = 0 ∧ n = 0 then (1 : Int) else 0) = _
    simp
  | L + 1 => by
    show geoN (L + 1) (c (L + 1)) (bag c L) 0 n = _
    rw [geoN_0]
    exact bag_0 c n L
/-- fewer atoms than members -/
theorem bag_small (c : Nat → Nat) (L : Nat) : ∀ m n, n < m → bag c L m n = 0 := by
  intro m
  induction m using Nat.strongRecOn with
  | ind m ih =>
    intro n hn
    match m, hn with
    | m + 1, hn =>
      have h := rec_bag c L m n
      have e : S (m + 1) (fun e => Pc c L (e + 1) (bag c L (m - e)) n) = 0 := by
        refine S_zero' fun e he => ?_
        unfold Pc
        refine S_zero' fun i hi => ?_
        unfold sh
        split
        · have h1 : e + 1 ≤ (e + 1) * (i + 1) := Nat.le_mul_of_pos_right _ (by omega)
          rw [ih (m - e) (by omega) _ (by omega), Int.mul_zero]
        · rw [Int.mul_zero]
      rw [e] at h
      rcases Int.mul_eq_zero.mp h with h | h
      · omega
      · exact h
/-- the closed form of one step of the bag -/
def G : Nat → Nat → Int
  | 0, 0 => 1
  | 0, _ + 1 => 0
  | _ + 1, 0 => 1
  | v + 1, t + 1 => G (v + 1) t + G v (t + 1)
theorem G_0 (v : Nat) : G v 0 = 1 := by cases v <;> simp [G]
theorem geoN_eq (s : Nat) (B : Nat → Nat → Int) : ∀ v m n, geoN s v B m n = S (m + 1) fun t => G v t * sh (t * s) (B (m - t)) n
  | 0, m, n => by
    rw [S_first, G, Nat.zero_mul, sh_0, Int.one_mul, Nat.sub_zero]
    have : S m (fun i => G 0 (i + 1) * sh ((i + 1) * s) (B (m - (i + 1))) n) = 0 := S_zero' fun i _ => by rw [G, Int.zero_mul]
    rw [this, Int.add_zero]
    rfl
  | v + 1, m, n => by
    induction m generalizing n with
    | zero =>
      show geo s (geoN s v B) 0 n = _
      rw [geo_0, geoN_eq s B v 0 n]
      simp [S, G_0]
    | succ m ih =>
      show geoN s v B (m + 1) n + sh s (geoN s (v + 1) B m) n = _
      rw [geoN_eq s B v (m + 1) n]
      have e1 : geoN s (v + 1) B m = fun n => S (m + 1) fun t => G (v + 1) t * sh (t * s) (B (m - t)) n := funext fun n => ih n
      rw [e1, sh_S, S_first (m + 1), S_first (m + 1) (fun t => G (v + 1) t * sh (t * s) (B (m + 1 - t)) n), G_0, G_0, Int.add_assoc, ← S_add]
      congr 1
      refine S_congr fun t _ => ?_
      rw [sh_mul, sh_sh, G, Int.add_mul, Nat.add_sub_add_right, show t * s + s = (t + 1) * s by rw [Nat.succ_mul]]
      dsimp only
      omega
end SMath

namespace SM
open PySem L2
open SMath hiding bin
abbrev bnm := SMath.bin
abbrev cF (cs : List Int) : Nat → Int := fun i => cs.getD i 0
/-! ### what the law reckons -/
def LR (lb : Bool) (c : Nat → Int) : Nat → Nat → Int
  | 0, n => if n = 0 then 1 else 0
  | m + 1, n => S (n + 1) fun k => c k * LR lb c m (n - k) * (if lb = true then bnm n k else 1)
def begun (c rest : Nat → Int) : Nat → Int
  | 0 => 0
  | n + 1 => S (n + 1) fun i => bnm n i * c (i + 1) * rest (n - i)
def LS (c : Nat → Int) : Nat → Nat → Int
  | 0, n => if n = 0 then 1 else 0
  | 1, n => LR true c 1 n
  | m + 2, n => begun c (LS c (m + 1)) n
def turnS (c : Nat → Int) (m n : Nat) : Int := S m fun t => if n * Nat.gcd m t % m = 0 then LR false c (Nat.gcd m t) (n * Nat.gcd m t / m) else 0
def LM (wd : Str) (lb : Bool) (cs : List Int) (m n : Nat) : Int :=
  if m = 0 then (if n = 0 then 1 else 0)
  else if wd = "row" ∨ m = 1 then LR lb (cF cs) m n
  else if lb = true then (if wd = "ring" then begun (cF cs) (LR true (cF cs) (m - 1)) n else LS (cF cs) m n)
  else if wd = "ring" then turnS (cF cs) m n / (m : Int)
  else bag (fun i => (cF cs i).toNat) (cs.length - 1) m n
/-! ### rows -/
theorem LR_R (c : Nat → Int) : ∀ m n, LR true c m n = R c m n
  | 0, n => rfl
  | m + 1, n => by
    show S (n + 1) _ = bc c (R c m) n
    unfold bc
    refine S_congr fun k _ => ?_
    rw [LR_R c m, if_pos rfl, Int.mul_comm (c k * _), ← Int.mul_assoc]
theorem LR_small {lb : Bool} {c : Nat → Int} (h0 : c 0 = 0) : ∀ m n, n < m → LR lb c m n = 0
  | m + 1, n, h => by
    show S (n + 1) _ = 0
    refine S_zero' fun k hk => ?_
    by_cases e : k = 0
    · rw [e, h0, Int.zero_mul, Int.zero_mul]
    · rw [LR_small h0 m (n - k) (by omega), Int.mul_zero, Int.zero_mul]
theorem bin_self : ∀ n, bnm n n = 1
  | 0 => rfl
  | n + 1 => by show SMath.bin n n + SMath.bin n (n + 1) = 1; rw [show SMath.bin n n = 1 from bin_self n, bin_gt (Nat.lt_succ_self n)]; rfl
theorem LR_1 (lb : Bool) (c : Nat → Int) (n : Nat) : LR lb c 1 n = c n := by
  show S (n + 1) (fun k => c k * LR lb c 0 (n - k) * (if lb = true then bnm n k else 1)) = _
  rw [S, S_zero' fun k hk => ?_, Nat.sub_self, Int.zero_add]
  · have : LR lb c 0 0 = 1 := rfl
    rw [this, bin_self, Int.mul_one]
    split <;> exact Int.mul_one _
  · have : LR lb c 0 (n - k) = 0 := if_neg (by omega)
    rw [this, Int.mul_zero, Int.zero_mul]
def combB : Bool := (List.range 14).all fun n => (List.range (n + 1)).all fun k => PySem.W.mcComb n k == bnm n k
theorem combB_t : combB = true := by decide +kernel
theorem comb_bin {n k : Nat} (hn : n ≤ 13) (hk : k ≤ n) : PySem.W.mcComb n k = bnm n k := by
  have h := combB_t
  unfold combB at h
  rw [List.all_eq_true] at h
  have h1 := h n (List.mem_range.mpr (by omega))
  rw [List.all_eq_true] at h1
  exact beq_iff_eq.mp (h1 k (List.mem_range.mpr (by omega)))
theorem mode_lab (lb : Bool) : (modeS lb = "labelled") ↔ lb = true := by
  cases lb with
  | true => exact ⟨fun _ => rfl, fun _ => by unfold modeS; rw [if_pos rfl]⟩
  | false =>
    refine ⟨fun h => ?_, fun h => by cases h⟩
    have : ¬ (("unlabelled" : Str) = "labelled") := by decide +kernel
    exact absurd h this
theorem shr_bin {lb : Bool} {n k : Nat} (hn : n ≤ 13) (hk : k ≤ n) : shr (modeS lb) n k = if lb = true then bnm n k else 1 := by
  unfold shr
  by_cases h : lb = true
  · rw [if_pos ((mode_lab lb).mpr h), if_pos h]
    exact comb_bin hn hk
  · rw [if_neg (fun z => h ((mode_lab lb).mp z)), if_neg h]
theorem tab_LR {lb : Bool} {cs : List Int} (h0 : cs.getD 0 0 = 0) : ∀ m n, n ≤ 13 → tab (modeS lb) cs m n = LR lb (cF cs) m n
  | 0, n, _ => by rw [tab]; rfl
  | 1, n, _ => by rw [tab, LR_1]
  | m + 2, n, hn => by
    rw [tab, S_list]
    show _ = S (n + 1) (fun k => cF cs k * LR lb (cF cs) (m + 1) (n - k) * (if lb = true then bnm n k else 1))
    rw [S_first]
    have e0 : cF cs 0 * LR lb (cF cs) (m + 1) (n - 0) * (if lb = true then bnm n 0 else 1) = 0 := by
      rw [show cF cs 0 = 0 from h0, Int.zero_mul, Int.zero_mul]
    rw [e0, Int.zero_add, S_ext' (n := n - (m + 1)) (m := n) (Nat.sub_le _ _)]
    · refine S_congr fun i hi => ?_
      rw [tab_LR h0 (m + 1) (n - (i + 1)) (by omega), show ((i : Int) + 1) = ((i + 1 : Nat) : Int) by omega, shr_bin hn (by omega)]
      rw [Int.mul_comm _ (cs.getD (i + 1) 0), Int.mul_assoc, Int.mul_comm (if lb = true then bnm n (i + 1) else 1), ← Int.mul_assoc]
    · intro i h1 h2
      rw [LR_small h0 (m + 1) (n - (i + 1)) (by omega), Int.mul_zero, Int.zero_mul]
/-! ### rings and sets with labels -/
theorem R_small {c : Nat → Int} (h0 : c 0 = 0) {m n : Nat} (h : n < m) : R c m n = 0 := by rw [← LR_R]; exact LR_small h0 m n h
theorem begun_R {c : Nat → Int} (h0 : c 0 = 0) (m n : Nat) : ((m : Int) + 1) * begun c (R c m) n = R c (m + 1) n := by
  cases n with
  | zero => rw [R_small h0 (Nat.succ_pos m)]; exact Int.mul_zero _
  | succ n => rw [R_dl]; rfl
theorem begun_mul (c rest : Nat → Int) (k : Int) (n : Nat) : begun c (fun i => k * rest i) n = k * begun c rest n := by
  cases n with
  | zero => exact (Int.mul_zero _).symm
  | succ n =>
    show S (n + 1) _ = k * S (n + 1) _
    rw [← S_mul]
    exact S_congr fun i _ => by rw [← Int.mul_assoc, Int.mul_comm (bnm n i * c (i + 1)) k, Int.mul_assoc]
def factB : Bool := (List.range 61).all fun a => fct (a + 1) == ((a : Int) + 1) * fct a
theorem factB_t : factB = true := by decide +kernel
theorem fct_succ {a : Nat} (h : a ≤ 60) : fct (a + 1) = ((a : Int) + 1) * fct a := by
  have h0 := factB_t
  unfold factB at h0
  rw [List.all_eq_true] at h0
  exact beq_iff_eq.mp (h0 a (List.mem_range.mpr (by omega)))
theorem fct_1 : fct 1 = 1 := by decide
theorem fct_0 : fct 0 = 1 := by decide
theorem LS_R {c : Nat → Int} (h0 : c 0 = 0) : ∀ m, m + 1 ≤ 60 → ∀ n, fct (m + 1) * LS c (m + 1) n = R c (m + 1) n
  | 0, _, n => by
    rw [fct_1, Int.one_mul]
    show LR true c 1 n = _
    rw [LR_R]
  | m + 1, hm, n => by
    have ih := LS_R h0 m (by omega)
    rw [fct_succ (by omega), Int.mul_assoc]
    have e : fct (m + 1) * LS c (m + 1 + 1) n = begun c (R c (m + 1)) n := by
      show fct (m + 1) * begun c (LS c (m + 1)) n = _
      rw [← begun_mul, show (fun i => fct (m + 1) * LS c (m + 1) i) = R c (m + 1) from funext ih]
    rw [e]
    exact begun_R h0 (m + 1) n
/-! ### sets without labels -/
theorem hs_bag {cs : List Int} (h0 : cs.getD 0 0 = 0) (hp : ∀ i, 0 ≤ cs.getD i 0) {L : Nat} : ∀ m n, n ≤ L → hs cs m n = bag (fun i => (cs.getD i 0).toNat) L m n := by
  intro m
  induction m using Nat.strongRecOn with
  | ind m ih =>
    intro n hn
    have hc : ∀ i, (((cs.getD i 0).toNat : Nat) : Int) = cs.getD i 0 := fun i => Int.toNat_of_nonneg (hp i)
    match m with
    | 0 => rw [hs_0, bag_0]
    | 1 =>
      rw [hs_1]
      have h := rec_bag (fun i => (cs.getD i 0).toNat) L 0 n
      simp only [S, Int.zero_add, Nat.sub_zero] at h
      have h' : bag (fun i => (cs.getD i 0).toNat) L 1 n = Pc (fun i => (cs.getD i 0).toNat) L 1 (bag (fun i => (cs.getD i 0).toNat) L 0) n := by simpa using h
      rw [h']
      unfold Pc
      have b0 : bag (fun i => (cs.getD i 0).toNat) L 0 = fun n => if n = 0 then 1 else 0 := funext fun n => bag_0 _ n L
      rw [b0]
      cases n with
      | zero =>
        rw [h0, S_zero' fun i _ => ?_]
        unfold sh
        rw [if_neg (by omega), Int.mul_zero]
      | succ n =>
        rw [S_ext' (n := n + 1) (m := L) hn]
        · rw [S, S_zero' fun i hi => ?_]
          · unfold sh
            rw [if_pos (by omega)]
            show _ = 0 + ((cs.getD (n + 1) 0).toNat : Int) * (if n + 1 - 1 * (n + 1) = 0 then (1 : Int) else 0)
            rw [if_pos (by omega), Int.mul_one, hc, Int.zero_add]
          · unfold sh
            rw [if_pos (by omega)]
            show ((cs.getD (i + 1) 0).toNat : Int) * (if n + 1 - 1 * (i + 1) = 0 then (1 : Int) else 0) = 0
            rw [if_neg (by omega), Int.mul_zero]
        · intro i h1 h2
          unfold sh
          rw [if_neg (by omega), Int.mul_zero]
    | m + 2 =>
      by_cases hl : n < m + 2
      · rw [hs_small hl, bag_small _ _ _ _ hl]
      · rw [hs_2 hl, S_list]
        have h := rec_bag (fun i => (cs.getD i 0).toNat) L (m + 1) n
        have e : S (m + 2) (fun i : Nat => ((List.range ((n - (m + 2)) / (i + 1) + 1)).map fun j : Nat => cs.getD (j + 1) 0 * hs cs (m + 1 - i) (n - (i + 1) * (j + 1))).sum) = S (m + 1 + 1) (fun e => Pc (fun i => (cs.getD i 0).toNat) L (e + 1) (bag (fun i => (cs.getD i 0).toNat) L (m + 1 - e)) n) := by
          refine S_congr fun i hi => ?_
          rw [S_list]
          have hq := Nat.div_le_self (n - (m + 2)) (i + 1)
          have hq2 := Nat.mul_div_le (n - (m + 2)) (i + 1)
          have hq3 := Nat.lt_mul_div_succ (n - (m + 2)) (show 0 < i + 1 by omega)
          generalize hQ : (n - (m + 2)) / (i + 1) = q at hq hq2 hq3
          unfold Pc
          rw [S_ext' (n := q + 1) (m := L) (by omega)]
          · refine S_congr fun j hj => ?_
            have hj' : (i + 1) * (j + 1) ≤ n := by
              have : (i + 1) * (j + 1) ≤ (i + 1) * (q + 1) := Nat.mul_le_mul_left _ (by omega)
              rw [Nat.mul_succ (i + 1) q] at this
              omega
            rw [hc, ih (m + 1 - i) (by omega) _ (by omega)]
            unfold sh
            rw [if_pos hj']
          · intro j h1 h2
            have hj' : (i + 1) * (q + 1 + 1) ≤ (i + 1) * (j + 1) := Nat.mul_le_mul_left _ (by omega)
            rw [Nat.mul_succ (i + 1) (q + 1)] at hj'
            unfold sh
            split
            · rw [bag_small _ _ _ _ (by omega), Int.mul_zero]
            · rw [Int.mul_zero]
        rw [e, ← h]
        have hm : ((m + 1 : Nat) : Int) + 1 = (m : Int) + 2 := by omega
        rw [hm, Int.mul_comm]
        exact Int.mul_ediv_cancel _ (by omega)
/-! ### rings without labels -/
def turnL (m n : Nat) : List (Nat × Nat) := (List.range m).filterMap fun t => if n * Nat.gcd m t % m = 0 then some (Nat.gcd m t, n * Nat.gcd m t / m) else none
def ringLL (m n : Nat) : List (Nat × Nat) := (ringL m n).flatMap fun i => List.replicate (phi (i + 1)).toNat (m / (i + 1), n / (i + 1))
def turnB : Bool := (List.range 14).all fun m => (List.range 14).all fun n => (turnL (m + 1) n).isPerm (ringLL (m + 1) n)
theorem turnB_t : turnB = true := by decide +kernel
theorem turn_perm {m n : Nat} (hm : 1 ≤ m) (hm2 : m ≤ 14) (hn : n ≤ 13) : (turnL m n).Perm (ringLL m n) := by
  have h := turnB_t
  unfold turnB at h
  rw [List.all_eq_true] at h
  have h1 := h (m - 1) (List.mem_range.mpr (by omega))
  rw [List.all_eq_true] at h1
  have h2 := h1 n (List.mem_range.mpr (by omega))
  rw [show m - 1 + 1 = m by omega] at h2
  exact List.isPerm_iff.mp h2
theorem sum_filterMap {α : Type} (p : α → Option (Nat × Nat)) (g : Nat × Nat → Int) : ∀ l : List α, ((l.filterMap p).map g).sum = (l.map fun x => match p x with | some y => g y | none => 0).sum
  | [] => rfl
  | x :: r => by
    cases e : p x with
    | none => rw [List.filterMap_cons_none e, sum_filterMap p g r]; simp [e]
    | some y => rw [List.filterMap_cons_some e, List.map_cons, List.sum_cons, sum_filterMap p g r]; simp [e]
theorem sum_replicate (k : Nat) (v : Int) : (List.replicate k v).sum = k * v := by
  induction k with
  | zero => simp
  | succ k ih => rw [List.replicate_succ, List.sum_cons, ih, show ((k + 1 : Nat) : Int) = (k : Int) + 1 by omega, Int.add_mul]; omega
theorem sum_flat (p : Nat → Nat × Nat) (g : Nat × Nat → Int) : ∀ l : List Nat, ((l.flatMap fun i => List.replicate (phi (i + 1)).toNat (p i)).map g).sum = (l.map fun i => phi (i + 1) * g (p i)).sum
  | [] => rfl
  | x :: r => by
    rw [List.flatMap_cons, List.map_append, List.sum_append, sum_flat p g r, List.map_cons, List.sum_cons, List.map_replicate, sum_replicate, Int.toNat_of_nonneg (phi_le (x + 1)).1]
theorem perm_sum {a b : List Int} (h : a.Perm b) : a.sum = b.sum := by
  induction h with
  | nil => rfl
  | cons x _ ih => rw [List.sum_cons, List.sum_cons, ih]
  | swap x y l => rw [List.sum_cons, List.sum_cons, List.sum_cons, List.sum_cons]; omega
  | trans _ _ a b => exact a.trans b
theorem ring_turn {g : Nat → Nat → Int} {m n : Nat} (hm : 1 ≤ m) (hm2 : m ≤ 14) (hn : n ≤ 13) :
    ((ringL m n).map fun i => phi (i + 1) * g (m / (i + 1)) (n / (i + 1))).sum = S m fun t => if n * Nat.gcd m t % m = 0 then g (Nat.gcd m t) (n * Nat.gcd m t / m) else 0 := by
  have h1 := sum_flat (fun i => (m / (i + 1), n / (i + 1))) (fun x => g x.1 x.2) (ringL m n)
  have h2 := sum_filterMap (fun t => if n * Nat.gcd m t % m = 0 then some (Nat.gcd m t, n * Nat.gcd m t / m) else none) (fun x => g x.1 x.2) (List.range m)
  have h3 := perm_sum ((turn_perm hm hm2 hn).map fun x : Nat × Nat => g x.1 x.2)
  have e1 : ((ringL m n).map fun i => phi (i + 1) * g (m / (i + 1)) (n / (i + 1))).sum = ((ringLL m n).map fun x => g x.1 x.2).sum := h1.symm
  rw [e1, ← h3]
  unfold turnL
  rw [h2, S_list]
  refine S_congr fun t _ => ?_
  by_cases e : n * Nat.gcd m t % m = 0
  · simp only [if_pos e]
  · simp only [if_neg e]
/-! ### all of it -/
theorem tab_LR' {lb : Bool} {cs : List Int} {m n : Nat} (h : cs.getD 0 0 = 0 ∨ m < 2) (hn : n ≤ 13) : tab (modeS lb) cs m n = LR lb (cF cs) m n := by
  rcases h with h | h
  · exact tab_LR h m n hn
  · match m, h with
    | 0, _ => rw [tab]; rfl
    | 1, _ => rw [tab, LR_1]
theorem nrs : ¬ (("row" : Str) = "set") := by decide +kernel
theorem nrr : ¬ (("ring" : Str) = "row") := by decide +kernel
theorem nrg : ¬ (("ring" : Str) = "set") := by decide +kernel
theorem nsr : ¬ (("set" : Str) = "row") := by decide +kernel
theorem nsg : ¬ (("set" : Str) = "ring") := by decide +kernel
theorem unl_set {lb : Bool} : unl "set" (modeS lb) = !lb := by
  unfold unl
  rw [decide_eq_true rfl, Bool.true_and]
  cases lb with
  | true => rw [decide_eq_true ((mode_lab true).mpr rfl)]
  | false => rw [decide_eq_false fun z => by have := (mode_lab false).mp z; cases this]
theorem unl_row {lb : Bool} : unl "row" (modeS lb) = false := by
  unfold unl
  rw [decide_eq_false nrs, Bool.false_and]
theorem unl_ring {lb : Bool} : unl "ring" (modeS lb) = false := by
  unfold unl
  rw [decide_eq_false nrg, Bool.false_and]
theorem phi_1 : phi 1 = 1 := by decide
theorem ringL_1 (n : Nat) : ringL 1 n = [0] := by
  unfold ringL
  rw [Nat.gcd_one_left]
  rfl
/-- the four forms of exG -/
theorem exG_row {lb : Bool} {cs : List Int} {m n : Nat} : exG "row" (modeS lb) cs m n = tab (modeS lb) cs m n := by
  unfold exG
  rw [if_pos (.inl rfl), tg_t unl_row]
theorem exG_setL {cs : List Int} {m n : Nat} : exG "set" (modeS true) cs m n = tab (modeS true) cs m n / fct m := by
  unfold exG
  rw [if_neg (by rw [unl_set]; exact fun z => z.elim nsr Bool.noConfusion), if_pos rfl, tg_t (by rw [unl_set]; rfl)]
theorem exG_setU {cs : List Int} {m n : Nat} : exG "set" (modeS false) cs m n = hs cs m n := by
  unfold exG
  rw [if_pos (.inr (by rw [unl_set]; rfl)), tg_u (by rw [unl_set]; rfl)]
theorem exG_ringL {cs : List Int} {m n : Nat} : exG "ring" (modeS true) cs m n = tab (modeS true) cs m n / (m : Int) := by
  unfold exG
  rw [if_neg (by rw [unl_ring]; exact fun z => z.elim nrr Bool.noConfusion), if_neg nrg, if_pos ((mode_lab true).mpr rfl), tg_t unl_ring]
theorem exG_ringU {cs : List Int} {m n : Nat} : exG "ring" (modeS false) cs m n = ringV (fun a b => tab (modeS false) cs a b) m n := by
  unfold exG
  rw [if_neg (by rw [unl_ring]; exact fun z => z.elim nrr Bool.noConfusion), if_neg nrg, if_neg (fun z => by have := (mode_lab false).mp z; cases this)]
  congr 1
theorem fct_pos {a : Nat} (h : a ≤ 61) : 0 < fct a := by
  have h0 := factOk_t
  unfold factOk at h0
  rw [List.all_eq_true] at h0
  have h1 := h0 a (List.mem_range.mpr (by omega))
  rw [Bool.and_eq_true, decide_eq_true_eq, decide_eq_true_eq] at h1
  exact h1.1
theorem exG_LM {wd : Str} {lb : Bool} {cs : List Int} {m n : Nat} (hw : wd = "row" ∨ wd = "set" ∨ wd = "ring") (hp : ∀ i, 0 ≤ cs.getD i 0) (h0 : cs.getD 0 0 = 0 ∨ m < 2) (hm : m ≤ 13) (hn : n < cs.length) (hc : cs.length ≤ 13) (hr : wd = "ring" → 1 ≤ m) :
    exG wd (modeS lb) cs m n = LM wd lb cs m n := by
  unfold LM
  by_cases hm0 : m = 0
  · subst hm0
    rw [if_pos rfl]
    rcases hw with rfl | rfl | rfl
    · rw [exG_row, tab]
    · cases lb with
      | true => rw [exG_setL, tab, fct_0, Int.ediv_one]
      | false => rw [exG_setU, hs_0]
    · have := hr rfl
      omega
  rw [if_neg hm0]
  by_cases hrow : wd = "row"
  · subst hrow
    rw [if_pos (.inl rfl), exG_row, tab_LR' h0 (by omega)]
  by_cases hm1 : m = 1
  · subst hm1
    rw [if_pos (.inr rfl), LR_1]
    rcases hw with rfl | rfl | rfl
    · exact absurd rfl hrow
    · cases lb with
      | true => rw [exG_setL, tab, fct_1, Int.ediv_one]
      | false => rw [exG_setU, hs_1]
    · cases lb with
      | true => rw [exG_ringL, tab]; exact Int.ediv_one _
      | false =>
        rw [exG_ringU]
        unfold ringV
        rw [ringL_1]
        show (phi 1 * tab (modeS false) cs (1 / 1) (n / 1) + 0) / 1 = _
        rw [phi_1, Nat.div_one, Nat.div_one, tab, Int.one_mul, Int.add_zero]
        exact Int.ediv_one _
  have c0 : cs.getD 0 0 = 0 := h0.elim id fun z => by omega
  rw [if_neg (fun z => z.elim hrow hm1)]
  rcases hw with rfl | rfl | rfl
  · exact absurd rfl hrow
  · cases lb with
    | true =>
      rw [if_pos rfl, if_neg nsg, exG_setL, tab_LR c0 m n (by omega), LR_R]
      have h := LS_R (c := cF cs) c0 (m - 1) (by omega) n
      rw [show m - 1 + 1 = m by omega] at h
      rw [← h]
      exact Int.mul_ediv_cancel_left _ (by have := fct_pos (a := m) (by omega); omega)
    | false =>
      rw [if_neg Bool.false_ne_true, if_neg nsg, exG_setU]
      exact hs_bag c0 hp m n (by omega)
  · cases lb with
    | true =>
      rw [if_pos rfl, if_pos rfl, exG_ringL, tab_LR c0 m n (by omega), LR_R]
      have h := begun_R (c := cF cs) c0 (m - 1) n
      rw [show m - 1 + 1 = m by omega, show ((m - 1 : Nat) : Int) + 1 = (m : Int) by omega] at h
      rw [show LR true (cF cs) (m - 1) = R (cF cs) (m - 1) from funext fun n => LR_R _ _ n, ← h]
      exact Int.mul_ediv_cancel_left _ (by omega)
    | false =>
      rw [if_neg Bool.false_ne_true, if_pos rfl, exG_ringU]
      unfold ringV
      rw [ring_turn (by omega) (by omega) (by omega)]
      congr 1
      unfold turnS
      refine S_congr fun t _ => ?_
      split
      · refine tab_LR c0 _ _ ?_
        have hg : Nat.gcd m t ≤ m := Nat.gcd_le_left t (by omega)
        have : n * Nat.gcd m t / m ≤ n := Nat.div_le_of_le_mul (by rw [Nat.mul_comm m n]; exact Nat.mul_le_mul_left n hg)
        omega
      · rfl
theorem begun_small {c rest : Nat → Int} {m n : Nat} (h : ∀ k, k < m → rest k = 0) (hn : n < m + 1) : begun c rest n = 0 := by
  cases n with
  | zero => rfl
  | succ n =>
    show S (n + 1) _ = 0
    exact S_zero' fun i _ => by rw [h (n - i) (by omega), Int.mul_zero]
theorem LM_small {wd : Str} {lb : Bool} {cs : List Int} {m n : Nat} (hw : wd = "row" ∨ wd = "set" ∨ wd = "ring") (c0 : cs.getD 0 0 = 0) (hm : m ≤ 13) (hn : n < m) (h1 : 1 < m) : LM wd lb cs m n = 0 := by
  unfold LM
  rw [if_neg (by omega)]
  split
  · exact LR_small c0 m n hn
  split
  · split
    · refine begun_small (m := m - 1) (fun k hk => LR_small c0 _ k hk) (by omega)
    · have h := LS_R (c := cF cs) c0 (m - 1) (by omega) n
      rw [show m - 1 + 1 = m by omega, R_small c0 hn] at h
      rcases Int.mul_eq_zero.mp h with h | h
      · have := fct_pos (a := m) (by omega)
        omega
      · exact h
  split
  · have : turnS (cF cs) m n = 0 := by
      refine S_zero' fun t _ => ?_
      split
      · refine LR_small c0 _ _ ?_
        have hg : 0 < Nat.gcd m t := Nat.gcd_pos_of_pos_left t (by omega)
        exact (Nat.div_lt_iff_lt_mul (by omega)).mpr (by rw [Nat.mul_comm]; exact Nat.mul_lt_mul_of_pos_left hn hg)
      · rfl
    rw [this]
    exact Int.zero_ediv _
  · exact bag_small _ _ _ _ hn
end SM

namespace SM
open PySem L2
section
variable {P : Program} {w : World} {K : PySem.W.Frag} {mg : Str → Option Value} {base : Heap} {W : Ad}
def spRows (wd : Str) : Sp := fun vs H Q E => ∃ (a : Addr) (l : Nat) (m : Option Int) (lb : Bool), vs = [.ref a, .int l, oV m, .bl lb] ∧ spCW [.str wd, .ref a, .int l, oV m, .bl lb] H Q E
theorem ok_rows (D : Df K mg "rows" s_rows ["counts", "least", "most", "labelled"]) (C1 : Cal P w K mg base CX0 5 "_counts_within" ["word", "counts", "least", "most", "labelled"] spCW) :
    Cal P w K mg base CX0 6 "rows" ["counts", "least", "most", "labelled"] (spRows "row") := by
  obtain ⟨f, fd, g, F, b⟩ := D
  obtain ⟨f1, fd1, g__counts_within, k__counts_within, b__counts_within, G__counts_within⟩ := C1.ex
  refine ⟨f, fd, g, F.kp, b, F.ok sc_rows (fun vs H Q E h => ?_) (fun cdv A outer s H vs Q E hr h => ?_)⟩
  · obtain ⟨_, _, _, _, rfl, _⟩ := h
    rfl
  · obtain ⟨a, l, m, lb, rfl, k⟩ := h
    refine ⟨_, (pss_one (ps_ret (pe_call G__counts_within (hr.mono (by decide)) (by rfl) g__counts_within k__counts_within b__counts_within .nil pass0 (pa_cons pe_str (pa_cons (pv 0) (pa_cons (pv 1) (pa_cons (pv 2) (pa_cons (pv 3) pa_nil)))))))), ?_⟩
    exact ⟨_, rfl, _, rfl, _, rfl, _, rfl, k⟩
theorem ok_sets (D : Df K mg "sets" s_sets ["counts", "least", "most", "labelled"]) (C1 : Cal P w K mg base CX0 5 "_counts_within" ["word", "counts", "least", "most", "labelled"] spCW) :
    Cal P w K mg base CX0 6 "sets" ["counts", "least", "most", "labelled"] (spRows "set") := by
  obtain ⟨f, fd, g, F, b⟩ := D
  obtain ⟨f1, fd1, g__counts_within, k__counts_within, b__counts_within, G__counts_within⟩ := C1.ex
  refine ⟨f, fd, g, F.kp, b, F.ok sc_sets (fun vs H Q E h => ?_) (fun cdv A outer s H vs Q E hr h => ?_)⟩
  · obtain ⟨_, _, _, _, rfl, _⟩ := h
    rfl
  · obtain ⟨a, l, m, lb, rfl, k⟩ := h
    refine ⟨_, (pss_one (ps_ret (pe_call G__counts_within (hr.mono (by decide)) (by rfl) g__counts_within k__counts_within b__counts_within .nil pass0 (pa_cons pe_str (pa_cons (pv 0) (pa_cons (pv 1) (pa_cons (pv 2) (pa_cons (pv 3) pa_nil)))))))), ?_⟩
    exact ⟨_, rfl, _, rfl, _, rfl, _, rfl, k⟩
theorem ok_rings (D : Df K mg "rings" s_rings ["counts", "least", "most", "labelled"]) (C1 : Cal P w K mg base CX0 5 "_counts_within" ["word", "counts", "least", "most", "labelled"] spCW) :
    Cal P w K mg base CX0 6 "rings" ["counts", "least", "most", "labelled"] (spRows "ring") := by
  obtain ⟨f, fd, g, F, b⟩ := D
  obtain ⟨f1, fd1, g__counts_within, k__counts_within, b__counts_within, G__counts_within⟩ := C1.ex
  refine ⟨f, fd, g, F.kp, b, F.ok sc_rings (fun vs H Q E h => ?_) (fun cdv A outer s H vs Q E hr h => ?_)⟩
  · obtain ⟨_, _, _, _, rfl, _⟩ := h
    rfl
  · obtain ⟨a, l, m, lb, rfl, k⟩ := h
    refine ⟨_, (pss_one (ps_ret (pe_call G__counts_within (hr.mono (by decide)) (by rfl) g__counts_within k__counts_within b__counts_within .nil pass0 (pa_cons pe_str (pa_cons (pv 0) (pa_cons (pv 1) (pa_cons (pv 2) (pa_cons (pv 3) pa_nil)))))))), ?_⟩
    exact ⟨_, rfl, _, rfl, _, rfl, _, rfl, k⟩
/-! ### pairs -/
def pItem (md : Str) (xs ys : List Int) (n : Nat) : Int := SMath.S (n + 1) fun i => shr md n i * xs.getD i 0 * ys.getD (n - i) 0
def spItem (K : PySem.W.Frag) : Sp := fun vs H Q _ => ∃ (a b : Addr) (xs ys : List Int) (n : Nat) (md : Str), vs = [.ref a, .ref b, .int n, .str md] ∧ SqL K H a (xs.map V.int) ∧ SqL K H b (ys.map V.int) ∧ xs.length = ys.length ∧ n < xs.length ∧ xs.length ≤ 61 ∧
  (∀ i, 0 ≤ ys.getD i 0 ∧ ys.getD i 0 < 2 ^ 60) ∧ ∀ H', Same H H' → Q (.int (pItem md xs ys n)) H'
theorem ok_pair_item (T : Tx K mg W) (D : Df K mg "pair_item" s_pair_item ["first", "second", "size", "mode"]) (C1 : Cal P w K mg base CX0 1 "ways_to_share" ["first", "size", "mode"] spShare) :
    Cal P w K mg base CX0 2 "pair_item" ["first", "second", "size", "mode"] (spItem K) := by
  obtain ⟨f, fd, g, F, b⟩ := D
  obtain ⟨f1, fd1, g_ways_to_share, k_ways_to_share, b_ways_to_share, G_ways_to_share⟩ := C1.ex
  refine ⟨f, fd, g, F.kp, b, F.ok sc_pair_item (fun vs H Q E h => ?_) (fun cdv A outer s H vs Q E hr h => ?_)⟩
  · obtain ⟨_, _, _, _, _, _, rfl, _⟩ := h
    rfl
  · obtain ⟨a, b, xs, ys, n, md, rfl, hA, hB, hl, hn, h61, hy, k⟩ := h
    refine ⟨_, (pss_cons (ps_set (i := 4) sc_pair_item.nd rfl (.inl rfl) pe_int)
  (pss_cons (ps_for PassesOwn.never rfl (pi_range2 (by rfl) T.n_range (pa_cons (pe_callB (call_max2 rfl) (by rfl) T.n_max (by decide +kernel) (pa_cons pe_int (pa_cons (pe_op op_add (pe_op op_sub (pv 2) (pe_callB call_len_seq (by rfl) T.n_len (by decide +kernel) (pa_cons (pv 1) pa_nil))) pe_int) pa_nil))) (pa_cons (pe_op op_add (pe_callB (call_min2 rfl) (by rfl) T.n_min (by decide +kernel) (pa_cons (pv 2) (pa_cons (pe_op op_sub (pe_callB call_len_seq (by rfl) T.n_len (by decide +kernel) (pa_cons (pv 0) pa_nil)) pe_int) pa_nil))) pe_int) pa_nil))) (pg_name (i := 5) sc_pair_item.nd rfl (.inl rfl)) (
    (pss_one (ps_aug (i := 4) sc_pair_item.nd rfl (.inl rfl) (pe_op op_mul (pe_op op_mul (pe_call G_ways_to_share (hr.mono (by decide)) (by rfl) g_ways_to_share k_ways_to_share b_ways_to_share .nil pass0 (pa_cons (pv 5) (pa_cons (pv 2) (pa_cons (pv 3) pa_nil)))) (pe_ix ix_list (pv 0) (pv 5) (fun _ _ => rfl))) (pe_ix ix_list (pv 1) (pe_op op_sub (pv 2) (pv 5)) (fun _ _ => rfl))) ip_add))))
  (pss_one (ps_ret (pv 4))))), ?_⟩
    refine ⟨_, rfl, _, rfl, b, _, rfl, .inl hB, _, _, rfl, rfl, _, _, rfl, rfl, _, _, rfl, _, rfl, _, rfl, a, _, rfl, .inl hA, _, _, rfl, rfl, _, _, rfl, _, _, rfl, rfl, ?_⟩
    have e1 : (if (n : Int) - ((ys.map V.int).length : Nat) + 1 > 0 then (n : Int) - ((ys.map V.int).length : Nat) + 1 else 0) = 0 := by
      rw [List.length_map]
      exact if_neg (by omega)
    have e2 : (if ((xs.map V.int).length : Nat) - (1 : Int) < n then ((xs.map V.int).length : Nat) - (1 : Int) else (n : Int)) = n := by
      rw [List.length_map]
      exact if_neg (by omega)
    rw [e1, e2]
    refine ⟨_, _, rfl, ⟨by decide, by decide, by omega, by omega⟩, ?_⟩
    rw [show ((n : Int) + 1 - 0).toNat = n + 1 by omega]
    refine for_range (lo := 0) (n := n + 1) (fun i σ H' => Same H H' ∧ ∃ y5, σ = [some (.ref a), some (.ref b), some (.int n), some (.str md), some (.int (SMath.S i fun i => shr md n i * xs.getD i 0 * ys.getD (n - i) 0)), y5]) ⟨.refl H, none, rfl⟩ ?_ ?_
    · rintro i σ H1 hi ⟨s1, y5, rfl⟩
      refine ⟨_, rfl, ⟨_, rfl, _, rfl, _, rfl, _, n, md, rfl, by omega, by omega, by omega, ?_⟩⟩
      rw [show (0 : Int) + (i : Int) = (i : Int) by omega]
      refine ⟨_, rfl, _, rfl, a, _, _, _, rfl, rfl, s1.seq hA, atI_of rfl (getD_at (by omega)), _, _, rfl, rfl, .inl ?_, ?_⟩
      · have := shr_ok (md := md) (n := n) (i := i) (by omega) (by omega)
        omega
      · refine ⟨_, rfl, _, rfl, _, rfl, _, _, rfl, rfl, b, _, _, _, rfl, rfl, s1.seq hB, atI_of (j := n - i) (by omega) (getD_at (by omega)), _, _, rfl, rfl, .inr ?_, _, _, rfl, rfl, ?_⟩
        · have := hy (n - i)
          omega
        · exact ⟨s1, _, rfl⟩
    · rintro σ H1 ⟨s1, y5, rfl⟩
      exact ⟨_, rfl, k H1 s1⟩
def spPairs (K : PySem.W.Frag) : Sp := fun vs H Q E => ∃ (a b : Addr) (xs ys : List Int) (lb : Bool), vs = [.ref a, .ref b, .bl lb] ∧ H a = some (.lst (xs.map V.int)) ∧ H b = some (.lst (ys.map V.int)) ∧ xs.length = ys.length ∧ 1 ≤ xs.length ∧ xs.length ≤ 61 ∧
  (∀ x ∈ xs, 0 ≤ x) ∧ (∀ x ∈ ys, 0 ≤ x) ∧ (∀ i, 0 ≤ ys.getD i 0 ∧ ys.getD i 0 < 2 ^ 60) ∧ ∀ p H', Same H H' → H p = none → H' p = some (.lst (((List.range xs.length).map fun n => pItem (modeS lb) xs ys n).map V.int)) → Q (.ref p) H'
theorem ok_pairs (T : Tx K mg W) (D : Df K mg "pairs" s_pairs ["first", "second", "labelled"]) (C1 : Cal P w K mg base CX0 2 "check_counts" ["counts"] spCheck)
    (C2 : Cal P w K mg base CX0 2 "pair_item" ["first", "second", "size", "mode"] (spItem K)) (C3 : Cal P w K mg base CX0 1 "mode_of" ["labelled"] spMode) :
    Cal P w K mg base CX0 3 "pairs" ["first", "second", "labelled"] (spPairs K) := by
  obtain ⟨f, fd, g, F, b⟩ := D
  obtain ⟨f1, fd1, g_check_counts, k_check_counts, b_check_counts, G_check_counts⟩ := C1.ex
  obtain ⟨f2, fd2, g_pair_item, k_pair_item, b_pair_item, G_pair_item⟩ := C2.ex
  obtain ⟨f3, fd3, g_mode_of, k_mode_of, b_mode_of, G_mode_of⟩ := C3.ex
  refine ⟨f, fd, g, F.kp, b, F.ok sc_pairs (fun vs H Q E h => ?_) (fun cdv A outer s H vs Q E hr h => ?_)⟩
  · obtain ⟨_, _, _, _, _, rfl, _⟩ := h
    rfl
  · obtain ⟨a, b, xs, ys, lb, rfl, hA, hB, hl, h1, h61, p1, p2, hy, k⟩ := h
    refine ⟨_, (pss_cons (ps_expr (pe_call G_check_counts (hr.mono (by decide)) (by rfl) g_check_counts k_check_counts b_check_counts .nil pass0 (pa_cons (pv 0) pa_nil)))
  (pss_cons (ps_expr (pe_call G_check_counts (hr.mono (by decide)) (by rfl) g_check_counts k_check_counts b_check_counts .nil pass0 (pa_cons (pv 1) pa_nil)))
  (pss_cons (ps_if (pt_cmpR op_ne (pe_callB call_len_seq (by rfl) T.n_len (by decide +kernel) (pa_cons (pv 0) pa_nil)) (pe_callB call_len_seq (by rfl) T.n_len (by decide +kernel) (pa_cons (pv 1) pa_nil)) (nomark _)) (
    (pss_one (ps_never))) (pss_nil))
  (pss_one (ps_ret (pe_lc (own := [("size", 3)]) rfl sc_pairs.nd (pi_range1 (by rfl) T.n_range (pa_cons (pe_callB call_len_seq (by rfl) T.n_len (by decide +kernel) (pa_cons (pv 0) pa_nil)) pa_nil)) (blkOk_by (own := [("size", 3)]) (N := ["first", "second", "labelled", "size"]) (sc := defScope s_pairs) (by decide +kernel)) (fun _ _ _ _ _ => (pg_name (i := 3) sc_pairs.nd rfl (.inl rfl))) (fun _ _ _ _ _ => pts_nil) (fun _ _ _ _ _ => (pe_call G_pair_item (hr.mono (by decide)) (by rfl) g_pair_item k_pair_item b_pair_item .nil pass0 (pa_cons (pv 0) (pa_cons (pv 1) (pa_cons (pv 3) (pa_cons (pe_call G_mode_of (hr.mono (by decide)) (by rfl) g_mode_of k_mode_of b_mode_of .nil pass0 (pa_cons (pv 2) pa_nil)) pa_nil)))))))))))), ?_⟩
    refine ⟨_, rfl, a, xs, rfl, hA, p1, h1, h61, fun H1 s1 => ?_⟩
    refine ⟨_, rfl, b, ys, rfl, s1 _ _ hB, p2, by omega, by omega, fun H2 s2 => ?_⟩
    have hA2 := s2 _ _ (s1 _ _ hA)
    have hB2 := s2 _ _ (s1 _ _ hB)
    refine ⟨_, rfl, a, _, rfl, .inl (sq_of hA2), _, rfl, b, _, rfl, .inl (sq_of hB2), rfl, _, rfl, ?_⟩
    rw [decide_eq_true (show V.int ((xs.map V.int).length : Nat) = V.int ((ys.map V.int).length : Nat) by rw [List.length_map, List.length_map, hl])]
    refine iteF ?_
    refine ⟨_, rfl, a, _, rfl, .inl (sq_of hA2), _, rfl, by omega, by rw [List.length_map]; omega, fun Dn hD => ?_⟩
    rw [List.length_map, Int.toNat_natCast]
    refine lc_rangeM (lo := 0) (j := 3) (fun i => V.int (pItem (modeS lb) xs ys i)) (by omega) hD (fun i hi H3 s3 R kk => ?_) (fun H3 s3 h3 => ?_)
    · refine ⟨_, rfl, _, rfl, _, rfl, _, rfl, lb, rfl, ?_⟩
      refine ⟨a, b, xs, ys, i, modeS lb, by rw [show (0 : Int) + (i : Int) = (i : Int) by omega]; rfl, sq_of (s3 _ _ hA2), sq_of (s3 _ _ hB2), hl, hi, h61, hy, fun H4 s4 => kk H4 s4⟩
    · refine k Dn H3 ((s1.trans s2).trans s3) ((s1.trans s2).free hD) ?_
      rw [h3, List.map_map]
      rfl
end
end SM

namespace SM
open PySem L2
theorem cutV_ints (ns : List Int) (lo hi : Option Int) : ∃ ms : List Int, cutV (ns.map V.int) lo hi = ms.map V.int ∧ ms.length ≤ ns.length := by
  refine ⟨(ns.drop (HT.sIx (ns.map V.int).length 0 lo)).take (HT.sIx (ns.map V.int).length (ns.map V.int).length hi - HT.sIx (ns.map V.int).length 0 lo), ?_, ?_⟩
  · unfold cutV
    rw [List.map_take, List.map_drop]
  · rw [List.length_take, List.length_drop]
    omega
theorem cutV_to (xs : List V) (k : Nat) : cutV xs none (some (k : Int)) = xs.take k := by
  unfold cutV
  rw [HT.sIx_none, HT.sIx_nat, Nat.sub_zero, List.drop_zero]
  by_cases h : k ≤ xs.length
  · rw [Nat.min_eq_left h]
  · rw [Nat.min_eq_right (by omega), List.take_of_length_le (Nat.le_refl _), List.take_of_length_le (by omega)]
theorem cutV_from (xs : List V) (k : Nat) : cutV xs (some (k : Int)) none = xs.drop k := by
  unfold cutV
  rw [HT.sIx_none, HT.sIx_nat]
  by_cases h : k ≤ xs.length
  · rw [Nat.min_eq_left h]
    exact List.take_of_length_le (by rw [List.length_drop]; omega)
  · rw [Nat.min_eq_right (by omega), List.drop_of_length_le (Nat.le_refl _), List.drop_of_length_le (by omega), List.take_nil]
/-! ### the draws -/
def Dr (ds : List Int) : Prop := ∀ d ∈ ds, 0 ≤ d ∧ d < 65521
theorem Dr.nil : Dr [] := fun d hd => by cases hd
theorem Dr.app {ds : List Int} {x : Int} (h : Dr ds) (h0 : 0 ≤ x) (h1 : x < 65521) : Dr (ds ++ [x]) := fun d hd => by
  rcases List.mem_append.mp hd with e | e
  · exact h d e
  · simp at e
    rw [e]; exact ⟨h0, h1⟩
theorem Dr.take {ds : List Int} (h : Dr ds) (k : Nat) : Dr (ds.take k) := fun d hd => h d (List.mem_of_mem_take hd)
section
variable {P : Program} {w : World} {K : PySem.W.Frag} {mg : Str → Option Value} {base : Heap} {W : Ad}
def spDraws (K : PySem.W.Frag) : Sp := fun vs H Q _ => ∃ (a : Addr) (ns : List Int) (many : Nat), vs = [.ref a, .int many] ∧ SqL K H a (ns.map V.int) ∧ ns.length ≤ 63 ∧ many ≤ 1000 ∧
  ∀ (p : Addr) (H' : Hp) (ds : List Int), Same H H' → H p = none → H' p = some (.lst (ds.map V.int)) → Dr ds → ds.length = many → Q (.ref p) H'
theorem ok_draws (T : Tx K mg W) (D : Df K mg "_law_draws" s__law_draws ["script", "many"]) : Cal P w K mg base CX0 1 "_law_draws" ["script", "many"] (spDraws K) := by
  obtain ⟨f, fd, g, F, b⟩ := D
  refine ⟨f, fd, g, F.kp, b, F.ok sc__law_draws (fun vs H Q E h => ?_) (fun cdv A outer s H vs Q E hr h => ?_)⟩
  · obtain ⟨_, _, _, rfl, _⟩ := h
    rfl
  · obtain ⟨a, ns, many, rfl, hA, hlen, hmany, q⟩ := h
    refine ⟨_, (pss_cons (ps_set (i := 2) sc__law_draws.nd rfl (.inl rfl) (pe_lst pa_nil))
  (pss_cons (ps_set (i := 3) sc__law_draws.nd rfl (.inl rfl) pe_int)
  (pss_cons (ps_for PassesOwn.never rfl (pi_list (pe_slice sl_list (pv 0) po_none (po_some pe_int))) (pg_name (i := 4) sc__law_draws.nd rfl (.inl rfl)) (
    (pss_cons (ps_set (i := 5) sc__law_draws.nd rfl (.inl rfl) (pe_callB call_abs (by rfl) T.n_abs (by decide +kernel) (pa_cons (pv 4) pa_nil)))
    (pss_cons (ps_set (i := 3) sc__law_draws.nd rfl (.inl rfl) (pe_op op_mod (pe_callTy call_int1 (by rfl) T.n_int (by decide +kernel) (pa_cons (pe_op op_add (pe_op op_add (pe_op op_mul (pv 3) pe_int) (pv 5)) pe_int) pa_nil)) pe_int))
    (pss_one (ps_if (pt_cmpR op_ge (pv 5) (pe_op op_pow pe_int pe_int) (nomark _)) (
      (pss_one (ps_for PassesOwn.never rfl (pi_range1 (by rfl) T.n_range (pa_cons pe_int pa_nil)) (pg_name (i := 6) sc__law_draws.nd rfl (.inl rfl)) (
        (pss_one (ps_if (pt_cmpR op_gt (pv 5) pe_int (nomark _)) (
          (pss_cons (ps_expr (pe_bm PySem.F.plainAttrs_list PySem.F.slot_list_append PySem.F.type_list_append mt_append (pv 2) (pa_cons (pe_op op_mod (pe_callTy call_int1 (by rfl) T.n_int (by decide +kernel) (pa_cons (pv 5) pa_nil)) pe_int) pa_nil)))
          (pss_one (ps_set (i := 5) sc__law_draws.nd rfl (.inl rfl) (pe_op op_fdiv (pv 5) pe_int))))) (pss_nil))))))) (
      (pss_one (ps_expr (pe_bm PySem.F.plainAttrs_list PySem.F.slot_list_append PySem.F.type_list_append mt_append (pv 2) (pa_cons (pe_op op_mod (pe_op op_fdiv (pe_callTy call_int1 (by rfl) T.n_int (by decide +kernel) (pa_cons (pe_op op_add (pe_op op_mul (pv 3) pe_int) pe_int) pa_nil)) pe_int) pe_int) pa_nil)))))))))))
  (pss_cons (ps_for PassesOwn.never rfl (pi_range1 (by rfl) T.n_range (pa_cons (pv 1) pa_nil)) (pg_name (i := 6) sc__law_draws.nd rfl (.inl rfl)) (
    (pss_one (ps_if (pt_cmpR op_lt (pe_callB call_len_seq (by rfl) T.n_len (by decide +kernel) (pa_cons (pv 2) pa_nil)) (pv 1) (nomark _)) (
      (pss_cons (ps_set (i := 3) sc__law_draws.nd rfl (.inl rfl) (pe_op op_mod (pe_callTy call_int1 (by rfl) T.n_int (by decide +kernel) (pa_cons (pe_op op_add (pe_op op_add (pe_op op_mul (pv 3) pe_int) (pv 6)) pe_int) pa_nil)) pe_int))
      (pss_one (ps_expr (pe_bm PySem.F.plainAttrs_list PySem.F.slot_list_append PySem.F.type_list_append mt_append (pv 2) (pa_cons (pe_op op_mod (pe_op op_fdiv (pe_callTy call_int1 (by rfl) T.n_int (by decide +kernel) (pa_cons (pv 3) pa_nil)) pe_int) pe_int) pa_nil)))))) (pss_nil)))))
  (pss_one (ps_ret (pe_slice sl_list (pv 2) po_none (po_some (pv 1))))))))), ?_⟩
    -- draws = []; seed = 7; script[:63]
    refine ⟨Nat.zero_le _, fun dp nd => ?_⟩
    have s1 : Same H (upd H dp (.lst [])) := same_upd nd
    refine ⟨_, rfl, 63, rfl, a, _, rfl, s1.seq hA, fun cp nc => ?_⟩
    obtain ⟨ms, ems, hms⟩ := cutV_ints ns none (some 63)
    rw [ems]
    have ncd : cp ≠ dp := fun e => by rw [e, upd_same] at nc; cases nc
    have nc0 : H cp = none := s1.free nc
    have hc2 : (upd (upd H dp (.lst [])) cp (.lst (ms.map V.int))) cp = some (.lst (ms.map V.int)) := upd_same
    refine ⟨cp, rfl, ⟨_, sq_of hc2⟩, for_list (K := K) (a := cp) (xs := ms.map V.int) (fun i σ H' => ∃ (seed : Int) (y4 y5 y6 : Option V) (ds : List Int), σ = [some (.ref a), some (.int many), some (.ref dp), some (.int seed), y4, y5, y6] ∧ 0 ≤ seed ∧ seed < 2147483647 ∧
      Same H H' ∧ H' cp = some (.lst (ms.map V.int)) ∧ H' dp = some (.lst (ds.map V.int)) ∧ Dr ds ∧ ds.length ≤ 60 * i) ⟨7, none, none, none, [], rfl, by decide, by decide, s1.trans (same_upd nc), hc2, by rw [upd_ne ncd.symm]; exact upd_same, Dr.nil, Nat.zero_le _⟩
      (fun i σ H' _ ⟨_, _, _, _, _, _, _, _, _, h, _⟩ => sq_of h) ?_ ?_⟩
    · rintro i y σ H1 hi ⟨seed, y4, y5, y6, ds, rfl, h0, h1, sm, hcp, hdp, hds, hdl⟩
      obtain ⟨z, hz, rfl⟩ := ints_of hi
      have hil : i < ms.length := (List.getElem?_eq_some_iff.mp hz).1
      -- number = abs(cell)
      refine ⟨_, rfl, z, rfl, ?_⟩
      generalize hnum : (if z < 0 then -z else z) = num
      have hnum0 : 0 ≤ num := by rw [← hnum]; split <;> omega
      -- seed
      refine ⟨_, rfl, _, _, rfl, rfl, .inl ⟨by omega, by omega⟩, _, rfl, _, _, rfl, rfl, _, _, rfl, rfl, .inl ⟨_, rfl, _, _, rfl, rfl, (by show (0 : Int) < 2147483647; decide), ?_⟩⟩
      show _
      have m0 := Int.emod_nonneg (seed * 48271 + num + 11) (b := 2147483647) (by decide)
      have m1 := Int.emod_lt_of_pos (seed * 48271 + num + 11) (b := 2147483647) (by decide)
      generalize hse : (seed * 48271 + num + 11) % 2147483647 = se at m0 m1
      refine ⟨_, rfl, _, _, rfl, rfl, ⟨by decide, by decide, by decide⟩, _, _, rfl, rfl, _, rfl, ?_⟩
      refine ite2 (fun _ => ?_) (fun _ => ?_)
      · -- many digits
        refine ⟨60, rfl, by decide, by decide, ?_⟩
        refine for_range (lo := 0) (n := 60) (fun k σ H' => ∃ (num : Int) (y6 : Option V) (ds : List Int), σ = [some (.ref a), some (.int many), some (.ref dp), some (.int se), some (.int z), some (.int num), y6] ∧ 0 ≤ num ∧
          Same H H' ∧ H' cp = some (.lst (ms.map V.int)) ∧ H' dp = some (.lst (ds.map V.int)) ∧ Dr ds ∧ ds.length ≤ 60 * i + k) ⟨num, y6, ds, ?_, hnum0, sm, hcp, hdp, hds, hdl⟩ ?_ ?_
        · rw [← hse]; rfl
        · rintro k σ H2 hk ⟨nm, y6', ds', rfl, n0, sm', hcp', hdp', hds', hdl'⟩
          refine ⟨_, rfl, _, _, rfl, rfl, _, rfl, ite2 (fun c => ?_) (fun c => ?_)⟩
          · refine ⟨_, rfl, .inl ⟨rfl, _, sq_of hdp'⟩, _, rfl, .inl ⟨_, rfl, _, _, rfl, rfl, (by show (0 : Int) < 1009; decide), dp, _, _, rfl, rfl, hdp', szl _ (by rw [List.length_map]; omega), ?_⟩⟩
            have w0 := Int.emod_nonneg nm (b := 1009) (by decide)
            have w1 := Int.emod_lt_of_pos nm (b := 1009) (by decide)
            refine ⟨_, rfl, _, _, rfl, rfl, ⟨by decide, by decide⟩, nm / 1009, _, ds' ++ [nm % 1009], rfl, Int.ediv_nonneg n0 (by decide), same_upd' sm' nd, by rw [upd_ne ncd]; exact hcp', by rw [upd_same, List.map_append]; rfl, hds'.app w0 (by omega), by rw [List.length_append]; simp; omega⟩
          · exact ⟨nm, _, ds', rfl, n0, sm', hcp', hdp', hds', by omega⟩
        · rintro σ H2 ⟨nm, y6', ds', rfl, n0, sm', hcp', hdp', hds', hdl'⟩
          exact ⟨se, _, _, _, ds', rfl, m0, m1, sm', hcp', hdp', hds', by omega⟩
      · refine ⟨_, rfl, .inl ⟨rfl, _, sq_of hdp⟩, _, rfl, _, _, rfl, rfl, .inl ⟨?_, ?_⟩, _, _, rfl, rfl, .inl ⟨_, rfl, _, _, rfl, rfl, ⟨by decide, by decide⟩, _, _, rfl, rfl, (by show (0 : Int) < 65521; decide), dp, _, _, rfl, rfl, hdp, szl _ (by rw [List.length_map]; omega), ?_⟩⟩
        · rw [hse]; omega
        · rw [hse]; omega
        · refine ⟨se, _, _, _, ds ++ [((seed * 48271 + num + 11) % 2147483647 * 16807 + 5) / 3 % 65521], by rw [← hse]; rfl, m0, m1, same_upd' sm nd, by rw [upd_ne ncd]; exact hcp, by rw [upd_same, List.map_append]; rfl, hds.app (Int.emod_nonneg _ (by decide)) (Int.emod_lt_of_pos _ (by decide)), by rw [List.length_append]; simp; omega⟩
    · rintro σ H1 ⟨seed, y4, y5, y6, ds, rfl, h0, h1, sm, hcp, hdp, hds, hdl⟩
      rw [List.length_map] at hdl
      refine ⟨_, rfl, many, rfl, by omega, by omega, ?_⟩
      rw [Int.toNat_natCast]
      refine for_range (lo := 0) (n := many) (fun k σ H' => ∃ (seed : Int) (y4 y5 y6 : Option V) (ds : List Int), σ = [some (.ref a), some (.int many), some (.ref dp), some (.int seed), y4, y5, y6] ∧ 0 ≤ seed ∧ seed < 2147483647 ∧
        Same H H' ∧ H' dp = some (.lst (ds.map V.int)) ∧ Dr ds ∧ ds.length ≤ 60 * 63 + k ∧ (k ≤ ds.length ∨ many ≤ ds.length)) ⟨seed, y4, y5, y6, ds, rfl, h0, h1, sm, hdp, hds, by omega, .inl (Nat.zero_le _)⟩ ?_ ?_
      · rintro k σ H2 hk ⟨se, y4, y5, y6, ds', rfl, n0, n1, sm', hdp', hds', hdl', hlong⟩
        refine ⟨_, rfl, dp, _, rfl, .inl (sq_of hdp'), _, rfl, _, _, rfl, rfl, _, rfl, ite2 (fun c => ?_) (fun c => ?_)⟩
        · refine ⟨_, rfl, _, _, rfl, rfl, .inl ⟨by omega, by omega⟩, _, rfl, _, _, rfl, rfl, _, _, rfl, rfl, .inl ⟨_, rfl, _, _, rfl, rfl, (by show (0 : Int) < 2147483647; decide), ?_⟩⟩
          refine ⟨_, rfl, .inl ⟨rfl, _, sq_of hdp'⟩, _, rfl, .inl ⟨_, rfl, _, _, rfl, rfl, ⟨by decide, by decide⟩, _, _, rfl, rfl, (by show (0 : Int) < 65521; decide), dp, _, _, rfl, rfl, hdp', szl _ (by rw [List.length_map]; omega), ?_⟩⟩
          refine ⟨_, _, _, _, ds' ++ [(se * 69621 + (0 + (k : Int)) + 1) % 2147483647 / 7 % 65521], rfl, Int.emod_nonneg _ (by decide), Int.emod_lt_of_pos _ (by decide), same_upd' sm' nd, by rw [upd_same, List.map_append]; rfl, hds'.app (Int.emod_nonneg _ (by decide)) (Int.emod_lt_of_pos _ (by decide)), by rw [List.length_append]; simp; omega, ?_⟩
          rw [List.length_append]; simp; omega
        · have c' : ¬ ((((ds'.map V.int).length : Nat) : Int) < (many : Int)) := fun z => c (decide_eq_true z)
          rw [List.length_map] at c'
          exact ⟨se, _, _, _, ds', rfl, n0, n1, sm', hdp', hds', by omega, .inr (by omega)⟩
      · rintro σ H2 ⟨se, y4, y5, y6, ds', rfl, n0, n1, sm', hdp', hds', hdl', hlong⟩
        refine ⟨_, rfl, _, rfl, many, rfl, dp, _, rfl, sq_of hdp', fun p np => ?_⟩
        refine q p _ (ds'.take many) (sm'.trans (same_upd np)) (sm'.free np) ?_ (hds'.take many) ?_
        · rw [upd_same, cutV_to, List.map_take]
        · rw [List.length_take]; omega
end
end SM

namespace SMath
theorem pow2_succ (n : Nat) : (2 : Int) ^ (n + 1) = 2 ^ n + 2 ^ n := by rw [Int.pow_succ]; omega
theorem pow2_pos (n : Nat) : (1 : Int) ≤ 2 ^ n := by
  induction n with
  | zero => decide
  | succ n ih => rw [pow2_succ]; omega
theorem bin_le : ∀ n k, 0 ≤ bin n k ∧ bin n k ≤ 2 ^ n
  | n, 0 => by rw [bin_0]; exact ⟨by decide, pow2_pos n⟩
  | 0, k + 1 => by rw [bin]; exact ⟨by decide, by decide⟩
  | n + 1, k + 1 => by
    have h1 := bin_le n k
    have h2 := bin_le n (k + 1)
    rw [bin, pow2_succ]
    omega
theorem G_le : ∀ v t, 0 ≤ G v t ∧ G v t ≤ 2 ^ (v + t)
  | v, 0 => by rw [G_0]; exact ⟨by decide, pow2_pos _⟩
  | 0, t + 1 => by rw [G]; exact ⟨by decide, Int.le_trans (by decide) (pow2_pos _)⟩
  | v + 1, t + 1 => by
    have h1 := G_le (v + 1) t
    have h2 := G_le v (t + 1)
    rw [G, show v + 1 + (t + 1) = (v + 1 + t) + 1 by omega, pow2_succ]
    rw [show v + (t + 1) = v + 1 + t by omega] at h2
    omega
theorem bin_step : ∀ n k : Nat, ((k : Int) + 1) * bin n (k + 1) = ((n : Int) - k) * bin n k
  | 0, 0 => by decide
  | 0, k + 1 => by
    rw [bin, bin]; simp
  | n + 1, 0 => by
    have h := bin_step n 0
    rw [bin_0] at h ⊢
    rw [show bin (n + 1) (0 + 1) = bin n 0 + bin n (0 + 1) from rfl, bin_0]
    have e : ((0 : Nat) : Int) = 0 := rfl
    rw [e] at h ⊢
    have e2 : ((n + 1 : Nat) : Int) = (n : Int) + 1 := by omega
    rw [e2]
    omega
  | n + 1, k + 1 => by
    have h1 := bin_step n (k + 1)
    have h2 := bin_step n k
    rw [bin, show bin (n + 1) (k + 1) = bin n k + bin n (k + 1) from rfl, Int.mul_add, h1]
    have e1 : ((k + 1 : Nat) : Int) = (k : Int) + 1 := by omega
    have e2 : ((n + 1 : Nat) : Int) = (n : Int) + 1 := by omega
    rw [e1, e2, Int.mul_add]
    have e3 : ((n : Int) + 1 - ((k : Int) + 1)) = (n : Int) - k := by omega
    rw [e3, ← h2]
    generalize bin n (k + 1) = x
    have a : ((k : Int) + 1 + 1) * x = ((k : Int) + 1) * x + x := by rw [Int.add_mul ((k : Int) + 1) 1, Int.one_mul]
    rw [← Int.add_mul, ← Int.add_mul]
    congr 1
    omega
theorem G_bin : ∀ v t : Nat, G v t = bin (v + t - 1) t
  | v, 0 => by rw [G_0, bin_0]
  | 0, t + 1 => by rw [G, bin_gt (by omega)]
  | v + 1, t + 1 => by
    rw [G, G_bin (v + 1) t, G_bin v (t + 1), show v + 1 + (t + 1) - 1 = (v + t) + 1 by omega, bin, show v + 1 + t - 1 = v + t by omega, show v + (t + 1) - 1 = v + t by omega]
theorem bag_step (c : Nat → Nat) (L m n : Nat) : bag c (L + 1) m n = S (min m (n / (L + 1)) + 1) fun t => bag c L (m - t) (n - t * (L + 1)) * G (c (L + 1)) t := by
  show geoN (L + 1) (c (L + 1)) (bag c L) m n = _
  rw [geoN_eq, S_ext' (n := min m (n / (L + 1)) + 1) (m := m + 1) (by omega)]
  · refine S_congr fun t ht => ?_
    have : t ≤ n / (L + 1) := by omega
    have h2 : t * (L + 1) ≤ n := (Nat.le_div_iff_mul_le (by omega)).mp this
    unfold sh
    rw [if_pos h2, Int.mul_comm]
  · intro t h1 h2
    have : ¬ t ≤ n / (L + 1) := by omega
    have h2 : ¬ t * (L + 1) ≤ n := fun z => this ((Nat.le_div_iff_mul_le (by omega)).mpr z)
    unfold sh
    rw [if_neg h2, Int.mul_zero]
end SMath

namespace SM
open PySem L2
/-- small counts -/
def Sm (cs : List Int) : Prop := ∀ i, 0 ≤ cs.getD i 0 ∧ cs.getD i 0 ≤ 40
section
variable {P : Program} {w : World} {K : PySem.W.Frag} {mg : Str → Option Value} {base : Heap} {W : Ad}
def spBin : Sp := fun vs H Q _ => ∃ (z : Int) (n k : Nat), vs = [.int z, .int k] ∧ (z = n ∨ k = 0) ∧ n ≤ 10000 ∧ k ≤ 10000 ∧ Q (.int (SMath.bin n k)) H
theorem ok_bin (T : Tx K mg W) (D : Df K mg "_law_binomial" s__law_binomial ["n", "k"]) : Cal P w K mg base CX0 1 "_law_binomial" ["n", "k"] spBin := by
  obtain ⟨f, fd, g, F, b⟩ := D
  refine ⟨f, fd, g, F.kp, b, F.ok sc__law_binomial (fun vs H Q E h => ?_) (fun cdv A outer s H vs Q E hr h => ?_)⟩
  · obtain ⟨_, _, _, rfl, _⟩ := h
    rfl
  · obtain ⟨z, n, k, rfl, hz, hn, hk, q⟩ := h
    refine ⟨_, (pss_cons (ps_set (i := 2) sc__law_binomial.nd rfl (.inl rfl) pe_int)
  (pss_cons (ps_for PassesOwn.never rfl (pi_range1 (by rfl) T.n_range (pa_cons (pv 1) pa_nil)) (pg_name (i := 3) sc__law_binomial.nd rfl (.inl rfl)) (
    (pss_one (ps_set (i := 2) sc__law_binomial.nd rfl (.inl rfl) (pe_op op_fdivN (pe_op op_mul (pv 2) (pe_op op_sub (pv 0) (pv 3))) (pe_op op_add (pv 3) pe_int))))))
  (pss_one (ps_ret (pv 2))))), ?_⟩
    refine ⟨_, rfl, k, rfl, by omega, by omega, ?_⟩
    rw [Int.toNat_natCast]
    refine for_range (lo := 0) (n := k) (fun i σ H' => H' = H ∧ ∃ y3, σ = [some (.int z), some (.int k), some (.int (SMath.bin n i)), y3]) ⟨rfl, none, by rw [SMath.bin_0]; rfl⟩ ?_ ?_
    · rintro i σ H1 hi ⟨rfl, y3, rfl⟩
      have hz' : z = n := hz.resolve_right (by omega)
      subst hz'
      refine ⟨_, rfl, _, rfl, _, rfl, _, _, rfl, rfl, _, _, rfl, rfl, .inr ⟨by omega, by omega⟩, _, rfl, _, _, rfl, rfl, _, _, rfl, rfl, ⟨by omega, by omega⟩, rfl, some (.int (0 + (i : Int))), ?_⟩
      · have h := SMath.bin_step n i
        have e : (SMath.bin n i * ((n : Int) - (0 + (i : Int)))).fdiv (0 + (i : Int) + 1) = SMath.bin n (i + 1) := by
          rw [show (0 : Int) + (i : Int) = i by omega, Int.mul_comm, ← h, Int.fdiv_eq_ediv_of_nonneg _ (by omega)]
          exact Int.mul_ediv_cancel_left _ (by omega)
        rw [← e]; rfl
    · rintro σ H1 ⟨rfl, y3, rfl⟩
      exact ⟨_, rfl, q⟩
/-! ### rows -/
def rowL (lb : Bool) (cs : List Int) (m k : Nat) : List Int := (List.range k).map fun n => LR lb (cF cs) m n
theorem rowL_len {lb : Bool} {cs : List Int} {m k : Nat} : (rowL lb cs m k).length = k := by unfold rowL; rw [List.length_map, List.length_range]
theorem rowL_get {lb : Bool} {cs : List Int} {m k i : Nat} (h : i < k) : ((rowL lb cs m k).map V.int)[i]? = some (.int (LR lb (cF cs) m i)) := by
  unfold rowL
  rw [List.map_map, List.getElem?_map, List.getElem?_range h]; rfl
theorem rowL_more {lb : Bool} {cs : List Int} {m k : Nat} : (rowL lb cs m k).map V.int ++ [.int (LR lb (cF cs) m k)] = (rowL lb cs m (k + 1)).map V.int := by
  unfold rowL
  rw [List.range_succ, List.map_append, List.map_append]; rfl
theorem rowL_0 {lb : Bool} {cs : List Int} {k : Nat} (h : 1 ≤ k) : [V.int 1] ++ (List.replicate (k - 1) [V.int 0]).flatten = (rowL lb cs 0 k).map V.int := by
  obtain ⟨j, rfl⟩ : ∃ j, k = j + 1 := ⟨k - 1, by omega⟩
  unfold rowL
  rw [List.range_succ_eq_map, List.map_cons, List.map_cons, List.map_map, List.map_map, Nat.add_sub_cancel]
  show V.int 1 :: _ = V.int 1 :: _
  congr 1
  clear h
  show (List.replicate j [V.int 0]).flatten = _
  induction j with
  | zero => rfl
  | succ j ih =>
    rw [List.replicate_succ', List.flatten_append, ih, List.range_succ, List.map_append]
    rfl
def spLRows (K : PySem.W.Frag) : Sp := fun vs H Q _ => ∃ (a : Addr) (cs : List Int) (m : Nat) (lb : Bool), vs = [.ref a, .int m, .bl lb] ∧ SqL K H a (cs.map V.int) ∧ Sm cs ∧ 1 ≤ cs.length ∧ cs.length ≤ 14 ∧ m ≤ 1000 ∧
  ∀ p H', Same H H' → H p = none → H' p = some (.lst ((rowL lb cs m cs.length).map V.int)) → Q (.ref p) H'
theorem ok_lrows (T : Tx K mg W) (D : Df K mg "_law_rows" s__law_rows ["counts", "members", "labelled"]) (C1 : Cal P w K mg base CX0 1 "_law_binomial" ["n", "k"] spBin) :
    Cal P w K mg base CX0 2 "_law_rows" ["counts", "members", "labelled"] (spLRows K) := by
  obtain ⟨f, fd, g, F, b⟩ := D
  obtain ⟨f1, fd1, g__law_binomial, k__law_binomial, b__law_binomial, G__law_binomial⟩ := C1.ex
  refine ⟨f, fd, g, F.kp, b, F.ok sc__law_rows (fun vs H Q E h => ?_) (fun cdv A outer s H vs Q E hr h => ?_)⟩
  · obtain ⟨_, _, _, _, rfl, _⟩ := h
    rfl
  · obtain ⟨a, cs, m, lb, rfl, hA, hsm, h1, h14, hm, q⟩ := h
    refine ⟨_, (pss_cons (ps_set (i := 3) sc__law_rows.nd rfl (.inl rfl) (pe_op op_cat (pe_lst (pa_cons pe_int pa_nil)) (pe_op op_rep (pe_lst (pa_cons pe_int pa_nil)) (pe_op op_sub (pe_callB call_len_seq (by rfl) T.n_len (by decide +kernel) (pa_cons (pv 0) pa_nil)) pe_int))))
  (pss_cons (ps_for PassesOwn.never rfl (pi_range1 (by rfl) T.n_range (pa_cons (pv 1) pa_nil)) (pg_name (i := 4) sc__law_rows.nd rfl (.inl rfl)) (
    (pss_cons (ps_set (i := 5) sc__law_rows.nd rfl (.inl rfl) (pe_lst pa_nil))
    (pss_cons (ps_for PassesOwn.never rfl (pi_range1 (by rfl) T.n_range (pa_cons (pe_callB call_len_seq (by rfl) T.n_len (by decide +kernel) (pa_cons (pv 0) pa_nil)) pa_nil)) (pg_name (i := 6) sc__law_rows.nd rfl (.inl rfl)) (
      (pss_cons (ps_set (i := 7) sc__law_rows.nd rfl (.inl rfl) pe_int)
      (pss_cons (ps_for PassesOwn.never rfl (pi_range1 (by rfl) T.n_range (pa_cons (pe_op op_add (pv 6) pe_int) pa_nil)) (pg_name (i := 8) sc__law_rows.nd rfl (.inl rfl)) (
        (pss_one (ps_set (i := 7) sc__law_rows.nd rfl (.inl rfl) (pe_op op_add (pv 7) (pe_op op_mul (pe_op op_mul (pe_ix ix_list (pv 0) (pv 8) (fun _ _ => rfl)) (pe_ix ix_list (pv 3) (pe_op op_sub (pv 6) (pv 8)) (fun _ _ => rfl))) (pe_ifExp (pt_val (pv 2)) (pe_call G__law_binomial (hr.mono (by decide)) (by rfl) g__law_binomial k__law_binomial b__law_binomial .nil pass0 (pa_cons (pv 6) (pa_cons (pv 8) pa_nil))) pe_int)))))))
      (pss_one (ps_expr (pe_bm PySem.F.plainAttrs_list PySem.F.slot_list_append PySem.F.type_list_append mt_append (pv 5) (pa_cons (pv 7) pa_nil))))))))
    (pss_one (ps_set (i := 3) sc__law_rows.nd rfl (.inl rfl) (pv 5)))))))
  (pss_one (ps_ret (pv 3))))), ?_⟩
    refine ⟨sz _ (by show 1 ≤ 100000; decide), fun p1 n1 => ⟨sz _ (by show 1 ≤ 100000; decide), fun p2 n2 => ?_⟩⟩
    have s1 : Same H (upd H p1 (.lst [.int 1])) := same_upd n1
    have s2 : Same H (upd (upd H p1 (.lst [.int 1])) p2 (.lst [.int 0])) := s1.trans (same_upd n2)
    have n21 : p1 ≠ p2 := fun e => by rw [← e, upd_same] at n2; cases n2
    refine ⟨_, rfl, a, _, rfl, .inl (s2.seq hA), _, _, rfl, rfl, p2, _, _, rfl, rfl, upd_same, by omega, by rw [List.length_map]; omega, ?_, fun p3 n3 => ?_⟩
    · refine sz _ ?_
      rw [List.length_map]
      simp
      omega
    have n31 : p1 ≠ p3 := fun e => by rw [← e, upd_ne n21, upd_same] at n3; cases n3
    have s3 := s2.trans (same_upd (o := HO.lst (List.replicate ((cs.map V.int).length - (1 : Int)).toNat [V.int 0]).flatten) n3)
    refine ⟨p1, p3, _, _, rfl, rfl, by rw [upd_ne n31, upd_ne n21]; exact upd_same, upd_same, ?_, fun p4 n4 => ?_⟩
    · refine sz _ ?_
      rw [List.length_map]
      simp
      omega
    have eN : ((cs.map V.int).length - (1 : Int)).toNat = cs.length - 1 := by rw [List.length_map]; omega
    generalize hH4 : upd _ p4 _ = H4
    have s4 : Same H H4 := hH4 ▸ s3.trans (same_upd n4)
    have nf4 : H p4 = none := s3.free n4
    have e4 : H4 p4 = some (.lst ((rowL lb cs 0 cs.length).map V.int)) := by rw [← hH4, upd_same, eN, rowL_0 h1]
    clear hH4
    refine ⟨_, rfl, m, rfl, by omega, by omega, ?_⟩
    rw [Int.toNat_natCast]
    refine for_range (lo := 0) (n := m) (fun i σ H' => Same H H' ∧ ∃ p y4 y5 y6 y7 y8, σ = [some (.ref a), some (.int m), some (.bl lb), some (.ref p), y4, y5, y6, y7, y8] ∧ H p = none ∧ H' p = some (.lst ((rowL lb cs i cs.length).map V.int))) ⟨s4, p4, none, none, none, none, none, rfl, nf4, e4⟩ ?_ ?_
    · rintro i σ H5 hi ⟨s5, p, y4, y5, y6, y7, y8, rfl, np, hp⟩
      refine ⟨Nat.zero_le _, fun l nl => ?_⟩
      have nlp : p ≠ l := fun e => by rw [← e, hp] at nl; cases nl
      have nl0 : H l = none := s5.free nl
      refine ⟨_, rfl, a, _, rfl, .inl ((same_upd' s5 nl0).seq hA), _, rfl, by omega, by rw [List.length_map]; omega, ?_⟩
      rw [List.length_map, Int.toNat_natCast]
      refine for_range (lo := 0) (n := cs.length) (fun n σ H' => Same H H' ∧ ∃ y4 y6 y7 y8, σ = [some (.ref a), some (.int m), some (.bl lb), some (.ref p), y4, some (.ref l), y6, y7, y8] ∧ H' p = some (.lst ((rowL lb cs i cs.length).map V.int)) ∧ H' l = some (.lst ((rowL lb cs (i + 1) n).map V.int))) ⟨same_upd' s5 nl0, _, y6, y7, y8, rfl, by rw [upd_ne nlp]; exact hp, upd_same⟩ ?_ ?_
      · rintro n σ H6 hn ⟨s6, y4, y6, y7, y8, rfl, hp6, hl6⟩
        refine ⟨_, rfl, _, _, rfl, rfl, _, rfl, by omega, by omega, ?_⟩
        rw [show ((0 : Int) + (n : Int) + 1).toNat = n + 1 by omega]
        refine for_range (lo := 0) (n := n + 1) (fun k σ H' => H' = H6 ∧ ∃ y8, σ = [some (.ref a), some (.int m), some (.bl lb), some (.ref p), y4, some (.ref l), some (.int (0 + (n : Int))), some (.int (SMath.S k fun k => cF cs k * LR lb (cF cs) i (n - k) * (if lb = true then bnm n k else 1))), y8]) ⟨rfl, y8, rfl⟩ ?_ ?_
        · rintro k σ H7 hk ⟨rfl, y8, rfl⟩
          have hc := hsm k
          refine ⟨_, rfl, _, rfl, _, rfl, a, _, _, _, rfl, rfl, s6.seq hA, atI_of (j := k) (Int.zero_add _) (getD_at (by omega)), _, rfl, _, rfl, _, rfl, _, _, rfl, rfl, p, _, _, _, rfl, rfl, sq_of hp6, atI_of (j := n - k) (by omega) (rowL_get (by omega)), _, _, rfl, rfl, .inl ⟨Int.lt_of_lt_of_le (by decide) hc.1, Int.lt_of_le_of_lt hc.2 (by decide)⟩, _, rfl, lb, rfl, ?_⟩
          cases lb with
          | true =>
            refine iteT ⟨_, rfl, _, rfl, (0 + (n : Int)), n, k, by show [V.int _, V.int (0 + (k : Int))] = _; rw [Int.zero_add (k : Int)], .inl (by omega), by omega, by omega, _, _, rfl, rfl, .inr ?_, _, _, rfl, rfl, rfl, some (.int (0 + (k : Int))), ?_⟩
            · have := SMath.bin_le n k
              have h2 : (2 : Int) ^ n ≤ 2 ^ 14 := pow_le (by omega)
              omega
            · rfl
          | false =>
            refine iteF ⟨_, _, rfl, rfl, .inr (by decide), _, _, rfl, rfl, rfl, some (.int (0 + (k : Int))), ?_⟩
            rfl
        · rintro σ H7 ⟨rfl, y8, rfl⟩
          refine ⟨_, rfl, .inl ⟨rfl, _, sq_of hl6⟩, _, rfl, l, _, _, rfl, rfl, hl6, szl _ (by rw [List.length_map, rowL_len]; omega), ?_⟩
          refine ⟨same_upd' s6 nl0, _, _, _, _, rfl, by rw [upd_ne nlp]; exact hp6, ?_⟩
          rw [upd_same, ← rowL_more]
          rfl
      · rintro σ H6 ⟨s6, y4, y6, y7, y8, rfl, hp6, hl6⟩
        exact ⟨_, rfl, s6, l, _, _, _, _, _, rfl, nl0, hl6⟩
    · rintro σ H5 ⟨s5, p, y4, y5, y6, y7, y8, rfl, np, hp⟩
      exact ⟨_, rfl, q p H5 s5 np hp⟩
end
end SM

namespace SM
open PySem L2
/-- a list that is filled from the left -/
def pst (f : Nat → Int) (k N : Nat) : List Int := (List.range N).map fun i => if i < k then f i else 0
theorem pst_len {f : Nat → Int} {k N : Nat} : ((pst f k N).map V.int).length = N := by unfold pst; rw [List.length_map, List.length_map, List.length_range]
theorem pst_get {f : Nat → Int} {k N i : Nat} (h : i < N) : ((pst f k N).map V.int)[i]? = some (.int (if i < k then f i else 0)) := by
  unfold pst
  rw [List.map_map, List.getElem?_map, List.getElem?_range h]; rfl
theorem pst_set {f : Nat → Int} {k N : Nat} (h : k < N) : ((pst f k N).map V.int).set k (.int (f k)) = (pst f (k + 1) N).map V.int := by
  refine List.ext_getElem? fun i => ?_
  rw [List.getElem?_set, pst_len]
  by_cases e : k = i
  · subst e
    rw [if_pos rfl, if_pos h, pst_get h, if_pos (Nat.lt_succ_self k)]
  · rw [if_neg e]
    by_cases hi : i < N
    · rw [pst_get hi, pst_get hi]
      congr 2
      by_cases h2 : i < k
      · rw [if_pos h2, if_pos (by omega)]
      · rw [if_neg h2, if_neg (by omega)]
    · rw [List.getElem?_eq_none (by rw [pst_len]; omega), List.getElem?_eq_none (by rw [pst_len]; omega)]
theorem pst_all {f : Nat → Int} {N : Nat} : pst f N N = (List.range N).map f := by
  unfold pst
  refine List.map_congr_left fun i hi => ?_
  rw [if_pos (List.mem_range.mp hi)]
theorem zeros_pst {f : Nat → Int} {k N : Nat} (h : ∀ i, i < k → f i = 0) : (List.replicate N [V.int 0]).flatten = (pst f k N).map V.int := by
  unfold pst
  induction N with
  | zero => rfl
  | succ N ih =>
    rw [List.replicate_succ', List.flatten_append, ih, List.range_succ, List.map_append, List.map_append]
    congr 1
    show [V.int 0] = [V.int _]
    congr 2
    show 0 = if N < k then f N else 0
    by_cases hk : N < k
    · rw [if_pos hk, h _ hk]
    · rw [if_neg hk]
theorem ixN_nat {n j : Nat} {z : Int} (e : z = (j : Int)) (h : j < n) : ixN n z = some j := by
  subst e
  unfold ixN
  rw [if_pos (by omega), if_pos (by omega)]
  rfl
theorem fun_get {f : Nat → Int} {N i : Nat} (h : i < N) : (((List.range N).map f).map V.int)[i]? = some (.int (f i)) := by
  rw [List.map_map, List.getElem?_map, List.getElem?_range h]; rfl
section
variable {P : Program} {w : World} {K : PySem.W.Frag} {mg : Str → Option Value} {base : Heap} {W : Ad}
def spBegun (K : PySem.W.Frag) : Sp := fun vs H Q _ => ∃ (a r : Addr) (cs : List Int) (rest : Nat → Int), vs = [.ref a, .ref r] ∧ SqL K H a (cs.map V.int) ∧ H r = some (.lst (((List.range cs.length).map rest).map V.int)) ∧ Sm cs ∧ 1 ≤ cs.length ∧ cs.length ≤ 14 ∧
  ∀ p H', Same H H' → H p = none → H' p = some (.lst (((List.range cs.length).map (begun (cF cs) rest)).map V.int)) → Q (.ref p) H'
theorem ok_begun (T : Tx K mg W) (D : Df K mg "_law_begun" s__law_begun ["counts", "rest"]) (C1 : Cal P w K mg base CX0 1 "_law_binomial" ["n", "k"] spBin) :
    Cal P w K mg base CX0 2 "_law_begun" ["counts", "rest"] (spBegun K) := by
  obtain ⟨f, fd, g, F, b⟩ := D
  obtain ⟨f1, fd1, g__law_binomial, k__law_binomial, b__law_binomial, G__law_binomial⟩ := C1.ex
  refine ⟨f, fd, g, F.kp, b, F.ok sc__law_begun (fun vs H Q E h => ?_) (fun cdv A outer s H vs Q E hr h => ?_)⟩
  · obtain ⟨_, _, _, _, rfl, _⟩ := h
    rfl
  · obtain ⟨a, r, cs, rest, rfl, hA, hR, hsm, h1, h14, q⟩ := h
    refine ⟨_, (pss_cons (ps_set (i := 2) sc__law_begun.nd rfl (.inl rfl) (pe_op op_rep (pe_lst (pa_cons pe_int pa_nil)) (pe_callB call_len_seq (by rfl) T.n_len (by decide +kernel) (pa_cons (pv 0) pa_nil))))
  (pss_cons (ps_for PassesOwn.never rfl (pi_range2 (by rfl) T.n_range (pa_cons pe_int (pa_cons (pe_callB call_len_seq (by rfl) T.n_len (by decide +kernel) (pa_cons (pv 0) pa_nil)) pa_nil))) (pg_name (i := 3) sc__law_begun.nd rfl (.inr rfl)) (
    (pss_one (ps_asg (pe_callB (cr_sum rfl) (by rfl) T.n_sum (by decide +kernel) (pa_cons (pe_lc (own := [("k", 4)]) rfl sc__law_begun.nd (pi_range2 (by rfl) T.n_range (pa_cons pe_int (pa_cons (pe_op op_add (pv 3) pe_int) pa_nil))) (blkOk_by (own := [("k", 4)]) (N := ["counts", "rest", "found", "n", "k"]) (sc := defScope s__law_begun) (by decide +kernel)) (fun _ _ _ _ _ => (pg_name (i := 4) sc__law_begun.nd rfl (.inl rfl))) (fun _ _ _ _ _ => pts_nil) (fun _ _ _ _ _ => (pe_op op_mul (pe_op op_mul (pe_call G__law_binomial (hr.mono (by decide)) (by rfl) g__law_binomial k__law_binomial b__law_binomial .nil pass0 (pa_cons (pe_op op_sub (pv 3) pe_int) (pa_cons (pe_op op_sub (pv 4) pe_int) pa_nil))) (pe_ix (ix_listB (K := K) rfl) (pv 0) (pv 4) (fun _ _ => rfl))) (pe_ix (ix_listB (K := K) rfl) (pv 1) (pe_op op_sub (pv 3) (pv 4)) (fun _ _ => rfl))))) pa_nil)) (pg_sub (pv 2) (pv 3) set_list)))))
  (pss_one (ps_ret (pv 2))))), ?_⟩
    refine ⟨sz _ (by show 1 ≤ 100000; decide), fun p1 n1 => ?_⟩
    have s1 : Same H (upd H p1 (.lst [.int 0])) := same_upd n1
    refine ⟨_, rfl, a, _, rfl, .inl (s1.seq hA), p1, _, _, rfl, rfl, upd_same, by omega, by rw [List.length_map]; omega, ?_, fun p2 n2 => ?_⟩
    · refine sz _ ?_
      rw [List.length_map]
      simp
      omega
    generalize hH2 : upd _ p2 _ = H2
    have s2 : Same H H2 := hH2 ▸ s1.trans (same_upd n2)
    have nf2 : H p2 = none := s1.free n2
    have e2 : H2 p2 = some (.lst ((pst (begun (cF cs) rest) 1 cs.length).map V.int)) := by
      rw [← hH2, upd_same, ← zeros_pst (N := cs.length) (f := begun (cF cs) rest) (k := 1) (fun i hi => by rw [show i = 0 by omega]; rfl), List.length_map, Int.toNat_natCast]
    clear hH2
    refine ⟨_, rfl, a, _, rfl, .inl (s2.seq hA), _, _, rfl, ⟨by omega, by omega, by rw [List.length_map]; omega, by rw [List.length_map]; omega⟩, ?_⟩
    rw [List.length_map, show ((cs.length : Int) - 1).toNat = cs.length - 1 by omega]
    refine for_range (lo := 1) (n := cs.length - 1) (fun i σ H' => Same H H' ∧ ∃ y3 y4, σ = [some (.ref a), some (.ref r), some (.ref p2), y3, y4] ∧ H' p2 = some (.lst ((pst (begun (cF cs) rest) (1 + i) cs.length).map V.int))) ⟨s2, none, none, rfl, e2⟩ ?_ ?_
    · rintro j σ H3 hj ⟨s3, y3, y4, rfl, hp⟩
      refine ⟨_, rfl, _, _, rfl, rfl, _, _, rfl, ⟨by omega, by omega, by omega, by omega⟩, fun Dn hD => ?_⟩
      rw [show ((1 : Int) + (j : Int) + 1 - 1).toNat = j + 1 by omega]
      refine lc_rangeM (lo := 1) (j := 4) (fun i => V.int (bnm j i * cF cs (i + 1) * rest (j - i))) (by omega) hD (fun i hi H4 s4 R kk => ?_) (fun H4 s4 h4 => ?_)
      · refine ⟨_, rfl, _, _, rfl, rfl, _, rfl, _, _, rfl, rfl, ((1 : Int) + (j : Int) - 1), j, i, ?_, .inl (by omega), by omega, by omega, ?_⟩
        · show [V.int _, V.int ((1 : Int) + (i : Int) - 1)] = _
          rw [show (1 : Int) + (i : Int) - 1 = i by omega]
        have hb := SMath.bin_le j i
        have hb2 : (2 : Int) ^ j ≤ 2 ^ 14 := pow_le (by omega)
        have hc := hsm (i + 1)
        refine ⟨_, rfl, _, rfl, a, _, _, _, rfl, rfl, s4.seq (s3.seq hA), atI_of (j := i + 1) (by omega) (getD_at (by omega)), _, _, rfl, rfl, .inl ⟨by omega, by omega⟩, ?_⟩
        refine ⟨_, rfl, _, rfl, _, rfl, _, _, rfl, rfl, r, _, _, _, rfl, rfl, sq_of (s4 _ _ (s3 _ _ hR)), atI_of (j := j - i) (by omega) (fun_get (by omega)), _, _, rfl, rfl, .inl ?_, kk H4 (.refl H4)⟩
        have : 0 ≤ SMath.bin j i * cs.getD (i + 1) 0 := Int.mul_nonneg hb.1 hc.1
        have h3 : SMath.bin j i * cs.getD (i + 1) 0 ≤ 2 ^ 14 * 40 := Int.mul_le_mul (by omega) hc.2 hc.1 (by decide)
        omega
      · have hp4 := s4 _ _ hp
        refine ⟨Dn, (List.range (j + 1)).map (fun i => bnm j i * cF cs (i + 1) * rest (j - i)), rfl, sq_of (by rw [h4, List.map_map]; rfl), ?_⟩
        refine ⟨_, rfl, _, rfl, p2, _, _, 1 + j, rfl, rfl, hp4, ixN_nat (by omega) (by rw [pst_len]; omega), ?_⟩
        refine ⟨same_upd' (s3.trans s4) nf2, _, _, rfl, ?_⟩
        rw [upd_same, SMath.S_list, show 1 + (j + 1) = (1 + j) + 1 by omega, ← pst_set (by omega)]
        congr 3
        rw [show 1 + j = j + 1 by omega]
        rfl
    · rintro σ H3 ⟨s3, y3, y4, rfl, hp⟩
      refine ⟨_, rfl, q p2 H3 s3 nf2 ?_⟩
      rw [hp, show 1 + (cs.length - 1) = cs.length by omega, pst_all]
/-! ### the greatest common divisor -/
def spGcd : Sp := fun vs H Q _ => ∃ (a b : Nat), vs = [.int a, .int b] ∧ b ≤ 60 ∧ Q (.int (Nat.gcd a b)) H
theorem ok_common (T : Tx K mg W) (D : Df K mg "_law_common" s__law_common ["a", "b"]) : Cal P w K mg base CX0 1 "_law_common" ["a", "b"] spGcd := by
  obtain ⟨f, fd, g, F, b⟩ := D
  refine ⟨f, fd, g, F.kp, b, F.ok sc__law_common (fun vs H Q E h => ?_) (fun cdv A outer s H vs Q E hr h => ?_)⟩
  · obtain ⟨_, _, rfl, _⟩ := h
    rfl
  · obtain ⟨a, b, rfl, hb, q⟩ := h
    refine ⟨_, (pss_cons (ps_for PassesOwn.never rfl (pi_range1 (by rfl) T.n_range (pa_cons pe_int pa_nil)) (pg_name (i := 2) sc__law_common.nd rfl (.inl rfl)) (
    (pss_one (ps_if (pt_cmpR op_gt (pv 1) pe_int (nomark _)) (
      (pss_one (ps_par (i := 0) (j := 1) (by rfl) sc__law_common.nd rfl rfl (by decide) rfl rfl (pa_cons (pv 1) (pa_cons (pe_op op_mod (pe_callTy call_int1 (by rfl) T.n_int (by decide +kernel) (pa_cons (pv 0) pa_nil)) (pv 1)) pa_nil)) (by rfl)))) (pss_nil)))))
  (pss_one (ps_ret (pv 0)))), ?_⟩
    refine ⟨60, rfl, by decide, by decide, ?_⟩
    refine for_range (lo := 0) (n := 60) (fun i σ H' => H' = H ∧ ∃ (x y : Nat) (y2 : Option V), σ = [some (.int x), some (.int y), y2] ∧ y ≤ 60 - i ∧ Nat.gcd x y = Nat.gcd a b) ⟨rfl, a, b, none, rfl, by omega, rfl⟩ ?_ ?_
    · rintro i σ H1 hi ⟨rfl, x, y, y2, rfl, hy, hg⟩
      refine ⟨_, rfl, _, _, rfl, rfl, _, rfl, ite2 (fun c => ?_) (fun c => ?_)⟩
      · have c' : (0 : Int) < (y : Int) := of_decide_eq_true c
        refine ⟨_, rfl, _, rfl, .inl ⟨_, rfl, _, rfl, _, _, rfl, rfl, by omega, _, _, rfl, rfl, y, x % y, _, rfl, ?_, ?_⟩⟩
        · have := Nat.mod_lt x (show 0 < y by omega)
          omega
        · rw [← hg, Nat.gcd_comm x y, Nat.gcd_rec y x, Nat.gcd_comm]
      · have c' : ¬ (0 : Int) < (y : Int) := fun z => c (decide_eq_true z)
        exact ⟨rfl, x, y, _, rfl, by omega, hg⟩
    · rintro σ H1 ⟨rfl, x, y, y2, rfl, hy, hg⟩
      have : y = 0 := by omega
      subst this
      rw [Nat.gcd_zero_right] at hg
      subst hg
      exact ⟨_, rfl, q⟩
end
end SM

namespace SM
open PySem L2
/-- a list whose first items are new -/
def mix (f g : Nat → Int) (k N : Nat) : List Int := (List.range N).map fun i => if i < k then f i else g i
theorem mix_len {f g : Nat → Int} {k N : Nat} : ((mix f g k N).map V.int).length = N := by unfold mix; rw [List.length_map, List.length_map, List.length_range]
theorem mix_get {f g : Nat → Int} {k N i : Nat} (h : i < N) : ((mix f g k N).map V.int)[i]? = some (.int (if i < k then f i else g i)) := by
  unfold mix
  rw [List.map_map, List.getElem?_map, List.getElem?_range h]; rfl
theorem mix_at {f g : Nat → Int} {k N : Nat} (h : k < N) : ((mix f g k N).map V.int)[k]? = some (.int (g k)) := by
  rw [mix_get h, if_neg (Nat.lt_irrefl k)]
theorem mix_set {f g : Nat → Int} {k N : Nat} (h : k < N) : ((mix f g k N).map V.int).set k (.int (f k)) = (mix f g (k + 1) N).map V.int := by
  refine List.ext_getElem? fun i => ?_
  rw [List.getElem?_set, mix_len]
  by_cases e : k = i
  · subst e
    rw [if_pos rfl, if_pos h, mix_get h, if_pos (Nat.lt_succ_self k)]
  · rw [if_neg e]
    by_cases hi : i < N
    · rw [mix_get hi, mix_get hi]
      congr 2
      by_cases h2 : i < k
      · rw [if_pos h2, if_pos (by omega)]
      · rw [if_neg h2, if_neg (by omega)]
    · rw [List.getElem?_eq_none (by rw [mix_len]; omega), List.getElem?_eq_none (by rw [mix_len]; omega)]
theorem mix_skip {f g : Nat → Int} {k N : Nat} (h : f k = g k) : mix f g k N = mix f g (k + 1) N := by
  unfold mix
  refine List.map_congr_left fun i _ => ?_
  by_cases e : i = k
  · subst e
    rw [if_neg (Nat.lt_irrefl _), if_pos (Nat.lt_succ_self _), h]
  · by_cases h2 : i < k
    · rw [if_pos h2, if_pos (by omega)]
    · rw [if_neg h2, if_neg (by omega)]
theorem mix_all {f g : Nat → Int} {N : Nat} : mix f g N N = (List.range N).map f := by
  unfold mix
  refine List.map_congr_left fun i hi => ?_
  rw [if_pos (List.mem_range.mp hi)]
theorem mix_0 {f g : Nat → Int} {N : Nat} : mix f g 0 N = (List.range N).map g := by
  unfold mix
  exact List.map_congr_left fun i hi => if_neg (Nat.not_lt_zero i)
theorem zeros_fun {N : Nat} : (List.replicate N [V.int 0]).flatten = ((List.range N).map fun _ => (0 : Int)).map V.int := by
  rw [zeros_pst (f := fun _ => 0) (k := 0) (fun i h => absurd h (Nat.not_lt_zero i))]
  rfl
section
variable {P : Program} {w : World} {K : PySem.W.Frag} {mg : Str → Option Value} {base : Heap} {W : Ad}
def tTerm (c : Nat → Int) (m n t : Nat) : Int := if n * Nat.gcd m t % m = 0 then LR false c (Nat.gcd m t) (n * Nat.gcd m t / m) else 0
def spTurned (K : PySem.W.Frag) : Sp := fun vs H Q _ => ∃ (a : Addr) (cs : List Int) (m : Nat), vs = [.ref a, .int m] ∧ SqL K H a (cs.map V.int) ∧ Sm cs ∧ 1 ≤ cs.length ∧ cs.length ≤ 14 ∧ 1 ≤ m ∧ m ≤ 60 ∧
  ∀ p H', Same H H' → H p = none → H' p = some (.lst (((List.range cs.length).map fun n => turnS (cF cs) m n / (m : Int)).map V.int)) → Q (.ref p) H'
theorem ok_turned (T : Tx K mg W) (D : Df K mg "_law_turned" s__law_turned ["counts", "members"]) (C1 : Cal P w K mg base CX0 1 "_law_common" ["a", "b"] spGcd)
    (C2 : Cal P w K mg base CX0 2 "_law_rows" ["counts", "members", "labelled"] (spLRows K)) :
    Cal P w K mg base CX0 3 "_law_turned" ["counts", "members"] (spTurned K) := by
  obtain ⟨f, fd, g, F, b⟩ := D
  obtain ⟨f1, fd1, g__law_common, k__law_common, b__law_common, G__law_common⟩ := C1.ex
  obtain ⟨f2, fd2, g__law_rows, k__law_rows, b__law_rows, G__law_rows⟩ := C2.ex
  refine ⟨f, fd, g, F.kp, b, F.ok sc__law_turned (fun vs H Q E h => ?_) (fun cdv A outer s H vs Q E hr h => ?_)⟩
  · obtain ⟨_, _, _, rfl, _⟩ := h
    rfl
  · obtain ⟨a, cs, m, rfl, hA, hsm, h1, h14, hm, hm2, q⟩ := h
    refine ⟨_, (pss_cons (ps_set (i := 2) sc__law_turned.nd rfl (.inl rfl) (pe_op op_rep (pe_lst (pa_cons pe_int pa_nil)) (pe_callB call_len_seq (by rfl) T.n_len (by decide +kernel) (pa_cons (pv 0) pa_nil))))
  (pss_cons (ps_for PassesOwn.never rfl (pi_range1 (by rfl) T.n_range (pa_cons (pv 1) pa_nil)) (pg_name (i := 3) sc__law_turned.nd rfl (.inl rfl)) (
    (pss_cons (ps_set (i := 4) sc__law_turned.nd rfl (.inl rfl) (pe_call G__law_common (hr.mono (by decide)) (by rfl) g__law_common k__law_common b__law_common .nil pass0 (pa_cons (pv 1) (pa_cons (pv 3) pa_nil))))
    (pss_cons (ps_set (i := 5) sc__law_turned.nd rfl (.inl rfl) (pe_call G__law_rows (hr.mono (by decide)) (by rfl) g__law_rows k__law_rows b__law_rows .nil pass0 (pa_cons (pv 0) (pa_cons (pv 4) (pa_cons pe_bl pa_nil)))))
    (pss_one (ps_for PassesOwn.never rfl (pi_range1 (by rfl) T.n_range (pa_cons (pe_callB call_len_seq (by rfl) T.n_len (by decide +kernel) (pa_cons (pv 0) pa_nil)) pa_nil)) (pg_name (i := 6) sc__law_turned.nd rfl (.inl rfl)) (
      (pss_one (ps_if (pt_cmpR op_eq (pe_op op_mod (pe_callTy call_int1 (by rfl) T.n_int (by decide +kernel) (pa_cons (pe_op op_mul (pv 6) (pv 4)) pa_nil)) (pv 1)) pe_int (nomark _)) (
        (pss_one (ps_asg (pe_op op_add (pe_ix ix_list (pv 2) (pv 6) (fun _ _ => rfl)) (pe_ix ix_list (pv 5) (pe_op op_fdivN (pe_op op_mul (pv 6) (pv 4)) (pv 1)) (fun _ _ => rfl))) (pg_sub (pv 2) (pv 6) set_list)))) (pss_nil))))))))))
  (pss_one (ps_ret (pe_lc (own := [("one", 7)]) rfl sc__law_turned.nd (pi_list (pv 2)) (blkOk_by (own := [("one", 7)]) (N := ["counts", "members", "found", "turn", "g", "base", "n", "one"]) (sc := defScope s__law_turned) (by decide +kernel)) (fun _ _ _ _ _ => (pg_name (i := 7) sc__law_turned.nd rfl (.inl rfl))) (fun _ _ _ _ _ => pts_nil) (fun _ _ _ _ _ => (pe_op op_fdivN (pv 7) (pv 1)))))))), ?_⟩
    refine ⟨sz _ (by show 1 ≤ 100000; decide), fun p1 n1 => ?_⟩
    have s1 : Same H (upd H p1 (.lst [.int 0])) := same_upd n1
    refine ⟨_, rfl, a, _, rfl, .inl (s1.seq hA), p1, _, _, rfl, rfl, upd_same, by omega, by rw [List.length_map]; omega, ?_, fun p2 n2 => ?_⟩
    · refine sz _ ?_
      rw [List.length_map]
      simp
      omega
    generalize hH2 : upd _ p2 _ = H2
    have s2 : Same H H2 := hH2 ▸ s1.trans (same_upd n2)
    have nf2 : H p2 = none := s1.free n2
    have e2 : H2 p2 = some (.lst (((List.range cs.length).map fun n => SMath.S 0 (tTerm (cF cs) m n)).map V.int)) := by
      rw [← hH2, upd_same, List.length_map, Int.toNat_natCast, zeros_fun]
      rfl
    clear hH2
    refine ⟨_, rfl, m, rfl, by omega, by omega, ?_⟩
    rw [Int.toNat_natCast]
    refine for_range (lo := 0) (n := m) (fun t σ H' => Same H H' ∧ ∃ y3 y4 y5 y6 y7, σ = [some (.ref a), some (.int m), some (.ref p2), y3, y4, y5, y6, y7] ∧ H' p2 = some (.lst (((List.range cs.length).map fun n => SMath.S t (tTerm (cF cs) m n)).map V.int))) ⟨s2, none, none, none, none, none, rfl, e2⟩ ?_ ?_
    · rintro t σ H3 ht ⟨s3, y3, y4, y5, y6, y7, rfl, hp⟩
      have hg : Nat.gcd m t ≤ m := Nat.gcd_le_left t (by omega)
      refine ⟨_, rfl, _, rfl, m, t, ?_, by omega, ?_⟩
      · show [V.int _, V.int ((0 : Int) + (t : Int))] = _
        rw [Int.zero_add]
      refine ⟨_, rfl, _, rfl, a, cs, Nat.gcd m t, false, rfl, s3.seq hA, hsm, h1, h14, by omega, fun bp H4 s4 nb hb => ?_⟩
      have hp4 := s4 _ _ hp
      refine ⟨_, rfl, a, _, rfl, .inl (s4.seq (s3.seq hA)), _, rfl, by omega, by rw [List.length_map]; omega, ?_⟩
      rw [List.length_map, Int.toNat_natCast]
      refine for_range (lo := 0) (n := cs.length) (fun n σ H' => Same H H' ∧ ∃ y3 y6 y7, σ = [some (.ref a), some (.int m), some (.ref p2), y3, some (.int (Nat.gcd m t : Nat)), some (.ref bp), y6, y7] ∧ H' bp = some (.lst ((rowL false cs (Nat.gcd m t) cs.length).map V.int)) ∧
        H' p2 = some (.lst ((mix (fun n => SMath.S (t + 1) (tTerm (cF cs) m n)) (fun n => SMath.S t (tTerm (cF cs) m n)) n cs.length).map V.int))) ⟨s3.trans s4, _, _, _, rfl, hb, by rw [mix_0]; exact hp4⟩ ?_ ?_
      · rintro n σ H5 hn ⟨s5, y3, y6, y7, rfl, hb5, hp5⟩
        have e1 : ((0 : Int) + (n : Int)) * ((Nat.gcd m t : Nat) : Int) % (m : Int) = ((n * Nat.gcd m t % m : Nat) : Int) := by rw [Int.zero_add]; rfl
        have e2 : (((0 : Int) + (n : Int)) * ((Nat.gcd m t : Nat) : Int)).fdiv (m : Int) = ((n * Nat.gcd m t / m : Nat) : Int) := by rw [Int.zero_add, Int.fdiv_eq_ediv_of_nonneg _ (by omega)]; rfl
        have e3 : n * Nat.gcd m t / m ≤ n := Nat.div_le_of_le_mul (by rw [Nat.mul_comm m n]; exact Nat.mul_le_mul_left n hg)
        refine ⟨_, rfl, _, rfl, _, _, rfl, rfl, .inl ⟨by omega, by omega⟩, .inl ⟨_, rfl, _, rfl, _, _, rfl, rfl, by omega, rfl, _, rfl, ?_⟩⟩
        refine ite2 (fun c => ?_) (fun c => ?_)
        · have c' : n * Nat.gcd m t % m = 0 := by
            have := V.int.inj (of_decide_eq_true c)
            rw [e1] at this
            omega
          refine ⟨_, rfl, _, rfl, p2, _, _, _, rfl, rfl, sq_of hp5, atI_of (Int.zero_add _) (mix_at hn), _, rfl, _, rfl, _, rfl, _, _, rfl, rfl, .inl ⟨by omega, by omega⟩, _, rfl, _, _, rfl, rfl, ⟨by omega, by omega⟩, bp, _, _, _, rfl, rfl, sq_of hb5, atI_of e2 (rowL_get (by omega)), _, _, rfl, rfl, ?_⟩
          refine ⟨_, rfl, _, rfl, p2, _, _, n, rfl, rfl, hp5, ixN_nat (Int.zero_add _) (by rw [mix_len]; omega), ?_⟩
          have nb2 : bp ≠ p2 := fun e => by rw [e, hp] at nb; cases nb
          refine ⟨same_upd' s5 nf2, _, _, _, rfl, by rw [upd_ne nb2]; exact hb5, ?_⟩
          rw [upd_same, ← mix_set hn]
          congr 4
          unfold tTerm
          rw [if_pos c']
        · have c' : ¬ n * Nat.gcd m t % m = 0 := fun z => c (decide_eq_true (by show V.int (((0 : Int) + (n : Int)) * ((Nat.gcd m t : Nat) : Int) % (m : Int)) = _; rw [e1, z]; rfl))
          refine ⟨s5, _, _, _, rfl, hb5, ?_⟩
          rw [← mix_skip]
          · exact hp5
          · show SMath.S t (tTerm (cF cs) m n) + tTerm (cF cs) m n t = _
            unfold tTerm
            rw [if_neg c', Int.add_zero]
      · rintro σ H5 ⟨s5, y3, y6, y7, rfl, hb5, hp5⟩
        rw [mix_all] at hp5
        exact ⟨s5, _, _, _, _, _, rfl, hp5⟩
    · rintro σ H3 ⟨s3, y3, y4, y5, y6, y7, rfl, hp⟩
      refine ⟨_, rfl, p2, rfl, ⟨_, sq_of hp⟩, fun Dn hD => ?_⟩
      have nDp : p2 ≠ Dn := fun e => by rw [← e, hp] at hD; cases hD
      refine lc_list (K := K) (a := p2) (xs := ((List.range cs.length).map fun n => SMath.S m (tTerm (cF cs) m n)).map V.int) (fun i H' => Same H H' ∧ H' p2 = some (.lst (((List.range cs.length).map fun n => SMath.S m (tTerm (cF cs) m n)).map V.int)) ∧ H' Dn = some (.lst (((List.range i).map fun n => turnS (cF cs) m n / (m : Int)).map V.int)))
        ⟨same_upd' s3 (s3.free hD), by rw [upd_ne nDp]; exact hp, upd_same⟩ (fun i H' _ h => sq_of h.2.1) ?_ ?_
      · rintro i x H' hi ⟨sm, hp', hd⟩
        have hil : i < cs.length := by
          have := (List.getElem?_eq_some_iff.mp hi).1
          rw [List.length_map, List.length_map, List.length_range] at this
          exact this
        rw [fun_get hil] at hi
        obtain rfl := (Option.some.inj hi).symm
        refine ⟨rfl, ?_⟩
        rw [tYes, if_pos rfl]
        refine ⟨_, rfl, _, rfl, _, _, rfl, rfl, ⟨by omega, by omega⟩, _, hd, szl _ (by rw [List.length_map, List.length_map, List.length_range]; omega), same_upd' sm (s3.free hD), by rw [upd_ne nDp]; exact hp', ?_⟩
        rw [upd_same, List.range_succ, List.map_append, List.map_append]
        show some (HO.lst (_ ++ [V.int ((SMath.S m (tTerm (cF cs) m i)).fdiv (m : Int))])) = _
        rw [Int.fdiv_eq_ediv_of_nonneg _ (by omega)]
        rfl
      · rintro H' ⟨sm, hp', hd⟩
        rw [List.length_map, List.length_map, List.length_range] at hd
        exact q Dn H' sm (s3.free hD) hd
end
end SM

namespace SM
open PySem L2
/-! ### lists of new lists -/
structure Rws (H1 H : Hp) (rs : List Addr) (F : Nat → List V) : Prop where
  at_ : ∀ (j : Nat) (r : Addr), rs[j]? = some r → H r = some (.lst (F j))
  fr : ∀ r ∈ rs, H1 r = none
  inj : ∀ (i j : Nat) (r : Addr), rs[i]? = some r → rs[j]? = some r → i = j
theorem Rws.nil {H1 H : Hp} {F : Nat → List V} : Rws H1 H [] F := ⟨fun j r h => by simp at h, fun r h => (by cases h), fun i j r h => by simp at h⟩
theorem Rws.mono {H1 H H' : Hp} {rs : List Addr} {F : Nat → List V} (h : Rws H1 H rs F) (s : Same H H') : Rws H1 H' rs F := ⟨fun j r e => s _ _ (h.at_ j r e), h.fr, h.inj⟩
theorem Rws.base {H0 H1 H : Hp} {rs : List Addr} {F : Nat → List V} (h : Rws H1 H rs F) (s : Same H0 H1) : Rws H0 H rs F := ⟨h.at_, fun r hr => s.free (h.fr r hr), h.inj⟩
theorem Rws.congr {H1 H : Hp} {rs : List Addr} {F F' : Nat → List V} (h : Rws H1 H rs F) (e : ∀ j, j < rs.length → F j = F' j) : Rws H1 H rs F' :=
  ⟨fun j r a => by rw [← e j (List.getElem?_eq_some_iff.mp a).1]; exact h.at_ j r a, h.fr, h.inj⟩
theorem Rws.other {H1 H : Hp} {rs : List Addr} {F : Nat → List V} (h : Rws H1 H rs F) {p : Addr} {o : HO} (hp : ∀ r ∈ rs, r ≠ p) : Rws H1 (upd H p o) rs F :=
  ⟨fun j r a => by rw [upd_ne (hp r (List.mem_of_getElem? a))]; exact h.at_ j r a, h.fr, h.inj⟩
theorem Rws.snoc {H1 H H' : Hp} {rs : List Addr} {F : Nat → List V} (h : Rws H1 H rs F) (s1 : Same H1 H) (s : Same H H') {q : Addr} (nq : H q = none) (hq : H' q = some (.lst (F rs.length))) : Rws H1 H' (rs ++ [q]) F := by
  have ho : ∀ (j : Nat) (r : Addr), rs[j]? = some r → r ≠ q := fun j r a e => by have := h.at_ j r a; rw [e, nq] at this; cases this
  have hc : ∀ (j : Nat) (r : Addr), (rs ++ [q])[j]? = some r → (rs[j]? = some r) ∨ (j = rs.length ∧ r = q) := fun j r a => by
    by_cases hj : j < rs.length
    · rw [List.getElem?_append_left hj] at a
      exact .inl a
    · rw [List.getElem?_append_right (by omega)] at a
      have h2 := (List.getElem?_eq_some_iff.mp a).1
      simp at h2
      have : j = rs.length := by omega
      subst this
      rw [Nat.sub_self] at a
      exact .inr ⟨rfl, (Option.some.inj a).symm⟩
  refine ⟨fun j r a => ?_, fun r hr => ?_, fun i j r a b => ?_⟩
  · rcases hc j r a with a | ⟨rfl, rfl⟩
    · exact s _ _ (h.at_ j r a)
    · exact hq
  · rcases List.mem_append.mp hr with hr | hr
    · exact h.fr r hr
    · simp at hr
      subst hr
      exact s1.free nq
  · rcases hc i r a with a | ⟨rfl, e1⟩ <;> rcases hc j r b with b | ⟨rfl, e2⟩
    · exact h.inj i j r a b
    · exact absurd e2 (ho i r a)
    · exact absurd e1 (ho j r b)
    · rfl
theorem Rws.upd {H1 H : Hp} {rs : List Addr} {F F' : Nat → List V} (h : Rws H1 H rs F) {j : Nat} {r : Addr} (hr : rs[j]? = some r) (e : ∀ k, k ≠ j → F' k = F k) : Rws H1 (L2.upd H r (.lst (F' j))) rs F' := by
  refine ⟨fun k q a => ?_, h.fr, h.inj⟩
  by_cases hk : k = j
  · subst hk
    rw [hr] at a
    obtain rfl := Option.some.inj a
    exact upd_same
  · rw [upd_ne (fun z => hk (h.inj k j r (by rw [a, z]) hr)), e k hk]
    exact h.at_ k q a
theorem Rws.get {H1 H : Hp} {rs : List Addr} {F : Nat → List V} (h : Rws H1 H rs F) {j : Nat} (hj : j < rs.length) : ∃ r, rs[j]? = some r ∧ (rs.map V.ref)[j]? = some (.ref r) ∧ H r = some (.lst (F j)) := by
  refine ⟨rs[j], List.getElem?_eq_getElem hj, ?_, h.at_ j _ (List.getElem?_eq_getElem hj)⟩
  rw [List.getElem?_map, List.getElem?_eq_getElem hj]
  rfl
theorem lc_refs {lo : Int} {n j : Nat} {te : TE} {σ : St} {H1 : Hp} {D : Addr} {Qd : Hp → Prop} (F : Nat → List V) (hn : n ≤ 1000) (hD : H1 D = none)
    (he : ∀ i, i < n → ∀ H, Same H1 H → ∀ R : VK, (∀ q H', Same H H' → H q = none → H' q = some (.lst (F i)) → R (.ref q) H') → te ((wipe σ [j]).set j (some (.int (lo + i)))) H R)
    (hd : ∀ H rs, Same H1 H → H D = some (.lst (rs.map V.ref)) → rs.length = n → Rws H1 H rs F → (∀ r ∈ rs, r ≠ D) → Qd H) :
    ∃ W : Nat → Nat → Hp → Prop, (∃ m, W 0 m (upd H1 D (.lst []))) ∧ ∀ i m H, W i m H →
      ((Itr lo n).stop i H ∧ Qd H) ∨ ((Itr lo n).go i H ∧ ∃ Nx : Hp → Prop, (∀ H', Nx H' → ∃ m', m' < m ∧ W (i + 1) m' H') ∧ ∀ x H', (Itr lo n).yld i H x H' → gName j x (wipe σ [j]) H' fun σ2 H2 => wipe σ2 [j] = wipe σ [j] ∧ tYes σ2 H2 fun b H3 =>
        if b = true then te σ2 H3 fun y H4 => ∃ acc, H4 D = some (.lst acc) ∧ acc.length < sizeLine ∧ Nx (upd H4 D (.lst (acc ++ [y]))) else Nx H3) := by
  refine lc_range (tt := tYes) (fun i H => Same H1 H ∧ ∃ rs : List Addr, H D = some (.lst (rs.map V.ref)) ∧ rs.length = i ∧ Rws H1 H rs F ∧ ∀ r ∈ rs, r ≠ D) ⟨same_upd hD, [], upd_same, rfl, Rws.nil, fun r h => (by cases h)⟩ ?_ (fun H ⟨s, rs, a, b, c, d⟩ => hd H rs s a b c d)
  rintro i H hi ⟨sm, rs, hd', hl, hR, hrD⟩
  refine ⟨wipe1 σ j _, ?_⟩
  rw [tYes, if_pos rfl]
  refine he i hi H sm _ fun q H' s' nq hq => ⟨rs.map V.ref, s' _ _ hd', szl _ (by rw [List.length_map]; omega), same_upd' (sm.trans s') hD, rs ++ [q], ?_, ?_, ?_, ?_⟩
  · rw [upd_same, List.map_append]; rfl
  · rw [List.length_append, hl]; rfl
  · have hqD : q ≠ D := fun e => by rw [e, hd'] at nq; cases nq
    refine (hR.snoc sm s' nq (by rw [hl]; exact hq)).other fun r hr => ?_
    rcases List.mem_append.mp hr with hr | hr
    · exact hrD r hr
    · simp at hr
      subst hr
      exact hqD
  · have hqD : q ≠ D := fun e => by rw [e, hd'] at nq; cases nq
    intro r hr
    rcases List.mem_append.mp hr with hr | hr
    · exact hrD r hr
    · simp at hr
      subst hr
      exact hqD
section
variable {P : Program} {w : World} {K : PySem.W.Frag} {mg : Str → Option Value} {base : Heap} {W : Ad}
def scTable : Scope := { kind := .function, names := [(".0", .local), ("m", .cell), ("range", .globalImplicit), ("len", .globalImplicit), ("counts", .cell)], isGenerator := false, isCoroutine := false }
def cN (cs : List Int) : Nat → Nat := fun i => (cF cs i).toNat
def bagR (cs : List Int) (L j : Nat) : List V := ((List.range cs.length).map (SMath.bag (cN cs) L j)).map V.int
def spBag (K : PySem.W.Frag) : Sp := fun vs H Q _ => ∃ (a : Addr) (cs : List Int) (m : Nat), vs = [.ref a, .int m] ∧ SqL K H a (cs.map V.int) ∧ Sm cs ∧ 1 ≤ cs.length ∧ cs.length ≤ 14 ∧ m ≤ 14 ∧
  ∀ t H' rs, Same H H' → H' t = some (.lst (rs.map V.ref)) → rs.length = m + 1 → Rws H H' rs (bagR cs (cs.length - 1)) → Q (.ref t) H'
theorem ok_bag (T : Tx K mg W) (D : Df K mg "_law_bag" s__law_bag ["counts", "most"]) (C1 : Cal P w K mg base CX0 1 "_law_binomial" ["n", "k"] spBin) :
    Cal P w K mg base CX0 2 "_law_bag" ["counts", "most"] (spBag K) := by
  obtain ⟨f, fd, g, F, b⟩ := D
  obtain ⟨f1, fd1, g__law_binomial, k__law_binomial, b__law_binomial, G__law_binomial⟩ := C1.ex
  refine ⟨f, fd, g, F.kp, b, F.ok sc__law_bag (fun vs H Q E h => ?_) (fun cdv A outer s H vs Q E hr h => ?_)⟩
  · obtain ⟨_, _, _, rfl, _⟩ := h
    rfl
  · obtain ⟨a, cs, m, rfl, hA, hsm, h1, h14, hm, q⟩ := h
    refine ⟨_, (pss_cons (ps_setLc (i := 2) (own := [("m", 5)]) rfl sc__law_bag.nd rfl rfl (sw_true rfl rfl rfl (by decide +kernel)) (pi_range1 (by rfl) T.n_range (pa_cons (pe_op op_add (pv 1) pe_int) pa_nil)) (blkOk_by (own := [("m", 5)]) (N := ["counts", "most", "table", "size", "later", "m", "row", "n", "total", "t"]) (sc := defScope s__law_bag) (by decide +kernel)) (fun _ _ _ _ _ => (pg_name (i := 5) sc__law_bag.nd rfl (.inr rfl))) (fun _ _ _ _ _ => pts_nil) (fun _ _ _ _ _ => (pe_lc (own := [("n", 7)]) rfl sc__law_bag.nd (pi_range1 (by rfl) T.n_range (pa_cons (pe_callB (call_lenB (K := K) rfl) (by rfl) T.n_len (by decide +kernel) (pa_cons (pv 0) pa_nil)) pa_nil)) (blkOk_by (own := [("n", 7)]) (N := ["counts", "most", "table", "size", "later", "m", "row", "n", "total", "t"]) (sc := scTable) (by decide +kernel)) (fun _ _ _ _ _ => (pg_name (i := 7) sc__law_bag.nd rfl (.inl rfl))) (fun _ _ _ _ _ => pts_nil) (fun _ _ _ _ _ => (pe_callTy call_int1 (by rfl) T.n_int (by decide +kernel) (pa_cons (pe_and (pe_cmpR op_eq (pv 5) pe_int (nomark _)) (pe_one (pe_cmpR op_eq (pv 7) pe_int (nomark _)))) pa_nil))))))
  (pss_cons (ps_for PassesOwn.never rfl (pi_range2 (by rfl) T.n_range (pa_cons pe_int (pa_cons (pe_callB call_len_seq (by rfl) T.n_len (by decide +kernel) (pa_cons (pv 0) pa_nil)) pa_nil))) (pg_name (i := 3) sc__law_bag.nd rfl (.inl rfl)) (
    (pss_cons (ps_setLc (i := 4) (own := [("m", 5)]) rfl sc__law_bag.nd rfl rfl (sw_true rfl rfl rfl (by decide +kernel)) (pi_range1 (by rfl) T.n_range (pa_cons (pe_op op_add (pv 1) pe_int) pa_nil)) (blkOk_by (own := [("m", 5)]) (N := ["counts", "most", "table", "size", "later", "m", "row", "n", "total", "t"]) (sc := defScope s__law_bag) (by decide +kernel)) (fun _ _ _ _ _ => (pg_name (i := 5) sc__law_bag.nd rfl (.inl rfl))) (fun _ _ _ _ _ => pts_nil) (fun _ _ _ _ _ => (pe_op op_rep (pe_lst (pa_cons pe_int pa_nil)) (pe_callB (call_lenB (K := K) rfl) (by rfl) T.n_len (by decide +kernel) (pa_cons (pv 0) pa_nil)))))
    (pss_cons (ps_for PassesOwn.never rfl (pi_range1 (by rfl) T.n_range (pa_cons (pe_op op_add (pv 1) pe_int) pa_nil)) (pg_name (i := 5) sc__law_bag.nd rfl (.inl rfl)) (
      (pss_cons (ps_set (i := 6) sc__law_bag.nd rfl (.inl rfl) (pe_ix ix_list (pv 4) (pv 5) (fun _ _ => rfl)))
      (pss_one (ps_for PassesOwn.never rfl (pi_range1 (by rfl) T.n_range (pa_cons (pe_callB call_len_seq (by rfl) T.n_len (by decide +kernel) (pa_cons (pv 0) pa_nil)) pa_nil)) (pg_name (i := 7) sc__law_bag.nd rfl (.inl rfl)) (
        (pss_cons (ps_set (i := 8) sc__law_bag.nd rfl (.inl rfl) pe_int)
        (pss_cons (ps_for PassesOwn.never rfl (pi_range1 (by rfl) T.n_range (pa_cons (pe_op op_add (pe_callB (call_min2 rfl) (by rfl) T.n_min (by decide +kernel) (pa_cons (pv 5) (pa_cons (pe_op op_fdivN (pv 7) (pv 3)) pa_nil))) pe_int) pa_nil)) (pg_name (i := 9) sc__law_bag.nd rfl (.inl rfl)) (
          (pss_one (ps_set (i := 8) sc__law_bag.nd rfl (.inl rfl) (pe_op op_add (pv 8) (pe_op op_mul (pe_ix ix_list (pe_ix ix_list (pv 2) (pe_op op_sub (pv 5) (pv 9)) (fun _ _ => rfl)) (pe_op op_sub (pv 7) (pe_op op_mul (pv 9) (pv 3))) (fun _ _ => rfl)) (pe_call G__law_binomial (hr.mono (by decide)) (by rfl) g__law_binomial k__law_binomial b__law_binomial .nil pass0 (pa_cons (pe_op op_sub (pe_op op_add (pe_ix ix_list (pv 0) (pv 3) (fun _ _ => rfl)) (pv 9)) pe_int) (pa_cons (pv 9) pa_nil)))))))))
        (pss_one (ps_asg (pv 8) (pg_sub (pv 6) (pv 7) set_list)))))))))))
    (pss_one (ps_set (i := 2) sc__law_bag.nd rfl (.inl rfl) (pv 4)))))))
  (pss_one (ps_ret (pv 2))))), ?_⟩
    refine ⟨_, rfl, _, _, rfl, rfl, _, rfl, by omega, by omega, fun D1 hD1 => ?_⟩
    rw [show ((m : Int) + 1).toNat = m + 1 by omega]
    refine lc_refs (lo := 0) (j := 5) (bagR cs 0) (by omega) hD1 (fun i hi H1 s1 R k => ?_) (fun H1 rs s1 hd1 hl hR hrD => ?_)
    · refine ⟨_, rfl, a, _, rfl, .inl (s1.seq hA), _, rfl, by omega, by rw [List.length_map]; omega, fun D2 hD2 => ?_⟩
      rw [List.length_map, Int.toNat_natCast]
      refine lc_rangeM (lo := 0) (j := 7) (fun n => V.int (SMath.bag (cN cs) 0 i n)) (by omega) hD2 (fun n hn H2 s2 R2 k2 => ?_) (fun H2 s2 h2 => ?_)
      · refine ⟨_, rfl, rfl, _, rfl, ite2 (fun c => ?_) (fun c => ?_)⟩
        · refine ⟨_, rfl, rfl, .inr ⟨_, rfl, ?_⟩⟩
          have c' : i = 0 := by have := V.int.inj (of_decide_eq_true c); omega
          have e : (if decide (V.int ((0 : Int) + (n : Int)) = V.int 0) = true then (1 : Int) else 0) = SMath.bag (cN cs) 0 i n := by
            have hb : SMath.bag (cN cs) 0 i n = if i = 0 ∧ n = 0 then (1 : Int) else 0 := rfl
            rw [hb]
            by_cases hn0 : n = 0
            · subst hn0
              subst c'
              rfl
            · rw [if_neg (fun z : i = 0 ∧ n = 0 => hn0 z.2)]
              exact if_neg (fun z => hn0 (by have := V.int.inj (of_decide_eq_true z); omega))
          rw [e]
          exact k2 H2 (.refl H2)
        · refine .inr ⟨false, rfl, ?_⟩
          have c' : ¬ i = 0 := fun z => c (decide_eq_true (by rw [z]; rfl))
          have e : (0 : Int) = SMath.bag (cN cs) 0 i n := by
            show _ = if i = 0 ∧ n = 0 then (1 : Int) else 0
            rw [if_neg (fun z => c' z.1)]
          have := k2 H2 (.refl H2)
          rw [← e] at this
          exact this
      · refine k D2 H2 s2 hD2 ?_
        rw [h2]
        unfold bagR
        rw [List.map_map]
        rfl
    refine ⟨_, rfl, a, _, rfl, .inl (s1.seq hA), _, _, rfl, ⟨by omega, by omega, by rw [List.length_map]; omega, by rw [List.length_map]; omega⟩, ?_⟩
    rw [List.length_map, show ((cs.length : Int) - 1).toNat = cs.length - 1 by omega]
    refine for_range (lo := 1) (n := cs.length - 1) (fun u σ H' => Same H H' ∧ ∃ (t : Addr) (rs : List Addr) (y3 y4 y5 y6 y7 y8 y9 : Option V), σ = [some (.ref a), some (.int m), some (.ref t), y3, y4, y5, y6, y7, y8, y9] ∧ H' t = some (.lst (rs.map V.ref)) ∧ rs.length = m + 1 ∧ Rws H H' rs (bagR cs u))
      ⟨s1, D1, rs, none, none, none, none, none, none, none, rfl, hd1, hl, hR⟩ ?_ ?_
    · rintro u σ H3 hu ⟨s3, t, rs, y3, y4, y5, y6, y7, y8, y9, rfl, ht, hl, hR⟩
      -- later
      refine ⟨_, rfl, _, _, rfl, rfl, _, rfl, by omega, by omega, fun L hL => ?_⟩
      rw [show ((m : Int) + 1).toNat = m + 1 by omega]
      refine lc_refs (lo := 0) (j := 5) (fun _ => ((List.range cs.length).map fun _ => (0 : Int)).map V.int) (by omega) hL (fun i hi H4 s4 R k => ?_) (fun H4 ls s4 hL4 hll hRl hlL => ?_)
      · refine ⟨sz _ (by show 1 ≤ 100000; decide), fun q1 n1 => ?_⟩
        have s5 : Same H4 (upd H4 q1 (.lst [.int 0])) := same_upd n1
        refine ⟨_, rfl, a, _, rfl, .inl (s5.seq (s4.seq (s3.seq hA))), q1, _, _, rfl, rfl, upd_same, by omega, by rw [List.length_map]; omega, ?_, fun q2 n2 => ?_⟩
        · refine sz _ ?_
          rw [List.length_map]
          simp
          omega
        · refine k q2 _ (s5.trans (same_upd n2)) (s5.free n2) ?_
          rw [upd_same, List.length_map, Int.toNat_natCast, zeros_fun]
      have hLf : H3 L = none := hL
      refine ⟨_, rfl, _, _, rfl, rfl, _, rfl, by omega, by omega, ?_⟩
      rw [show ((m : Int) + 1).toNat = m + 1 by omega]
      refine for_range (lo := 0) (n := m + 1) (fun j σ H' => Same H3 H' ∧ ∃ (y5 y6 y7 y8 y9 : Option V), σ = [some (.ref a), some (.int m), some (.ref t), some (.int (1 + (u : Int))), some (.ref L), y5, y6, y7, y8, y9] ∧ H' L = some (.lst (ls.map V.ref)) ∧
        Rws H3 H' ls (fun k => if k < j then bagR cs (u + 1) k else ((List.range cs.length).map fun _ => (0 : Int)).map V.int)) ⟨s4, _, _, _, _, _, rfl, hL4, hRl.congr fun j _ => (if_neg (Nat.not_lt_zero j)).symm⟩ ?_ ?_
      · rintro j σ H5 hj ⟨s5, y5, y6, y7, y8, y9, rfl, hL5, hR5⟩
        obtain ⟨r, hr1, hr2, hr3⟩ := hR5.get (j := j) (by omega)
        refine ⟨_, rfl, _, rfl, L, _, _, _, rfl, rfl, sq_of hL5, atI_of (Int.zero_add _) hr2, ?_⟩
        refine ⟨_, rfl, a, _, rfl, .inl (s5.seq (s3.seq hA)), _, rfl, by omega, by rw [List.length_map]; omega, ?_⟩
        rw [List.length_map, Int.toNat_natCast]
        refine for_range (lo := 0) (n := cs.length) (fun n σ H' => Same H3 H' ∧ ∃ (y7 y8 y9 : Option V), σ = [some (.ref a), some (.int m), some (.ref t), some (.int (1 + (u : Int))), some (.ref L), some (.int (0 + (j : Int))), some (.ref r), y7, y8, y9] ∧ H' L = some (.lst (ls.map V.ref)) ∧
          Rws H3 H' ls (fun k => if k = j then (mix (SMath.bag (cN cs) (u + 1) j) (fun _ => 0) n cs.length).map V.int else if k < j then bagR cs (u + 1) k else ((List.range cs.length).map fun _ => (0 : Int)).map V.int)) ⟨s5, _, _, _, rfl, hL5, hR5.congr fun k hk => ?_⟩ ?_ ?_
        · show (if k < j then _ else _) = if k = j then _ else _
          by_cases e : k = j
          · subst e
            rw [if_neg (Nat.lt_irrefl _), if_pos rfl, mix_0]
          · rw [if_neg e]
        · rintro n σ H6 hn ⟨s6, y7, y8, y9, rfl, hL6, hR6⟩
          obtain ⟨M, hM, hM1, hM2⟩ : ∃ M : Nat, M = min j (n / (u + 1)) ∧ M ≤ j ∧ M ≤ n / (u + 1) := ⟨_, rfl, Nat.min_le_left _ _, Nat.min_le_right _ _⟩
          have ef : ((0 : Int) + (n : Int)).fdiv (1 + (u : Int)) = ((n / (u + 1) : Nat) : Int) := by
            rw [Int.zero_add, show (1 : Int) + (u : Int) = ((u + 1 : Nat) : Int) by omega, Int.fdiv_eq_ediv_of_nonneg _ (by omega)]; rfl
          have em : (if ((0 : Int) + (n : Int)).fdiv (1 + (u : Int)) < 0 + (j : Int) then ((0 : Int) + (n : Int)).fdiv (1 + (u : Int)) else 0 + (j : Int)) = (M : Int) := by
            rw [ef]
            split
            · rw [hM, Nat.min_eq_right (by omega)]
            · rw [hM, Nat.min_eq_left (by omega), Int.zero_add]
          refine ⟨_, rfl, _, rfl, _, rfl, _, _, rfl, rfl, ⟨by omega, by omega⟩, _, _, rfl, _, _, rfl, rfl, _, rfl, by rw [em]; omega, by rw [em]; omega, ?_⟩
          rw [em, show ((M : Int) + 1).toNat = M + 1 by omega]
          refine for_range (lo := 0) (n := M + 1) (fun x σ H' => H' = H6 ∧ ∃ (y9 : Option V), σ = [some (.ref a), some (.int m), some (.ref t), some (.int (1 + (u : Int))), some (.ref L), some (.int (0 + (j : Int))), some (.ref r), some (.int (0 + (n : Int))),
            some (.int (SMath.S x fun x => SMath.bag (cN cs) u (j - x) (n - x * (u + 1)) * SMath.G (cN cs (u + 1)) x)), y9]) ⟨rfl, _, rfl⟩ ?_ ?_
          · rintro x σ H7 hx ⟨rfl, y9, rfl⟩
            have hx2 : x ≤ n / (u + 1) := by omega
            have hx3 : x * (u + 1) ≤ n := (Nat.le_div_iff_mul_le (by omega)).mp hx2
            obtain ⟨tr, tr1, tr2, tr3⟩ := hR.get (j := j - x) (by omega)
            have tr4 := s6 _ _ tr3
            have e2 : ((0 : Int) + (n : Int)) - (0 + (x : Int)) * (1 + (u : Int)) = ((n - x * (u + 1) : Nat) : Int) := by
              rw [Int.zero_add, Int.zero_add, show (1 : Int) + (u : Int) = ((u + 1 : Nat) : Int) by omega, ← Int.natCast_mul]
              omega
            have hc := hsm (u + 1)
            have hcn : ((cN cs (u + 1) : Nat) : Int) = cs.getD (u + 1) 0 := Int.toNat_of_nonneg hc.1
            refine ⟨_, rfl, _, rfl, _, rfl, _, rfl, _, _, rfl, rfl, t, _, _, _, rfl, rfl, sq_of (s6 _ _ ht), atI_of (j := j - x) (by omega) tr2, _, rfl, _, rfl, _, rfl, _, _, rfl, rfl, .inl ⟨by omega, by omega⟩, _, _, rfl, rfl, tr, _, _, _, rfl, rfl, sq_of tr4, atI_of (j := n - x * (u + 1)) e2 (fun_get (by omega)), ?_⟩
            refine ⟨_, rfl, _, rfl, a, _, _, _, rfl, rfl, s6.seq (s3.seq hA), atI_of (j := u + 1) (by omega) (getD_at (by omega)), _, rfl, _, _, rfl, rfl, _, _, rfl, rfl, _, rfl, (cs.getD (u + 1) 0 + (0 + (x : Int)) - 1), cN cs (u + 1) + x - 1, x, ?_, ?_, by omega, by omega, ?_⟩
            · show [V.int _, V.int ((0 : Int) + (x : Int))] = _
              rw [Int.zero_add]
            · omega
            · rw [← SMath.G_bin]
              have hg := SMath.G_le (cN cs (u + 1)) x
              have hg2 : (2 : Int) ^ (cN cs (u + 1) + x) ≤ 2 ^ 54 := pow_le (by omega)
              refine ⟨_, _, rfl, rfl, .inr ⟨by omega, by omega⟩, _, _, rfl, rfl, rfl, some (.int (0 + (x : Int))), rfl⟩
          · rintro σ H7 ⟨rfl, y9, rfl⟩
            refine ⟨_, rfl, _, rfl, _, rfl, r, _, _, n, rfl, rfl, hR6.at_ j r hr1, ixN_nat (Int.zero_add _) (by rw [if_pos rfl, mix_len]; omega), ?_⟩
            refine ⟨same_upd' s6 (hRl.fr r (List.mem_of_getElem? hr1)), _, _, _, rfl, by rw [upd_ne (hlL r (List.mem_of_getElem? hr1)).symm]; exact hL6, ?_⟩
            have hup := hR6.upd (F' := fun k => if k = j then (mix (SMath.bag (cN cs) (u + 1) j) (fun _ => 0) (n + 1) cs.length).map V.int else if k < j then bagR cs (u + 1) k else ((List.range cs.length).map fun _ => (0 : Int)).map V.int) hr1 (fun k hk => by show (if k = j then _ else _) = if k = j then _ else _; rw [if_neg hk, if_neg hk])
            have ev : ((mix (SMath.bag (cN cs) (u + 1) j) (fun _ => 0) n cs.length).map V.int).set n (.int (SMath.S (M + 1) fun x => SMath.bag (cN cs) u (j - x) (n - x * (u + 1)) * SMath.G (cN cs (u + 1)) x)) = (mix (SMath.bag (cN cs) (u + 1) j) (fun _ => 0) (n + 1) cs.length).map V.int := by
              rw [hM, ← SMath.bag_step, mix_set hn]
            rw [if_pos rfl] at hup ⊢
            rw [ev]
            exact hup
        · rintro σ H6 ⟨s6, y7, y8, y9, rfl, hL6, hR6⟩
          refine ⟨s6, _, _, _, _, _, rfl, hL6, hR6.congr fun k hk => ?_⟩
          show (if k = j then _ else _) = if k < j + 1 then _ else _
          by_cases e : k = j
          · subst e
            rw [if_pos rfl, if_pos (Nat.lt_succ_self _), mix_all]
            rfl
          · rw [if_neg e]
            by_cases h2 : k < j
            · rw [if_pos h2, if_pos (by omega)]
            · rw [if_neg h2, if_neg (by omega)]
      · rintro σ H5 ⟨s5, y5, y6, y7, y8, y9, rfl, hL5, hR5⟩
        refine ⟨_, rfl, s3.trans s5, L, ls, _, _, _, _, _, _, _, rfl, hL5, hll, (hR5.base s3).congr fun k hk => ?_⟩
        show (if k < m + 1 then _ else _) = _
        rw [if_pos (by omega)]
    · rintro σ H3 ⟨s3, t, rs, y3, y4, y5, y6, y7, y8, y9, rfl, ht, hl, hR⟩
      exact ⟨_, rfl, q t H3 rs s3 ht hl hR⟩
end
end SM

namespace SM
open PySem L2
section
variable {P : Program} {w : World} {K : PySem.W.Frag} {mg : Str → Option Value} {base : Heap} {W : Ad}
def spMem (K : PySem.W.Frag) (d : Nat) : Sp := fun vs H Q _ => ∃ (a : Addr) (cs : List Int) (wd : Str) (m : Nat) (lb : Bool), vs = [.ref a, .str wd, .int m, .bl lb] ∧ m < d ∧ SqL K H a (cs.map V.int) ∧ Sm cs ∧ 1 ≤ cs.length ∧ cs.length ≤ 14 ∧ m ≤ 14 ∧ (wd = "row" ∨ wd = "set" ∨ wd = "ring") ∧
  ∀ p H', Same H H' → H p = none → H' p = some (.lst (((List.range cs.length).map (LM wd lb cs m)).map V.int)) → Q (.ref p) H'
theorem ok_members (T : Tx K mg W) (D : Df K mg "_law_members" s__law_members ["counts", "word", "m", "labelled"]) (C1 : Cal P w K mg base CX0 2 "_law_rows" ["counts", "members", "labelled"] (spLRows K))
    (C2 : Cal P w K mg base CX0 2 "_law_begun" ["counts", "rest"] (spBegun K)) (C3 : Cal P w K mg base CX0 3 "_law_turned" ["counts", "members"] (spTurned K)) (C4 : Cal P w K mg base CX0 2 "_law_bag" ["counts", "most"] (spBag K)) :
    ∀ d : Nat, Cal P w K mg base CX0 (4 + d) "_law_members" ["counts", "word", "m", "labelled"] (spMem K d)
  | 0 => by
    obtain ⟨f, fd, g, F, b⟩ := D
    refine ⟨f, fd, g, F.kp, b, F.ok sc__law_members (fun vs H Q E h => ?_) (fun cdv A outer s H vs Q E hr h => ?_)⟩
    · obtain ⟨_, _, _, _, _, _, h, _⟩ := h
      exact absurd h (Nat.not_lt_zero _)
    · obtain ⟨_, _, _, _, _, _, h, _⟩ := h
      exact absurd h (Nat.not_lt_zero _)
  | d + 1 => by
    have C5 := ok_members T D C1 C2 C3 C4 d
    obtain ⟨f, fd, g, F, b⟩ := D
    obtain ⟨f1, fd1, g__law_rows, k__law_rows, b__law_rows, G__law_rows⟩ := C1.ex
    obtain ⟨f2, fd2, g__law_begun, k__law_begun, b__law_begun, G__law_begun⟩ := C2.ex
    obtain ⟨f3, fd3, g__law_turned, k__law_turned, b__law_turned, G__law_turned⟩ := C3.ex
    obtain ⟨f4, fd4, g__law_bag, k__law_bag, b__law_bag, G__law_bag⟩ := C4.ex
    obtain ⟨f5, fd5, g__law_members, k__law_members, b__law_members, G__law_members⟩ := C5.ex
    refine ⟨f, fd, g, F.kp, b, F.ok sc__law_members (fun vs H Q E h => ?_) (fun cdv A outer s H vs Q E hr h => ?_)⟩
    · obtain ⟨_, _, _, _, _, rfl, _⟩ := h
      rfl
    · obtain ⟨a, cs, wd, m, lb, rfl, hmd, hA, hsm, h1, h14, hm, hw, q⟩ := h
      refine ⟨_, (pss_cons (ps_if (pt_cmpR op_eq (pv 2) pe_int (nomark _)) (
    (pss_one (ps_ret (pe_op op_cat (pe_lst (pa_cons pe_int pa_nil)) (pe_op op_rep (pe_lst (pa_cons pe_int pa_nil)) (pe_op op_sub (pe_callB call_len_seq (by rfl) T.n_len (by decide +kernel) (pa_cons (pv 0) pa_nil)) pe_int)))))) (pss_nil))
  (pss_cons (ps_if (PW.pt (pw_or (pt_cmpR op_eq (pv 1) pe_str (nomark _)) (pw_or1 (pt_cmpR op_eq (pv 2) pe_int (nomark _))))) (
    (pss_one (ps_ret (pe_call G__law_rows (hr.mono (show _ ≤ 4 + d by omega)) (by rfl) g__law_rows k__law_rows b__law_rows .nil pass0 (pa_cons (pv 0) (pa_cons (pv 2) (pa_cons (pv 3) pa_nil))))))) (pss_nil))
  (pss_cons (ps_if (pt_val (pv 3)) (
    (pss_cons (ps_if (pt_cmpR op_eq (pv 1) pe_str (nomark _)) (
      (pss_one (ps_ret (pe_call G__law_begun (hr.mono (show _ ≤ 4 + d by omega)) (by rfl) g__law_begun k__law_begun b__law_begun .nil pass0 (pa_cons (pv 0) (pa_cons (pe_call G__law_rows (hr.mono (show _ ≤ 4 + d by omega)) (by rfl) g__law_rows k__law_rows b__law_rows .nil pass0 (pa_cons (pv 0) (pa_cons (pe_op op_sub (pv 2) pe_int) (pa_cons pe_bl pa_nil)))) pa_nil)))))) (pss_nil))
    (pss_one (ps_ret (pe_call G__law_begun (hr.mono (show _ ≤ 4 + d by omega)) (by rfl) g__law_begun k__law_begun b__law_begun .nil pass0 (pa_cons (pv 0) (pa_cons (pe_call G__law_members (hr.mono (show _ ≤ 4 + d by omega)) (by rfl) g__law_members k__law_members b__law_members .nil pass0 (pa_cons (pv 0) (pa_cons pe_str (pa_cons (pe_op op_sub (pv 2) pe_int) (pa_cons pe_bl pa_nil))))) pa_nil))))))) (pss_nil))
  (pss_cons (ps_if (pt_cmpR op_eq (pv 1) pe_str (nomark _)) (
    (pss_one (ps_ret (pe_call G__law_turned (hr.mono (show _ ≤ 4 + d by omega)) (by rfl) g__law_turned k__law_turned b__law_turned .nil pass0 (pa_cons (pv 0) (pa_cons (pv 2) pa_nil)))))) (pss_nil))
  (pss_one (ps_ret (pe_ix ix_list (pe_call G__law_bag (hr.mono (show _ ≤ 4 + d by omega)) (by rfl) g__law_bag k__law_bag b__law_bag .nil pass0 (pa_cons (pv 0) (pa_cons (pv 2) pa_nil))) (pv 2) (fun _ _ => rfl)))))))), ?_⟩
      refine ⟨_, rfl, rfl, _, rfl, ite2 (fun c0 => ?_) (fun c0 => ?_)⟩
      · have hm0 : m = 0 := by have := V.int.inj (of_decide_eq_true c0); omega
        subst hm0
        refine ⟨sz _ (by show 1 ≤ 100000; decide), fun p1 n1 => ⟨sz _ (by show 1 ≤ 100000; decide), fun p2 n2 => ?_⟩⟩
        have s1 : Same H (upd H p1 (.lst [.int 1])) := same_upd n1
        have s2 : Same H (upd (upd H p1 (.lst [.int 1])) p2 (.lst [.int 0])) := s1.trans (same_upd n2)
        have n21 : p1 ≠ p2 := fun e => by rw [← e, upd_same] at n2; cases n2
        refine ⟨_, rfl, a, _, rfl, .inl (s2.seq hA), _, _, rfl, rfl, p2, _, _, rfl, rfl, upd_same, by omega, by rw [List.length_map]; omega, ?_, fun p3 n3 => ?_⟩
        · refine sz _ ?_
          rw [List.length_map]
          simp
          omega
        have n31 : p1 ≠ p3 := fun e => by rw [← e, upd_ne n21, upd_same] at n3; cases n3
        have s3 := s2.trans (same_upd (o := HO.lst (List.replicate ((cs.map V.int).length - (1 : Int)).toNat [V.int 0]).flatten) n3)
        refine ⟨p1, p3, _, _, rfl, rfl, by rw [upd_ne n31, upd_ne n21]; exact upd_same, upd_same, ?_, fun p4 n4 => ?_⟩
        · refine sz _ ?_
          rw [List.length_map]
          simp
          omega
        have eN : ((cs.map V.int).length - (1 : Int)).toNat = cs.length - 1 := by rw [List.length_map]; omega
        refine q p4 _ (s3.trans (same_upd n4)) (s3.free n4) ?_
        rw [upd_same, eN, rowL_0 (lb := lb) (cs := cs) h1]
        rfl
      have hm0 : ¬ m = 0 := fun z => c0 (decide_eq_true (by rw [z]; rfl))
      refine ⟨_, rfl, rfl, _, rfl, ?_⟩
      have rows : (wd = "row" ∨ m = 1) → ∀ p H', Same H H' → H p = none → H' p = some (.lst ((rowL lb cs m cs.length).map V.int)) → Q (.ref p) H' := fun hc p H' s' np hp => by
        refine q p H' s' np ?_
        rw [hp]
        congr 3
        refine List.map_congr_left fun n _ => ?_
        unfold LM
        rw [if_neg hm0, if_pos hc]
      have callRows : (wd = "row" ∨ m = 1) → spLRows K [.ref a, .int m, .bl lb] H Q E := fun hc => ⟨a, cs, m, lb, rfl, hA, hsm, h1, h14, by omega, fun p H' s' np hp => rows hc p H' s' np hp⟩
      refine ite2 (fun c1 => ?_) (fun c1 => ?_)
      · have hw1 : wd = "row" := V.str.inj (of_decide_eq_true c1)
        exact iteT ⟨_, rfl, _, rfl, _, rfl, callRows (.inl hw1)⟩
      have hw1 : ¬ wd = "row" := fun z => c1 (decide_eq_true (by rw [z]))
      refine ⟨_, rfl, rfl, _, rfl, ite2 (fun c2 => ?_) (fun c2 => ?_)⟩
      · have hm1 : m = 1 := by have := V.int.inj (of_decide_eq_true c2); omega
        exact ⟨_, rfl, _, rfl, _, rfl, callRows (.inr hm1)⟩
      have hm1 : ¬ m = 1 := fun z => c2 (decide_eq_true (by rw [z]; rfl))
      have hLM : ∀ n, LM wd lb cs m n = if lb = true then (if wd = "ring" then begun (cF cs) (LR true (cF cs) (m - 1)) n else LS (cF cs) m n) else if wd = "ring" then turnS (cF cs) m n / (m : Int) else SMath.bag (fun i => (cF cs i).toNat) (cs.length - 1) m n := fun n => by
        unfold LM
        rw [if_neg hm0, if_neg (fun z => z.elim hw1 hm1)]
      have em : (m : Int) - 1 = ((m - 1 : Nat) : Int) := by omega
      refine ⟨_, rfl, lb, rfl, ?_⟩
      cases lb with
      | true =>
        refine iteT ⟨_, rfl, rfl, _, rfl, ite2 (fun c3 => ?_) (fun c3 => ?_)⟩
        · have hw3 : wd = "ring" := V.str.inj (of_decide_eq_true c3)
          refine ⟨_, rfl, _, rfl, _, rfl, _, _, rfl, rfl, a, cs, m - 1, true, by rw [← em]; rfl, hA, hsm, h1, h14, by omega, fun p H1 s1 np hp => ?_⟩
          refine ⟨a, p, cs, LR true (cF cs) (m - 1), rfl, s1.seq hA, hp, hsm, h1, h14, fun p2 H2 s2 np2 hp2 => q p2 H2 (s1.trans s2) (s1.free np2) ?_⟩
          rw [hp2]
          congr 3
          refine List.map_congr_left fun n _ => ?_
          rw [hLM, if_pos rfl, if_pos hw3]
        · have hw3 : ¬ wd = "ring" := fun z => c3 (decide_eq_true (by rw [z]))
          refine ⟨_, rfl, _, rfl, _, rfl, _, _, rfl, rfl, a, cs, "set", m - 1, true, by rw [← em]; rfl, by omega, hA, hsm, h1, h14, by omega, .inr (.inl rfl), fun p H1 s1 np hp => ?_⟩
          have hLS : (List.range cs.length).map (LM "set" true cs (m - 1)) = (List.range cs.length).map (LS (cF cs) (m - 1)) := by
            refine List.map_congr_left fun n _ => ?_
            unfold LM
            rw [if_neg (by omega)]
            by_cases h1 : m - 1 = 1
            · rw [if_pos (.inr h1), h1]; rfl
            · rw [if_neg (fun z => z.elim nsr h1), if_pos rfl, if_neg nsg]
          rw [hLS] at hp
          refine ⟨a, p, cs, LS (cF cs) (m - 1), rfl, s1.seq hA, hp, hsm, h1, h14, fun p2 H2 s2 np2 hp2 => q p2 H2 (s1.trans s2) (s1.free np2) ?_⟩
          rw [hp2]
          congr 3
          refine List.map_congr_left fun n _ => ?_
          rw [hLM, if_pos rfl, if_neg hw3]
          obtain ⟨k, rfl⟩ : ∃ k, m = k + 2 := ⟨m - 2, by omega⟩
          rfl
      | false =>
        refine iteF ⟨_, rfl, rfl, _, rfl, ite2 (fun c3 => ?_) (fun c3 => ?_)⟩
        · have hw3 : wd = "ring" := V.str.inj (of_decide_eq_true c3)
          refine ⟨_, rfl, _, rfl, a, cs, m, rfl, hA, hsm, h1, h14, by omega, by omega, fun p H1 s1 np hp => q p H1 s1 np ?_⟩
          rw [hp]
          congr 3
          refine List.map_congr_left fun n _ => ?_
          rw [hLM, if_neg Bool.false_ne_true, if_pos hw3]
        · have hw3 : ¬ wd = "ring" := fun z => c3 (decide_eq_true (by rw [z]))
          refine ⟨_, rfl, _, rfl, a, cs, m, rfl, hA, hsm, h1, h14, hm, fun t H1 rs s1 ht hl hR => ?_⟩
          obtain ⟨r, r1, r2, r3⟩ := hR.get (j := m) (by omega)
          refine ⟨_, rfl, t, _, _, _, rfl, rfl, sq_of ht, atI_of rfl r2, q r H1 s1 (hR.fr r (List.mem_of_getElem? r1)) ?_⟩
          rw [r3]
          unfold bagR
          congr 3
          refine List.map_congr_left fun n _ => ?_
          rw [hLM, if_neg Bool.false_ne_true, if_neg hw3]
          rfl
end
end SM

namespace SM
open PySem L2
def okA (m : Option Int) (k : Nat) : Bool := match m with
  | none => true
  | some i => decide ((k : Int) ≤ i)
def okM (m : Option Int) (c0 : Int) (k : Nat) : Bool := okA m k && (decide (c0 = 0) || decide (k < 2))
theorem okM_A {m : Option Int} {c0 : Int} {k : Nat} {Q : Bool → Prop} (h : Q (okM m c0 k)) (hA : okA m k = true) : (c0 = 0 → Q true) ∧ (¬ c0 = 0 → Q (decide ((k : Int) < 2))) := by
  unfold okM at h
  rw [hA, Bool.true_and] at h
  refine ⟨fun e => ?_, fun e => ?_⟩
  · rw [decide_eq_true e, Bool.true_or] at h
    exact h
  · rw [decide_eq_false e, Bool.false_or] at h
    have : decide ((k : Int) < 2) = decide (k < 2) := by
      by_cases h : k < 2
      · rw [decide_eq_true h, decide_eq_true (by omega)]
      · rw [decide_eq_false h, decide_eq_false (by omega)]
    rw [this]
    exact h
theorem okM_B {m : Option Int} {c0 : Int} {k : Nat} {Q : Bool → Prop} (h : Q (okM m c0 k)) (hA : okA m k = false) : Q false := by
  unfold okM at h
  rw [hA, Bool.false_and] at h
  exact h
def dueF (wd : Str) (lb : Bool) (cs : List Int) (m : Option Int) (l i n : Nat) : Int := SMath.S i fun k => if okM m (cs.getD 0 0) (l + k) = true then LM wd lb cs (l + k) n else 0
theorem lim_cases (m : Option Int) (X : Nat) : lim m X ≤ X ∧ (lim m X = X ∨ ∃ j, m = some j ∧ lim m X = j.toNat) ∧ ∀ j, m = some j → lim m X ≤ j.toNat := by
  cases m with
  | none => exact ⟨Nat.le_refl _, .inl rfl, fun j z => by cases z⟩
  | some i =>
    refine ⟨Nat.min_le_left _ _, ?_, fun j z => by cases z; exact Nat.min_le_right _ _⟩
    rcases Nat.le_total X i.toNat with h | h
    · exact .inl (Nat.min_eq_left h)
    · exact .inr ⟨i, rfl, Nat.min_eq_right h⟩
theorem max_cases (a b : Nat) : a ≤ max a b ∧ b ≤ max a b ∧ (max a b = a ∨ max a b = b) :=
  ⟨Nat.le_max_left a b, Nat.le_max_right a b, (Nat.le_total a b).elim (fun h => .inr (Nat.max_eq_right h)) (fun h => .inl (Nat.max_eq_left h))⟩
theorem due_out {wd : Str} {lb : Bool} {cs : List Int} {m : Option Int} {l n M : Nat} (hw : wd = "row" ∨ wd = "set" ∨ wd = "ring") (hp : ∀ i, 0 ≤ cs.getD i 0) (hn : n < cs.length) (hc : cs.length ≤ 12) (hr : wd = "ring" → 1 ≤ l) (hl : l ≤ 3)
    (hM1 : cs.length ≤ M) (hM2 : 2 ≤ M) (hM3 : M = cs.length ∨ M = 2)
    (hm0 : ∀ i, m = some i → 0 ≤ i) (h0 : cs.getD 0 0 = 0 ∨ ∃ i, m = some i ∧ i ≤ 1) : dueF wd lb cs m l (M - l) n = outG wd (modeS lb) cs m l n := by
  unfold outG dueF
  rw [SMath.S_list]
  obtain ⟨x1, x2, x3⟩ := max_cases n 1
  generalize max n 1 = X at x1 x2 x3
  obtain ⟨y1, y2, y3⟩ := lim_cases m X
  generalize lim m X = Y at y1 y2 y3
  rw [SMath.S_ext' (n := Y + 1 - l) (m := M - l) (by clear h0 y2; omega)]
  · refine SMath.S_congr fun i hi => ?_
    have hle : l + i ≤ Y := by clear h0 y2; omega
    have hle2 : l + i ≤ 13 := by clear h0 y2; omega
    have hok : okM m (cs.getD 0 0) (l + i) = true := by
      unfold okM
      rw [Bool.and_eq_true, Bool.or_eq_true, decide_eq_true_eq, decide_eq_true_eq]
      refine ⟨?_, ?_⟩
      · cases m with
        | none => rfl
        | some j =>
          have h1 := y3 j rfl
          have := hm0 j rfl
          exact decide_eq_true (by clear h0 y2; omega)
      · rcases h0 with h0 | ⟨j, e, hj⟩
        · exact .inl h0
        · have h1 := y3 j e
          exact .inr (by omega)
    rw [if_pos hok]
    refine (exG_LM hw hp ?_ hle2 hn (Nat.le_succ_of_le hc) fun z => Nat.le_trans (hr z) (Nat.le_add_right l i)).symm
    rcases h0 with h0 | ⟨j, e, hj⟩
    · exact .inl h0
    · have h1 := y3 j e
      exact .inr (by omega)
  · intro i h1 h2
    by_cases hok : okM m (cs.getD 0 0) (l + i) = true
    · rw [if_pos hok]
      unfold okM at hok
      rw [Bool.and_eq_true, Bool.or_eq_true, decide_eq_true_eq, decide_eq_true_eq] at hok
      obtain ⟨a, b⟩ := hok
      have hgt : Y < l + i := by clear h0 y2 b; omega
      have hlt : l + i ≤ 13 := by clear h0 y2 b; omega
      have hmx1 : X < l + i := by
        clear h0 b
        rcases y2 with e | ⟨j, rfl, e⟩
        · omega
        · have a' : ((l + i : Nat) : Int) ≤ j := of_decide_eq_true a
          omega
      have c0 : cs.getD 0 0 = 0 := b.resolve_right (by clear h0 y2 b; omega)
      clear h0 y2 b
      exact LM_small hw c0 hlt (by omega) (by omega)
    · rw [if_neg hok]
theorem words3 {x : Int} (h : x = 0 ∨ x = 1 ∨ x = 2) : ∃ wd : Str, atI [V.str "row", V.str "set", V.str "ring"] x = some (.str wd) ∧ (wd = "row" ∨ wd = "set" ∨ wd = "ring") := by
  rcases h with rfl | rfl | rfl
  · exact ⟨"row", rfl, .inl rfl⟩
  · exact ⟨"set", rfl, .inr (.inl rfl)⟩
  · exact ⟨"ring", rfl, .inr (.inr rfl)⟩
theorem maxl {wd : Str} {x : Int} {b : Nat} (h0 : 0 ≤ x) (h : x ≤ b) (hb : 1 ≤ b) : ∃ l : Nat, (if (if decide (V.str wd = V.str "ring") = true then (1 : Int) else 0) > x then (if decide (V.str wd = V.str "ring") = true then (1 : Int) else 0) else x) = l ∧ l ≤ b ∧ (wd = "ring" → 1 ≤ l) := by
  by_cases hw : wd = "ring"
  · have e : (if decide (V.str wd = V.str "ring") = true then (1 : Int) else 0) = 1 := if_pos (decide_eq_true (by rw [hw]))
    rw [e]
    by_cases h1 : (1 : Int) > x
    · rw [if_pos h1]
      exact ⟨1, rfl, hb, fun _ => Nat.le_refl 1⟩
    · rw [if_neg h1]
      exact ⟨x.toNat, by omega, by omega, fun _ => by omega⟩
  · have e : (if decide (V.str wd = V.str "ring") = true then (1 : Int) else 0) = 0 := if_neg (fun z => hw (V.str.inj (of_decide_eq_true z)))
    rw [e, if_neg (by omega)]
    exact ⟨x.toNat, by omega, by omega, fun z => absurd z hw⟩
theorem most4 {x y : Int} {l : Nat} (h : x = 0 ∨ x = 1 ∨ x = 2 ∨ x = 3) (hl : l ≤ 3) (h0 : 0 ≤ y) (h1 : y ≤ 9) : ∃ m : Option Int, atI [V.non, V.int (l : Int), V.int ((l : Int) + 1), V.int ((l : Int) + y)] x = some (oV m) ∧ ∀ i, m = some i → (l : Int) ≤ i ∧ i ≤ 20 := by
  rcases h with rfl | rfl | rfl | rfl
  · exact ⟨none, rfl, fun i z => by cases z⟩
  · exact ⟨some l, rfl, fun i z => by cases z; omega⟩
  · exact ⟨some (l + 1), rfl, fun i z => by cases z; omega⟩
  · exact ⟨some (l + y), rfl, fun i z => by cases z; omega⟩
end SM

set_option maxHeartbeats 8000000
namespace SM
open PySem L2
/-! ### lists of ints as data -/
def dI (ns : List Int) : PyData := .list (ns.map PyData.int)
theorem dpAll_ints {K : PySem.W.Frag} {H : Hp} : ∀ ns : List Int, DpAll K H (ns.map V.int) (ns.map PyData.int)
  | [] => .nil
  | n :: r => .cons (.int n) (dpAll_ints r)
theorem dp_ints {K : PySem.W.Frag} {H : Hp} {a : Addr} {ns : List Int} (h : SqL K H a (ns.map V.int)) : Dp K H (.ref a) (dI ns) := .lst h (dpAll_ints ns)
theorem lay_ints : ∀ ns : List Int, PyData.canLayAll0 (ns.map PyData.int) = true
  | [] => rfl
  | n :: r => by
    show (PyData.canLay0 (.int n) && PyData.canLayAll0 (r.map PyData.int)) = true
    rw [lay_ints r]; rfl
theorem depth_ints : ∀ ns : List Int, PyData.depthAll (ns.map PyData.int) = 0
  | [] => rfl
  | n :: r => by
    show max (PyData.depth (.int n)) (PyData.depthAll (r.map PyData.int)) = 0
    rw [depth_ints r]; rfl
theorem shaped_ints (ns : List Int) : SeqAt.shaped (dI ns) = true := by
  have e1 : (dI ns).canLay0 = true := lay_ints ns
  have e2 : (dI ns).depth = 1 := by
    show PyData.depthAll (ns.map PyData.int) + 1 = 1
    rw [depth_ints]
  unfold SeqAt.shaped
  rw [e1, e2]; rfl
theorem eqv_ints (ns : List Int) : PyData.eqv (dI ns) (dI ns) = true := SeqAt.eqv_refl _ (lay_ints ns)
theorem call_isiB {X : Cx} {K : PySem.W.Frag} (h : X.K = K) : CallR X (.builtin "isinstance") (rIsi K) := by
  subst h
  exact call_isi
theorem if_intro {t : TT} {A B : TS} {D : Ends} {σ : St} {H : Hp} (b : Bool) (ht : ∀ Q : Bool → Hp → Prop, Q b H → t σ H Q) (hA : b = true → A D σ H) (hB : b = false → B D σ H) : tIfS t A B D σ H := ht _ (by
  cases b with
  | true => exact iteT (hA rfl)
  | false => exact iteF (hB rfl))
theorem gname_intro {i : Nat} {v : V} {σ : St} {H : Hp} {Q : St → Hp → Prop} (h : Q (σ.set i (some v)) H) : gName i v σ H Q := h
theorem next_intro {D : Ends} {σ : St} {H : Hp} (h : D.nx σ H) : tNext D σ H := h
theorem seq_intro {A R : TS} {D : Ends} {σ : St} {H : Hp} (Pst : St → Hp → Prop) (h : (∀ σ' H', Pst σ' H' → R D σ' H') → tSeq A R D σ H) (hr : ∀ σ' H', Pst σ' H' → R D σ' H') : tSeq A R D σ H := h hr
def scSums : Scope := { kind := .function, names := [(".0", .local), ("n", .cell), ("sum", .globalImplicit), ("range", .globalImplicit), ("first", .cell), ("labelled", .cell), ("second", .cell)], isGenerator := false, isCoroutine := false }
theorem at249 {x : Int} (h : x = 0 ∨ x = 1 ∨ x = 2) : ∃ md : Int, atI [V.int 2, V.int 4, V.int 9] x = some (.int md) ∧ 2 ≤ md ∧ md ≤ 9 := by
  rcases h with rfl | rfl | rfl
  · exact ⟨2, rfl, by decide, by decide⟩
  · exact ⟨4, rfl, by decide, by decide⟩
  · exact ⟨9, rfl, by decide, by decide⟩
theorem getD_range {f : Nat → Int} {N i : Nat} : ((List.range N).map f).getD i 0 = if i < N then f i else 0 := by
  rw [List.getD_eq_getElem?_getD, List.getElem?_map]
  by_cases h : i < N
  · rw [List.getElem?_range h, if_pos h]; rfl
  · rw [List.getElem?_eq_none (by rw [List.length_range]; omega), if_neg h]; rfl
section
variable {P : Program} {w : World} {K : PySem.W.Frag} {mg : Str → Option Value} {base : Heap} {W : Ad}
def spLaw (K : PySem.W.Frag) : Sp := fun vs H Q _ => ∃ (a : Addr) (ns : List Int), vs = [.ref a] ∧ SqL K H a (ns.map V.int) ∧ ns.length ≤ 63 ∧ ∀ H', Q (.bl true) H'
theorem ok_law {f : Addr} {fd : FuncData} (T : Tx K mg W) (F : Fun K "law" "law" s_law f fd) (C1 : Cal P w K mg base CX0 1 "_law_draws" ["script", "many"] (spDraws K))
    (C2 : Cal P w K mg base CX0 3 "pairs" ["first", "second", "labelled"] (spPairs K)) (C3 : Cal P w K mg base CX0 1 "_law_binomial" ["n", "k"] spBin)
    (C4 : Cal P w K mg base CX0 18 "_law_members" ["counts", "word", "m", "labelled"] (spMem K 14)) (C5 : Cal P w K mg base CX0 6 "rows" ["counts", "least", "most", "labelled"] (spRows "row"))
    (C6 : Cal P w K mg base CX0 6 "sets" ["counts", "least", "most", "labelled"] (spRows "set")) (C7 : Cal P w K mg base CX0 6 "rings" ["counts", "least", "most", "labelled"] (spRows "ring")) : FnOk P w K mg base CX0 19 f fd ["script"] (spLaw K) := by
  obtain ⟨f1, fd1, g__law_draws, k__law_draws, b__law_draws, G__law_draws⟩ := C1.ex
  obtain ⟨f2, fd2, g_pairs, k_pairs, b_pairs, G_pairs⟩ := C2.ex
  obtain ⟨f3, fd3, g__law_binomial, k__law_binomial, b__law_binomial, G__law_binomial⟩ := C3.ex
  obtain ⟨f4, fd4, g__law_members, k__law_members, b__law_members, G__law_members⟩ := C4.ex
  obtain ⟨f5, fd5, g_rows, k_rows, b_rows, G_rows⟩ := C5.ex
  obtain ⟨f6, fd6, g_sets, k_sets, b_sets, G_sets⟩ := C6.ex
  obtain ⟨f7, fd7, g_rings, k_rings, b_rings, G_rings⟩ := C7.ex
  refine F.ok sc_law (fun vs H Q E h => ?_) (fun cdv A outer s H vs Q E hr h => ?_)
  · obtain ⟨_, _, rfl, _⟩ := h
    rfl
  · obtain ⟨a, ns, rfl, hA, hlen, q⟩ := h
    have hu64 : (cxOf CX0 P w K mg base ["script", "draws", "size", "labelled", "first", "second", "word", "least", "most", "due", "m", "more", "kept", "found", "j", "n", "k", "one"] "law" (defScope s_law) f cdv A outer s H E).nox.A.units + 64 < cLine := by
      have := hr.un
      show (A.deeper _).units + 64 < cLine
      omega
    refine ⟨_,   (pss_cons (ps_set (i := 1) sc_law.nd rfl (.inr rfl) (pe_call G__law_draws (hr.mono (by decide)) (by rfl) g__law_draws k__law_draws b__law_draws .nil pass0 (pa_cons (pv 0) (pa_cons pe_int pa_nil))))
  (pss_cons (ps_asg (pe_tup (pa_cons (pe_op op_add pe_int (pe_op op_mod (pe_callTy call_int1 (by rfl) T.n_int (by decide +kernel) (pa_cons (pe_ix ix_list (pv 1) pe_int (fun _ _ => rfl)) pa_nil)) pe_int)) (pa_cons (pe_cmpR op_eq (pe_op op_mod (pe_callTy call_int1 (by rfl) T.n_int (by decide +kernel) (pa_cons (pe_ix ix_list (pv 1) pe_int (fun _ _ => rfl)) pa_nil)) pe_int) pe_int (nomark _)) pa_nil))) (pg_tup rfl (pgs_cons (pg_name (i := 2) sc_law.nd rfl (.inl rfl)) (pgs_cons (pg_name (i := 3) sc_law.nd rfl (.inr rfl)) pgs_nil))))
  (pss_cons (ps_set (i := 4) sc_law.nd rfl (.inr rfl) (pe_lc (own := [("j", 14)]) rfl sc_law.nd (pi_range1 (by rfl) T.n_range (pa_cons (pv 2) pa_nil)) (blkOk_by (own := [("j", 14)]) (N := ["script", "draws", "size", "labelled", "first", "second", "word", "least", "most", "due", "m", "more", "kept", "found", "j", "n", "k", "one"]) (sc := defScope s_law) (by decide +kernel)) (fun _ _ _ _ _ => (pg_name (i := 14) sc_law.nd rfl (.inl rfl))) (fun _ _ _ _ _ => pts_nil) (fun _ _ _ _ _ => (pe_op op_mod (pe_callTy call_int1 (by rfl) T.n_int (by decide +kernel) (pa_cons (pe_ix (ix_listB (K := K) rfl) (pv 1) (pe_op op_add pe_int (pv 14)) (fun _ _ => rfl)) pa_nil)) (pe_ix (ix_listB (K := K) rfl) (pe_lst (pa_cons pe_int (pa_cons pe_int (pa_cons pe_int pa_nil)))) (pe_op op_mod (pe_callTy call_int1 (by rfl) T.n_int (by decide +kernel) (pa_cons (pe_ix (ix_listB (K := K) rfl) (pv 1) pe_int (fun _ _ => rfl)) pa_nil)) pe_int) (fun _ _ => rfl))))))
  (pss_cons (ps_set (i := 5) sc_law.nd rfl (.inr rfl) (pe_lc (own := [("j", 14)]) rfl sc_law.nd (pi_range1 (by rfl) T.n_range (pa_cons (pv 2) pa_nil)) (blkOk_by (own := [("j", 14)]) (N := ["script", "draws", "size", "labelled", "first", "second", "word", "least", "most", "due", "m", "more", "kept", "found", "j", "n", "k", "one"]) (sc := defScope s_law) (by decide +kernel)) (fun _ _ _ _ _ => (pg_name (i := 14) sc_law.nd rfl (.inl rfl))) (fun _ _ _ _ _ => pts_nil) (fun _ _ _ _ _ => (pe_op op_mod (pe_callTy call_int1 (by rfl) T.n_int (by decide +kernel) (pa_cons (pe_ix (ix_listB (K := K) rfl) (pv 1) (pe_op op_add pe_int (pv 14)) (fun _ _ => rfl)) pa_nil)) pe_int))))
  (pss_cons (ps_if (pt_cmpR (op_neD hu64) (pe_call G_pairs (hr.mono (by decide)) (by rfl) g_pairs k_pairs b_pairs .nil pass0 (pa_cons (pv 4) (pa_cons (pv 5) (pa_cons (pv 3) pa_nil)))) (pe_lc (own := [("n", 15)]) rfl sc_law.nd (pi_range1 (by rfl) T.n_range (pa_cons (pv 2) pa_nil)) (blkOk_by (own := [("n", 15)]) (N := ["script", "draws", "size", "labelled", "first", "second", "word", "least", "most", "due", "m", "more", "kept", "found", "j", "n", "k", "one"]) (sc := defScope s_law) (by decide +kernel)) (fun _ _ _ _ _ => (pg_name (i := 15) sc_law.nd rfl (.inr rfl))) (fun _ _ _ _ _ => pts_nil) (fun _ _ _ _ _ => (pe_callB (cr_sumB (K := K) rfl rfl) (by rfl) T.n_sum (by decide +kernel) (pa_cons (pe_lc (own := [("k", 16)]) rfl sc_law.nd (pi_range1 (by rfl) T.n_range (pa_cons (pe_op op_add (pv 15) pe_int) pa_nil)) (blkOk_by (own := [("k", 16)]) (N := ["script", "draws", "size", "labelled", "first", "second", "word", "least", "most", "due", "m", "more", "kept", "found", "j", "n", "k", "one"]) (sc := scSums) (by decide +kernel)) (fun _ _ _ _ _ => (pg_name (i := 16) sc_law.nd rfl (.inl rfl))) (fun _ _ _ _ _ => pts_nil) (fun _ _ _ _ _ => (pe_op op_mul (pe_op op_mul (pe_ix (ix_listB (K := K) rfl) (pv 4) (pv 16) (fun _ _ => rfl)) (pe_ix (ix_listB (K := K) rfl) (pv 5) (pe_op op_sub (pv 15) (pv 16)) (fun _ _ => rfl))) (pe_ifExp (pt_val (pv 3)) (pe_call G__law_binomial (hr.mono (by decide)) (by rfl) g__law_binomial k__law_binomial b__law_binomial .nil pass0 (pa_cons (pv 15) (pa_cons (pv 16) pa_nil))) pe_int)))) pa_nil)))) (nomark _)) (
    (pss_one (ps_ret pe_bl))) (pss_nil))
  (pss_cons (ps_if (pt_cmpR op_gt (pe_op op_mod (pe_callTy call_int1 (by rfl) T.n_int (by decide +kernel) (pa_cons (pe_ix ix_list (pv 1) pe_int (fun _ _ => rfl)) pa_nil)) pe_int) pe_int (nomark _)) (
    (pss_one (ps_set (i := 4) sc_law.nd rfl (.inr rfl) (pe_op op_cat (pe_lst (pa_cons pe_int pa_nil)) (pe_slice sl_list (pv 4) (po_some pe_int) po_none))))) (pss_nil))
  (pss_cons (ps_set (i := 6) sc_law.nd rfl (.inl rfl) (pe_ix ix_list (pe_lst (pa_cons pe_str (pa_cons pe_str (pa_cons pe_str pa_nil)))) (pe_op op_mod (pe_callTy call_int1 (by rfl) T.n_int (by decide +kernel) (pa_cons (pe_ix ix_list (pv 1) pe_int (fun _ _ => rfl)) pa_nil)) pe_int) (fun _ _ => rfl)))
  (pss_cons (ps_set (i := 7) sc_law.nd rfl (.inl rfl) (pe_callB (call_max2 rfl) (by rfl) T.n_max (by decide +kernel) (pa_cons (pe_op op_mod (pe_callTy call_int1 (by rfl) T.n_int (by decide +kernel) (pa_cons (pe_ix ix_list (pv 1) pe_int (fun _ _ => rfl)) pa_nil)) pe_int) (pa_cons (pe_callTy call_int1 (by rfl) T.n_int (by decide +kernel) (pa_cons (pe_cmpR op_eq (pv 6) pe_str (nomark _)) pa_nil)) pa_nil))))
  (pss_cons (ps_set (i := 8) sc_law.nd rfl (.inl rfl) (pe_ix ix_list (pe_lst (pa_cons pe_non (pa_cons (pv 7) (pa_cons (pe_op op_add (pv 7) pe_int) (pa_cons (pe_op op_add (pv 7) (pe_op op_mod (pe_callTy call_int1 (by rfl) T.n_int (by decide +kernel) (pa_cons (pe_ix ix_list (pv 1) pe_int (fun _ _ => rfl)) pa_nil)) pe_int)) pa_nil))))) (pe_op op_mod (pe_callTy call_int1 (by rfl) T.n_int (by decide +kernel) (pa_cons (pe_ix ix_list (pv 1) pe_int (fun _ _ => rfl)) pa_nil)) pe_int) (fun _ _ => rfl)))
  (pss_cons (ps_if (pt_cmpR op_gt (pe_ix ix_list (pv 4) pe_int (fun _ _ => rfl)) pe_int (nomark _)) (
    (pss_cons (ps_set (i := 7) sc_law.nd rfl (.inl rfl) (pe_callB (call_max2 rfl) (by rfl) T.n_max (by decide +kernel) (pa_cons (pe_op op_mod (pe_callTy call_int1 (by rfl) T.n_int (by decide +kernel) (pa_cons (pe_ix ix_list (pv 1) pe_int (fun _ _ => rfl)) pa_nil)) pe_int) (pa_cons (pe_callTy call_int1 (by rfl) T.n_int (by decide +kernel) (pa_cons (pe_cmpR op_eq (pv 6) pe_str (nomark _)) pa_nil)) pa_nil))))
    (pss_one (ps_set (i := 8) sc_law.nd rfl (.inl rfl) (pe_callB (call_max2 rfl) (by rfl) T.n_max (by decide +kernel) (pa_cons (pv 7) (pa_cons (pe_op op_mod (pe_callTy call_int1 (by rfl) T.n_int (by decide +kernel) (pa_cons (pe_ix ix_list (pv 1) pe_int (fun _ _ => rfl)) pa_nil)) pe_int) pa_nil))))))) (pss_nil))
  (pss_cons (ps_set (i := 9) sc_law.nd rfl (.inr rfl) (pe_op op_rep (pe_lst (pa_cons pe_int pa_nil)) (pv 2)))
  (pss_cons (ps_for PassesOwn.never rfl (pi_range2 (by rfl) T.n_range (pa_cons (pv 7) (pa_cons (pe_callB (call_max2 rfl) (by rfl) T.n_max (by decide +kernel) (pa_cons (pv 2) (pa_cons pe_int pa_nil))) pa_nil))) (pg_name (i := 10) sc_law.nd rfl (.inl rfl)) (
    (pss_one (ps_if (PW.pt (pw_and (PW.pt (pw_or (pt_cmp (pc_isN (pv 8)) rfl) (pw_or1 (pt_cmpR op_le (pv 10) (pv 8) (nomark _))))) (pw_and1 (PW.pt (pw_or (pt_cmpR op_eq (pe_ix ix_list (pv 4) pe_int (fun _ _ => rfl)) pe_int (nomark _)) (pw_or1 (pt_cmpR op_lt (pv 10) pe_int (nomark _)))))))) (
      (pss_cons (ps_set (i := 11) sc_law.nd rfl (.inr rfl) (pe_call G__law_members (hr.mono (by decide)) (by rfl) g__law_members k__law_members b__law_members .nil pass0 (pa_cons (pv 4) (pa_cons (pv 6) (pa_cons (pv 10) (pa_cons (pv 3) pa_nil))))))
      (pss_one (ps_set (i := 9) sc_law.nd rfl (.inr rfl) (pe_lc (own := [("n", 15)]) rfl sc_law.nd (pi_range1 (by rfl) T.n_range (pa_cons (pv 2) pa_nil)) (blkOk_by (own := [("n", 15)]) (N := ["script", "draws", "size", "labelled", "first", "second", "word", "least", "most", "due", "m", "more", "kept", "found", "j", "n", "k", "one"]) (sc := defScope s_law) (by decide +kernel)) (fun _ _ _ _ _ => (pg_name (i := 15) sc_law.nd rfl (.inl rfl))) (fun _ _ _ _ _ => pts_nil) (fun _ _ _ _ _ => (pe_op op_add (pe_ix (ix_listB (K := K) rfl) (pv 9) (pv 15) (fun _ _ => rfl)) (pe_ix (ix_listB (K := K) rfl) (pv 11) (pv 15) (fun _ _ => rfl))))))))) (pss_nil)))))
  (pss_cons (ps_set (i := 12) sc_law.nd rfl (.inl rfl) (pe_callTy call_list_of (by rfl) T.n_list (by decide +kernel) (pa_cons (pv 4) pa_nil)))
  (pss_cons (ps_if (pt_cmpR op_eq (pv 6) pe_str (nomark _)) (
    (pss_one (ps_set (i := 13) sc_law.nd rfl (.inl rfl) (pe_call G_rows (hr.mono (by decide)) (by rfl) g_rows k_rows b_rows .nil pass0 (pa_cons (pv 4) (pa_cons (pv 7) (pa_cons (pv 8) (pa_cons (pv 3) pa_nil)))))))) (
    (pss_one (ps_if (pt_cmpR op_eq (pv 6) pe_str (nomark _)) (
      (pss_one (ps_set (i := 13) sc_law.nd rfl (.inl rfl) (pe_call G_sets (hr.mono (by decide)) (by rfl) g_sets k_sets b_sets .nil pass0 (pa_cons (pv 4) (pa_cons (pv 7) (pa_cons (pv 8) (pa_cons (pv 3) pa_nil)))))))) (
      (pss_one (ps_set (i := 13) sc_law.nd rfl (.inl rfl) (pe_call G_rings (hr.mono (by decide)) (by rfl) g_rings k_rings b_rings .nil pass0 (pa_cons (pv 4) (pa_cons (pv 7) (pa_cons (pv 8) (pa_cons (pv 3) pa_nil))))))))))))
  (pss_one (ps_ret (pe_and (pe_callB call_isi (by rfl) T.n_isinstance (by decide +kernel) (pa_cons (pv 13) (pa_cons (pe_bltn (v := .ty "list") (by rfl) T.n_list (by decide +kernel) rfl) pa_nil))) (pe_and (pe_cmpR (op_eqD hu64) (pv 13) (pv 9) (nomark _)) (pe_and (pe_cmpR (op_eqD hu64) (pv 4) (pv 12) (nomark _)) (pe_one (pe_not (pe_callB (cr_any rfl) (by rfl) T.n_any (by decide +kernel) (pa_cons (pe_lc (own := [("one", 17)]) rfl sc_law.nd (pi_list (pv 13)) (blkOk_by (own := [("one", 17)]) (N := ["script", "draws", "size", "labelled", "first", "second", "word", "least", "most", "due", "m", "more", "kept", "found", "j", "n", "k", "one"]) (sc := defScope s_law) (by decide +kernel)) (fun _ _ _ _ _ => (pg_name (i := 17) sc_law.nd rfl (.inl rfl))) (fun _ _ _ _ _ => pts_nil) (fun _ _ _ _ _ => (pe_callB (call_isiB (K := K) rfl) (by rfl) T.n_isinstance (by decide +kernel) (pa_cons (pv 17) (pa_cons (pe_bltn (v := .ty "bool") (by rfl) T.n_bool (by decide +kernel) rfl) pa_nil))))) pa_nil))))))))))))))))))))))), ?_⟩
    -- draws
    refine ⟨_, rfl, a, ns, 60, rfl, hA, hlen, by decide, fun dp H1 ds s1 nd hd hds hdl => ?_⟩
    have dat : ∀ {k : Nat}, k < 60 → (ds.map V.int)[k]? = some (.int (ds.getD k 0)) := fun {k} h => getD_at (by omega)
    have dnn : ∀ k, 0 ≤ ds.getD k 0 := fun k => by
      rw [List.getD_eq_getElem?_getD]
      cases e : ds[k]? with
      | none => exact Int.le_refl 0
      | some x => exact (hds x (List.mem_of_getElem? e)).1
    -- size, labelled
    refine ⟨_, rfl, dp, _, _, _, rfl, rfl, sq_of hd, atI_nat (j := 0) (dat (by decide)), .inl ⟨_, rfl, _, _, rfl, rfl, (by show (0 : Int) < 12; decide), _, _, rfl, rfl, ?_⟩⟩
    refine ⟨_, rfl, dp, _, _, _, rfl, rfl, sq_of hd, atI_nat (j := 1) (dat (by decide)), .inl ⟨_, rfl, _, _, rfl, rfl, (by show (0 : Int) < 2; decide), rfl, ?_⟩⟩
    refine ⟨sz _ (by show 2 ≤ 100000; decide), fun tp ntp => ⟨tp, _, rfl, st_of upd_same, rfl, _, _, rfl, _, _, rfl, rfl, ?_⟩⟩
    generalize decide (V.int (ds.getD 1 0 % 2) = V.int 0) = lb
    obtain ⟨N, hN, hN1, hN2⟩ : ∃ n : Nat, (1 + ds.getD 0 0 % 12 : Int) = n ∧ 1 ≤ n ∧ n ≤ 12 := by
      have h0 := Int.emod_nonneg (ds.getD 0 0) (b := 12) (by decide)
      have h1 := Int.emod_lt_of_pos (ds.getD 0 0) (b := 12) (by decide)
      exact ⟨(1 + ds.getD 0 0 % 12).toNat, by omega, by omega, by omega⟩
    generalize hH2 : upd H1 tp _ = H2
    have s2 : Same H1 H2 := hH2 ▸ same_upd ntp
    clear hH2
    have hd2 := s2 _ _ hd
    dsimp only
    rw [hN]
    -- first
    obtain ⟨md, hmd, md2, md9⟩ := at249 (x := ds.getD 30 0 % 3) (by
      have h0 := Int.emod_nonneg (ds.getD 30 0) (b := 3) (by decide)
      have h1 := Int.emod_lt_of_pos (ds.getD 30 0) (b := 3) (by decide)
      omega)
    refine ⟨_, rfl, N, rfl, by omega, by omega, fun D1 hD1 => ?_⟩
    rw [Int.toNat_natCast]
    refine lc_rangeM (lo := 0) (j := 14) (fun i => V.int (ds.getD (2 + i) 0 % md)) (by omega) hD1 (fun i hi H3 s3 R k => ?_) (fun H3 s3 h3 => ?_)
    · refine ⟨_, rfl, _, rfl, _, _, rfl, rfl, dp, _, _, _, rfl, rfl, sq_of (s3 _ _ hd2), atI_of (j := 2 + i) (by omega) (dat (by omega)), .inl ⟨_, rfl, sz _ (by show 3 ≤ 100000; decide), fun q1 nq1 => ?_⟩⟩
      have s4 : Same H3 (upd H3 q1 (.lst [.int 2, .int 4, .int 9])) := same_upd nq1
      refine ⟨_, rfl, dp, _, _, _, rfl, rfl, sq_of (s4 _ _ (s3 _ _ hd2)), atI_nat (j := 30) (dat (by decide)), .inl ⟨_, rfl, _, _, rfl, rfl, (by show (0 : Int) < 3; decide), q1, _, _, _, rfl, rfl, sq_of upd_same, hmd, _, _, rfl, rfl, by omega, k _ s4⟩⟩
    have hf1 : H3 D1 = some (.lst (((List.range N).map fun i => ds.getD (2 + i) 0 % md).map V.int)) := by rw [h3, List.map_map]; rfl
    have hd3 := s3 _ _ hd2
    -- second
    refine ⟨_, rfl, N, rfl, by omega, by omega, fun D2 hD2 => ?_⟩
    rw [Int.toNat_natCast]
    refine lc_rangeM (lo := 0) (j := 14) (fun i => V.int (ds.getD (16 + i) 0 % 5)) (by omega) hD2 (fun i hi H4 s4 R k => ?_) (fun H4 s4 h4 => ?_)
    · refine ⟨_, rfl, _, rfl, _, _, rfl, rfl, dp, _, _, _, rfl, rfl, sq_of (s4 _ _ hd3), atI_of (j := 16 + i) (by omega) (dat (by omega)), .inl ⟨_, rfl, _, _, rfl, rfl, (by show (0 : Int) < 5; decide), k _ (.refl _)⟩⟩
    have hf2 : H4 D2 = some (.lst (((List.range N).map fun i => ds.getD (16 + i) 0 % 5).map V.int)) := by rw [h4, List.map_map]; rfl
    have hf1' := s4 _ _ hf1
    have hd4 := s4 _ _ hd3
    generalize hc1 : (List.range N).map (fun i => ds.getD (2 + i) 0 % md) = c1 at hf1'
    generalize hc2 : (List.range N).map (fun i => ds.getD (16 + i) 0 % 5) = c2 at hf2
    have l1 : c1.length = N := by rw [← hc1, List.length_map, List.length_range]
    have l2 : c2.length = N := by rw [← hc2, List.length_map, List.length_range]
    have b1 : ∀ i, 0 ≤ c1.getD i 0 ∧ c1.getD i 0 ≤ 8 := fun i => by
      rw [← hc1, getD_range]
      split
      · have h0 := Int.emod_nonneg (ds.getD (2 + i) 0) (b := md) (by omega)
        have h1 := Int.emod_lt_of_pos (ds.getD (2 + i) 0) (b := md) (by omega)
        omega
      · exact ⟨by decide, by decide⟩
    have b2 : ∀ i, 0 ≤ c2.getD i 0 ∧ c2.getD i 0 ≤ 4 := fun i => by
      rw [← hc2, getD_range]
      split
      · have h0 := Int.emod_nonneg (ds.getD (16 + i) 0) (b := 5) (by omega)
        have h1 := Int.emod_lt_of_pos (ds.getD (16 + i) 0) (b := 5) (by omega)
        omega
      · exact ⟨by decide, by decide⟩
    have m1 : ∀ x ∈ c1, 0 ≤ x := fun x hx => by
      obtain ⟨i, hi, rfl⟩ := List.mem_iff_getElem.mp hx
      have := (b1 i).1
      rw [List.getD_eq_getElem?_getD, List.getElem?_eq_getElem hi] at this
      exact this
    have m2 : ∀ x ∈ c2, 0 ≤ x := fun x hx => by
      obtain ⟨i, hi, rfl⟩ := List.mem_iff_getElem.mp hx
      have := (b2 i).1
      rw [List.getD_eq_getElem?_getD, List.getElem?_eq_getElem hi] at this
      exact this
    -- pairs
    refine ⟨_, rfl, _, rfl, _, rfl, D1, D2, c1, c2, lb, rfl, hf1', hf2, by omega, by omega, by omega, m1, m2, fun i => ⟨(b2 i).1, Int.lt_of_le_of_lt (b2 i).2 (by decide)⟩, fun pp H5 s5 npp hpp => ?_⟩
    have hd5 := s5 _ _ hd4
    have hf1b := s5 _ _ hf1'
    have hf2b := s5 _ _ hf2
    refine ⟨_, rfl, N, rfl, by omega, by omega, fun D3 hD3 => ?_⟩
    rw [Int.toNat_natCast]
    refine lc_rangeM (lo := 0) (j := 15) (fun n => V.int (pItem (modeS lb) c1 c2 n)) (by omega) hD3 (fun n hn H6 s6 R k => ?_) (fun H6 s6 h6 => ?_)
    · refine ⟨_, rfl, _, _, rfl, rfl, _, rfl, by omega, by omega, fun D4 hD4 => ?_⟩
      rw [show ((0 : Int) + (n : Int) + 1).toNat = n + 1 by omega]
      refine lc_rangeM (lo := 0) (j := 16) (fun i => V.int (shr (modeS lb) n i * c1.getD i 0 * c2.getD (n - i) 0)) (by omega) hD4 (fun i hi H7 s7 R2 k2 => ?_) (fun H7 s7 h7 => ?_)
      · have hb1 := b1 i
        refine ⟨_, rfl, _, rfl, D1, _, _, _, rfl, rfl, sq_of (s7 _ _ (s6 _ _ hf1b)), atI_of (Int.zero_add _) (getD_at (by omega)), _, rfl, _, rfl, _, rfl, _, _, rfl, rfl, D2, _, _, _, rfl, rfl, sq_of (s7 _ _ (s6 _ _ hf2b)), atI_of (j := n - i) (by omega) (getD_at (by omega)), _, _, rfl, rfl, .inl ⟨Int.lt_of_lt_of_le (by decide) hb1.1, Int.lt_of_le_of_lt hb1.2 (by decide)⟩, _, rfl, lb, rfl, ?_⟩
        have e : shr (modeS lb) n i * c1.getD i 0 * c2.getD (n - i) 0 = c1.getD i 0 * c2.getD (n - i) 0 * (if lb = true then SMath.bin n i else 1) := by
          rw [shr_bin (by omega) (by omega), Int.mul_assoc, Int.mul_comm]
        have k3 := k2 H7 (.refl H7)
        rw [e] at k3
        cases lb with
        | true =>
          rw [if_pos rfl] at k3
          have hb := SMath.bin_le n i
          have h2 : (2 : Int) ^ n ≤ 2 ^ 14 := pow_le (by omega)
          refine iteT ⟨_, rfl, _, rfl, (0 + (n : Int)), n, i, by show [V.int _, V.int (0 + (i : Int))] = _; rw [Int.zero_add (i : Int)], .inl (by omega), by omega, by omega, _, _, rfl, rfl, .inr ⟨by omega, by omega⟩, k3⟩
        | false =>
          rw [if_neg Bool.false_ne_true] at k3
          exact iteF ⟨_, _, rfl, rfl, .inr (by decide), k3⟩
      · refine ⟨D4, (List.range (n + 1)).map (fun i : Nat => shr (modeS lb) n i * c1.getD i 0 * c2.getD (n - i) 0), rfl, sq_of (by rw [h7, List.map_map]; rfl), ?_⟩
        rw [SMath.S_list]
        exact k H7 s7
    have hq6 : H6 D3 = some (.lst (((List.range N).map fun n => pItem (modeS lb) c1 c2 n).map V.int)) := by rw [h6, List.map_map]; rfl
    refine ⟨_, _, dp_ints (sq_of (s6 _ _ hpp)), dp_ints (sq_of hq6), shaped_ints _, shaped_ints _, _, rfl, ?_⟩
    rw [l1, eqv_ints]
    refine iteF ?_
    have hd6 := s6 _ _ hd5
    have hf1c := s6 _ _ hf1b
    have s06 : Same H1 H6 := s2.trans (s3.trans (s4.trans (s5.trans s6)))
    -- first = [0] + first[1:]
    refine next_intro ?_
    dsimp only
    refine seq_intro (fun σ' H' => ∃ (fp : Addr) (cs : List Int), σ' = [some (.ref a), some (.ref dp), some (.int N), some (.bl lb), some (.ref fp), some (.ref D2), none, none, none, none, none, none, none, none, none, none, none, none] ∧ Same H6 H' ∧ H' fp = some (.lst (cs.map V.int)) ∧ cs.length = N ∧ ∀ i, 0 ≤ cs.getD i 0 ∧ cs.getD i 0 ≤ 8) (fun hr => ?_) ?_
    · refine ⟨_, rfl, dp, _, _, _, rfl, rfl, sq_of hd6, atI_nat (j := 31) (dat (by decide)), .inl ⟨_, rfl, _, _, rfl, rfl, (by show (0 : Int) < 4; decide), _, _, rfl, rfl, _, rfl, ite2 (fun _ => ?_) (fun _ => ?_)⟩⟩
      · refine ⟨sz _ (by show 1 ≤ 100000; decide), fun q1 n1 => ?_⟩
        have s7 : Same H6 (upd H6 q1 (.lst [.int 0])) := same_upd n1
        refine ⟨_, rfl, 1, rfl, D1, _, rfl, sq_of (s7 _ _ hf1c), fun q2 n2 => ?_⟩
        have n12 : q1 ≠ q2 := fun e => by rw [← e, upd_same] at n2; cases n2
        have ecut : cutV (c1.map V.int) (some 1) none = (c1.drop 1).map V.int := by
          rw [List.map_drop]
          exact cutV_from (c1.map V.int) 1
        refine ⟨q1, q2, [.int 0], (c1.drop 1).map V.int, rfl, rfl, by rw [upd_ne n12]; exact upd_same, by rw [upd_same, ecut], sz _ (by rw [List.length_map, List.length_drop]; simp; omega), fun q3 n3 => ?_⟩
        refine hr _ _ ⟨q3, 0 :: c1.drop 1, rfl, (s7.trans (same_upd n2)).trans (same_upd n3), upd_same, by rw [List.length_cons, List.length_drop]; omega, fun i => ?_⟩
        cases i with
        | zero => exact ⟨Int.le_refl 0, (by decide : (0 : Int) ≤ 8)⟩
        | succ i =>
          have e : (0 :: c1.drop 1).getD (i + 1) 0 = c1.getD (i + 1) 0 := by
            rw [List.getD_eq_getElem?_getD, List.getD_eq_getElem?_getD, List.getElem?_cons_succ, List.getElem?_drop, Nat.add_comm 1 i]
          rw [e]
          exact b1 (i + 1)
      · exact hr _ _ ⟨D1, c1, rfl, .refl H6, hf1c, l1, b1⟩
    rintro σ7 H7 ⟨fp, cs, rfl, s7, hfp, hcl, hcb⟩
    have hd7 := s7 _ _ hd6
    have hnn : ∀ x ∈ cs, 0 ≤ x := fun x hx => by
      obtain ⟨i, hi, rfl⟩ := List.mem_iff_getElem.mp hx
      have := (hcb i).1
      rw [List.getD_eq_getElem?_getD, List.getElem?_eq_getElem hi] at this
      exact this
    have hBn : Bn cs := fun x hx => by
      obtain ⟨i, hi, rfl⟩ := List.mem_iff_getElem.mp hx
      have := hcb i
      rw [List.getD_eq_getElem?_getD, List.getElem?_eq_getElem hi] at this
      exact ⟨this.1, Int.le_trans this.2 (by decide)⟩
    have hSm : Sm cs := fun i => ⟨(hcb i).1, Int.le_trans (hcb i).2 (by decide)⟩
    -- word
    obtain ⟨wd, hwd, hw⟩ := words3 (x := ds.getD 32 0 % 3) (by
      have h0 := Int.emod_nonneg (ds.getD 32 0) (b := 3) (by decide)
      have h1 := Int.emod_lt_of_pos (ds.getD 32 0) (b := 3) (by decide)
      omega)
    refine ⟨sz _ (by show 3 ≤ 100000; decide), fun wp nwp => ?_⟩
    have s8 : Same H7 (upd H7 wp (.lst [.str "row", .str "set", .str "ring"])) := same_upd nwp
    refine ⟨_, rfl, dp, _, _, _, rfl, rfl, sq_of (s8 _ _ hd7), atI_nat (j := 32) (dat (by decide)), .inl ⟨_, rfl, _, _, rfl, rfl, (by show (0 : Int) < 3; decide), wp, _, _, _, rfl, rfl, sq_of upd_same, hwd, ?_⟩⟩
    have hd8 := s8 _ _ hd7
    have hfp8 := s8 _ _ hfp
    generalize (upd H7 wp (.lst [.str "row", .str "set", .str "ring"])) = H8 at s8 hd8 hfp8 ⊢
    -- least
    obtain ⟨l0, hl0, hl3, hlr⟩ := maxl (wd := wd) (x := ds.getD 33 0 % 4) (b := 3) (Int.emod_nonneg _ (by decide)) (by have := Int.emod_lt_of_pos (ds.getD 33 0) (b := 4) (by decide); omega) (by decide)
    refine ⟨_, rfl, dp, _, _, _, rfl, rfl, sq_of hd8, atI_nat (j := 33) (dat (by decide)), .inl ⟨_, rfl, _, _, rfl, rfl, (by show (0 : Int) < 4; decide), _, rfl, rfl, .inr ⟨_, rfl, _, _, rfl, ?_⟩⟩⟩
    rw [hl0]
    -- most
    obtain ⟨m0, hm0, hm0b⟩ := most4 (x := ds.getD 35 0 % 4) (y := ds.getD 34 0 % 9) (l := l0) (by
      have h0 := Int.emod_nonneg (ds.getD 35 0) (b := 4) (by decide)
      have h1 := Int.emod_lt_of_pos (ds.getD 35 0) (b := 4) (by decide)
      omega) hl3 (Int.emod_nonneg _ (by decide)) (by have := Int.emod_lt_of_pos (ds.getD 34 0) (b := 9) (by decide); omega)
    refine ⟨_, rfl, _, rfl, _, _, rfl, rfl, _, rfl, _, rfl, dp, _, _, _, rfl, rfl, sq_of hd8, atI_nat (j := 34) (dat (by decide)), .inl ⟨_, rfl, _, _, rfl, rfl, (by show (0 : Int) < 9; decide), _, _, rfl, rfl, sz _ (by show 4 ≤ 100000; decide), fun mp nmp => ?_⟩⟩
    generalize hH9 : upd H8 mp _ = H9
    have s9 : Same H8 H9 := hH9 ▸ same_upd nmp
    have hmp : H9 mp = some (.lst [.non, .int l0, .int ((l0 : Int) + 1), .int ((l0 : Int) + ds.getD 34 0 % 9)]) := by rw [← hH9, upd_same]
    clear hH9
    have hd9 := s9 _ _ hd8
    have hfp9 := s9 _ _ hfp8
    refine ⟨_, rfl, dp, _, _, _, rfl, rfl, sq_of hd9, atI_nat (j := 35) (dat (by decide)), .inl ⟨_, rfl, _, _, rfl, rfl, (by show (0 : Int) < 4; decide), mp, _, _, _, rfl, rfl, sq_of hmp, hm0, ?_⟩⟩
    refine gname_intro ?_
    dsimp only
    refine seq_intro (fun σ' H' => ∃ (l : Nat) (m : Option Int), σ' = [some (.ref a), some (.ref dp), some (.int N), some (.bl lb), some (.ref fp), some (.ref D2), some (.str wd), some (.int l), some (oV m), none, none, none, none, none, none, none, none, none] ∧ H' = H9 ∧ l ≤ 3 ∧ (wd = "ring" → 1 ≤ l) ∧
      (∀ i, m = some i → (l : Int) ≤ i ∧ i ≤ 20) ∧ (cs.getD 0 0 = 0 ∨ ∃ i, m = some i ∧ i ≤ 1)) (fun hr => ?_) ?_
    · refine ⟨_, rfl, fp, _, _, _, rfl, rfl, sq_of hfp9, atI_nat (j := 0) (getD_at (by omega)), _, _, rfl, rfl, _, rfl, ite2 (fun c => ?_) (fun c => ?_)⟩
      · obtain ⟨l1, hl1, hl1b, hl1r⟩ := maxl (wd := wd) (x := ds.getD 33 0 % 2) (b := 1) (Int.emod_nonneg _ (by decide)) (by have := Int.emod_lt_of_pos (ds.getD 33 0) (b := 2) (by decide); omega) (by decide)
        refine ⟨_, rfl, dp, _, _, _, rfl, rfl, sq_of hd9, atI_nat (j := 33) (dat (by decide)), .inl ⟨_, rfl, _, _, rfl, rfl, (by show (0 : Int) < 2; decide), _, rfl, rfl, .inr ⟨_, rfl, _, _, rfl, ?_⟩⟩⟩
        rw [hl1]
        refine ⟨_, rfl, _, rfl, dp, _, _, _, rfl, rfl, sq_of hd9, atI_nat (j := 34) (dat (by decide)), .inl ⟨_, rfl, _, _, rfl, rfl, (by show (0 : Int) < 2; decide), _, _, rfl, ?_⟩⟩
        have z1 := Int.emod_lt_of_pos (ds.getD 34 0) (b := 2) (by decide)
        refine hr _ _ ⟨l1, some (if ds.getD 34 0 % 2 > l1 then ds.getD 34 0 % 2 else l1), rfl, rfl, by omega, hl1r, fun i e => ?_, .inr ⟨_, rfl, ?_⟩⟩
        · have e2 := Option.some.inj e
          split at e2 <;> omega
        · split <;> omega
      · have c' : ¬ (0 : Int) < cs.getD 0 0 := fun z => c (decide_eq_true z)
        have := (hcb 0).1
        exact hr _ _ ⟨l0, m0, rfl, rfl, hl3, hlr, hm0b, .inl (by omega)⟩
    rintro σ10 H10 ⟨l, m, rfl, rfl, hl, hlr', hmb, h0⟩
    -- due
    refine ⟨sz _ (by show 1 ≤ 100000; decide), fun q1 n1 => ?_⟩
    have s10 : Same H10 (upd H10 q1 (.lst [.int 0])) := same_upd n1
    refine ⟨_, rfl, q1, _, _, rfl, rfl, upd_same, by omega, by omega, sz _ (by simp; omega), fun q2 n2 => ?_⟩
    generalize hHb : upd _ q2 _ = Hb
    have s11 : Same H10 Hb := hHb ▸ s10.trans (same_upd n2)
    have n2' : H10 q2 = none := s10.free n2
    have hq2 : Hb q2 = some (.lst (((List.range N).map (dueF wd lb cs m l 0)).map V.int)) := by
      rw [← hHb, upd_same, Int.toNat_natCast, zeros_fun]
      rfl
    clear hHb
    -- the loop over the numbers of members
    obtain ⟨x1, x2, x3⟩ := max_cases N 2
    generalize max N 2 = M at x1 x2 x3
    have eM : (if (2 : Int) > (N : Int) then (2 : Int) else (N : Int)) = (M : Int) := by
      split <;> omega
    refine ⟨_, rfl, _, rfl, _, _, rfl, ?_⟩
    rw [eM]
    refine ⟨_, _, rfl, ⟨by omega, by omega, by omega, by omega⟩, ?_⟩
    rw [show ((M : Int) - (l : Int)).toNat = M - l by omega]
    have c12 : cs.length ≤ 12 := by omega
    refine for_range (lo := l) (n := M - l) (fun i σ H' => Same H10 H' ∧ ∃ (dq : Addr) (y10 y11 : Option V), σ = [some (.ref a), some (.ref dp), some (.int N), some (.bl lb), some (.ref fp), some (.ref D2), some (.str wd), some (.int l), some (oV m), some (.ref dq), y10, y11, none, none, none, none, none, none] ∧
      H' dq = some (.lst (((List.range N).map (dueF wd lb cs m l i)).map V.int)) ∧ H10 dq = none) ⟨s11, q2, none, none, rfl, hq2, n2'⟩ ?_ ?_
    · rintro i σ H11 hi ⟨sB, dq, y10, y11, rfl, hdq, ndq⟩
      refine if_intro (okM m (cs.getD 0 0) (l + i)) (fun Q1 hQ => ?_) (fun hok => ?_) (fun hok => ?_)
      · have e10 : ((l : Int) + (i : Int)) = ((l + i : Nat) : Int) := by omega
        have fin1 : okA m (l + i) = true → _ := okM_A (Q := fun b => Q1 b H11) hQ
        have fin2 : okA m (l + i) = false → _ := okM_B (Q := fun b => Q1 b H11) hQ
        rw [← e10] at fin1
        cases m with
        | none =>
          refine ⟨_, rfl, _, rfl, iteT ?_⟩
          refine iteT ?_
          refine ⟨_, rfl, fp, _, _, _, rfl, rfl, sq_of (sB _ _ hfp9), atI_nat (j := 0) (getD_at (by omega)), rfl, _, rfl, ite2 (fun c => ?_) (fun c => ⟨_, rfl, _, _, rfl, rfl, _, rfl, ?_⟩)⟩
          · exact (fin1 rfl).1 (V.int.inj (of_decide_eq_true c))
          · exact (fin1 rfl).2 (fun z => c (decide_eq_true (by rw [z])))
        | some j =>
          refine ⟨_, rfl, _, rfl, iteF ⟨_, rfl, _, rfl, _, _, rfl, rfl, _, rfl, ite2 (fun c0 => ?_) (fun c0 => ?_)⟩⟩
          · have hA : okA (some j) (l + i) = true := by
              have := of_decide_eq_true c0
              exact decide_eq_true (by omega)
            refine ⟨_, rfl, fp, _, _, _, rfl, rfl, sq_of (sB _ _ hfp9), atI_nat (j := 0) (getD_at (by omega)), rfl, _, rfl, ite2 (fun c => ?_) (fun c => ⟨_, rfl, _, _, rfl, rfl, _, rfl, ?_⟩)⟩
            · exact (fin1 hA).1 (V.int.inj (of_decide_eq_true c))
            · exact (fin1 hA).2 (fun z => c (decide_eq_true (by rw [z])))
          · refine fin2 ?_
            exact decide_eq_false fun z => c0 (decide_eq_true (by omega))
      · -- more = _law_members(..); due = [..]
        refine ⟨_, rfl, _, rfl, _, rfl, _, rfl, fp, cs, wd, l + i, lb, ?_, by omega, sq_of (sB _ _ hfp9), hSm, by omega, by omega, by omega, hw, fun p H12 s12 np hp => ?_⟩
        · show [V.ref fp, V.str wd, V.int ((l : Int) + (i : Int)), V.bl lb] = _
          rw [show ((l : Int) + (i : Int)) = ((l + i : Nat) : Int) by omega]
        refine ⟨_, rfl, N, rfl, by omega, by omega, fun D5 hD5 => ?_⟩
        rw [Int.toNat_natCast]
        have hdq12 := s12 _ _ hdq
        refine lc_rangeM (lo := 0) (j := 15) (fun n => V.int (dueF wd lb cs m l (i + 1) n)) (by omega) hD5 (fun n hn H13 s13 R k => ?_) (fun H13 s13 h13 => ?_)
        · refine ⟨_, rfl, _, rfl, dq, _, _, _, rfl, rfl, sq_of (s13 _ _ hdq12), atI_of (Int.zero_add _) (fun_get hn), _, rfl, _, rfl, p, _, _, _, rfl, rfl, sq_of (s13 _ _ hp), atI_of (Int.zero_add _) (fun_get (by omega)), _, _, rfl, rfl, ?_⟩
          have e : dueF wd lb cs m l (i + 1) n = dueF wd lb cs m l i n + LM wd lb cs (l + i) n := by
            show SMath.S i _ + (if okM m (cs.getD 0 0) (l + i) = true then LM wd lb cs (l + i) n else 0) = _
            rw [if_pos hok]
            rfl
          have := k H13 (.refl H13)
          rw [e] at this
          exact this
        · exact ⟨sB.trans (s12.trans s13), D5, _, _, rfl, by rw [h13, List.map_map]; rfl, sB.free (s12.free hD5)⟩
      · refine ⟨sB, dq, _, _, rfl, ?_, ndq⟩
        rw [hdq]
        congr 3
        refine List.map_congr_left fun n _ => ?_
        show _ = SMath.S i _ + (if okM m (cs.getD 0 0) (l + i) = true then LM wd lb cs (l + i) n else 0)
        rw [hok, if_neg Bool.false_ne_true, Int.add_zero]
        rfl
    rintro σ12 H12 ⟨sC, dq, y10, y11, rfl, hdq, ndq⟩
    have hdue : (List.range N).map (dueF wd lb cs m l (M - l)) = (List.range cs.length).map fun n => outG wd (modeS lb) cs m l n := by
      rw [hcl]
      refine List.map_congr_left fun n hn => ?_
      exact due_out hw (fun i => (hcb i).1) (by have := List.mem_range.mp hn; omega) c12 hlr' hl (by omega) x2 (by omega) (fun i e => by have := (hmb i e).1; omega) h0
    rw [hdue] at hdq
    have hfp12 := sC _ _ hfp9
    -- kept
    refine ⟨_, rfl, fp, _, rfl, .inl (sq_of hfp12), fun kp nkp => ?_⟩
    generalize hH13 : upd H12 kp _ = H13
    have s13 : Same H12 H13 := hH13 ▸ same_upd nkp
    have hkp : H13 kp = some (.lst (cs.map V.int)) := by rw [← hH13, upd_same]
    clear hH13
    have hfp13 := s13 _ _ hfp12
    have hdq13 := s13 _ _ hdq
    have hcw : ∀ (Q1 : VK) (E1 : XK), (∀ p H', Same H13 H' → H13 p = none → H' p = some (.lst (((List.range cs.length).map fun n => outG wd (modeS lb) cs m l n).map V.int)) → Q1 (.ref p) H') → spCW [.str wd, .ref fp, .int l, oV m, .bl lb] H13 Q1 E1 := fun Q1 E1 hQ => by
      refine ⟨wd, fp, cs, l, m, lb, rfl, hfp13, hBn, by omega, by omega, ?_, ?_, ?_, by omega, hQ⟩
      · rcases hw with rfl | rfl | rfl <;> decide +kernel
      · unfold areB
        rw [Bool.and_eq_true]
        refine ⟨decide_eq_true ?_, ?_⟩
        · unfold lowB
          by_cases hwr : wd = "ring"
          · rw [if_pos hwr]
            have := hlr' hwr
            omega
          · rw [if_neg hwr]
            omega
        · cases m with
          | none => rfl
          | some j => exact decide_eq_true (hmb j rfl).1
      · rcases h0 with h0 | ⟨j, rfl, hj⟩
        · exact .inl h0
        · exact .inr (decide_eq_false (by omega))
    refine gname_intro ?_
    dsimp only
    refine seq_intro (fun σ' H' => ∃ (gp : Addr), σ' = [some (.ref a), some (.ref dp), some (.int N), some (.bl lb), some (.ref fp), some (.ref D2), some (.str wd), some (.int l), some (oV m), some (.ref dq), y10, y11, some (.ref kp), some (.ref gp), none, none, none, none] ∧ Same H13 H' ∧
      H' gp = some (.lst (((List.range cs.length).map fun n => outG wd (modeS lb) cs m l n).map V.int))) (fun hr => ?_) ?_
    · refine ⟨_, rfl, rfl, _, rfl, ite2 (fun c => ?_) (fun c => ?_)⟩
      · have hwd : wd = "row" := V.str.inj (of_decide_eq_true c)
        refine ⟨_, rfl, _, rfl, _, rfl, _, rfl, fp, l, m, lb, rfl, ?_⟩
        subst hwd
        refine hcw _ _ ?_
        exact (fun p H' s' np hp => hr _ _ ⟨p, rfl, s', hp⟩)
      · refine ⟨_, rfl, rfl, _, rfl, ite2 (fun c2 => ?_) (fun c2 => ?_)⟩
        · have hwd : wd = "set" := V.str.inj (of_decide_eq_true c2)
          refine ⟨_, rfl, _, rfl, _, rfl, _, rfl, fp, l, m, lb, rfl, ?_⟩
          subst hwd
          refine hcw _ _ ?_
          exact (fun p H' s' np hp => hr _ _ ⟨p, rfl, s', hp⟩)
        · have hwd : wd = "ring" := by
            rcases hw with e | e | e
            · exact absurd (decide_eq_true (by rw [e])) c
            · exact absurd (decide_eq_true (by rw [e])) c2
            · exact e
          refine ⟨_, rfl, _, rfl, _, rfl, _, rfl, fp, l, m, lb, rfl, ?_⟩
          subst hwd
          refine hcw _ _ ?_
          exact (fun p H' s' np hp => hr _ _ ⟨p, rfl, s', hp⟩)
    rintro σ14 H14 ⟨gp, rfl, s14, hgp⟩
    generalize hout : (List.range cs.length).map (fun n => outG wd (modeS lb) cs m l n) = out at hgp hdq13
    have hdq14 := s14 _ _ hdq13
    have hfp14 := s14 _ _ hfp13
    have hkp14 := s14 _ _ hkp
    refine ⟨_, rfl, _, _, _, _, true, rfl, .ty "list", .base (.lst hgp), kit_ty (by decide +kernel), _, rfl, iteT ?_⟩
    refine ⟨_, rfl, _, rfl, dI out, dI out, dp_ints (sq_of hgp), dp_ints (sq_of hdq14), shaped_ints _, shaped_ints _, _, rfl, ?_⟩
    rw [eqv_ints]
    refine iteT ?_
    refine ⟨_, rfl, _, rfl, dI cs, dI cs, dp_ints (sq_of hfp14), dp_ints (sq_of hkp14), shaped_ints _, shaped_ints _, _, rfl, ?_⟩
    rw [eqv_ints]
    refine iteT ?_
    refine ⟨_, rfl, gp, rfl, ⟨_, sq_of hgp⟩, fun Dn hD => lc_list (K := K) (a := gp) (xs := out.map V.int) (fun i H' => Same H14 H' ∧ H' Dn = some (.lst ((List.replicate i false).map V.bl))) ⟨same_upd hD, upd_same⟩ (fun i H' _ h => sq_of (h.1 _ _ hgp)) ?_ ?_⟩
    · rintro i x H' hi ⟨sm, hd⟩
      obtain ⟨z, hz, rfl⟩ := ints_of hi
      have hil := (List.getElem?_eq_some_iff.mp hz).1
      have hol : out.length ≤ 12 := by rw [← hout, List.length_map, List.length_range]; exact c12
      refine ⟨rfl, ?_⟩
      rw [tYes, if_pos rfl]
      refine ⟨_, rfl, _, _, _, _, false, rfl, .ty "bool", .base (.int z), kit_ty (by decide +kernel), _, hd, szl _ (by simp; omega), same_upd' sm hD, ?_⟩
      rw [upd_same, List.replicate_succ', List.map_append]
      rfl
    · rintro H' ⟨sm, hd⟩
      refine ⟨Dn, List.replicate (out.map V.int).length false, rfl, sq_of hd, _, rfl, ?_⟩
      have e : (List.replicate (out.map V.int).length false).any id = false := by
        generalize (out.map V.int).length = n
        induction n with
        | zero => rfl
        | succ j ih => rw [List.replicate_succ, List.any_cons, ih]; rfl
      rw [e]
      exact q H'
end
end SM

namespace SM
open PySem L2
theorem all_mk {l : PySem.W.OpenLaw} {w : World} {K : PySem.W.Frag} {h : Heap} {mg : Str → Option Value} {fa : Addr} (X : K.In h) (G : h.Ns mainGlobals mg) (hfa : mg "law" = some (.ref fa))
    {f0 : Addr} {oc0 kV0 dc0 pm0 cd0 ct0 : Value} {od0 an0 : Option Addr} {sl0 : Array (Option Value)}
    {f1 : Addr} {oc1 kV1 dc1 pm1 cd1 ct1 : Value} {od1 an1 : Option Addr} {sl1 : Array (Option Value)}
    {f2 : Addr} {oc2 kV2 dc2 pm2 cd2 ct2 : Value} {od2 an2 : Option Addr} {sl2 : Array (Option Value)}
    {f3 : Addr} {oc3 kV3 dc3 pm3 cd3 ct3 : Value} {od3 an3 : Option Addr} {sl3 : Array (Option Value)}
    {f4 : Addr} {oc4 kV4 dc4 pm4 cd4 ct4 : Value} {od4 an4 : Option Addr} {sl4 : Array (Option Value)}
    {f5 : Addr} {oc5 kV5 dc5 pm5 cd5 ct5 : Value} {od5 an5 : Option Addr} {sl5 : Array (Option Value)}
    {f6 : Addr} {oc6 kV6 dc6 pm6 cd6 ct6 : Value} {od6 an6 : Option Addr} {sl6 : Array (Option Value)}
    {f7 : Addr} {oc7 kV7 dc7 pm7 cd7 ct7 : Value} {od7 an7 : Option Addr} {sl7 : Array (Option Value)}
    {f8 : Addr} {oc8 kV8 dc8 pm8 cd8 ct8 : Value} {od8 an8 : Option Addr} {sl8 : Array (Option Value)}
    {f9 : Addr} {oc9 kV9 dc9 pm9 cd9 ct9 : Value} {od9 an9 : Option Addr} {sl9 : Array (Option Value)}
    {f10 : Addr} {oc10 kV10 dc10 pm10 cd10 ct10 : Value} {od10 an10 : Option Addr} {sl10 : Array (Option Value)}
    {f11 : Addr} {oc11 kV11 dc11 pm11 cd11 ct11 : Value} {od11 an11 : Option Addr} {sl11 : Array (Option Value)}
    {f12 : Addr} {oc12 kV12 dc12 pm12 cd12 ct12 : Value} {od12 an12 : Option Addr} {sl12 : Array (Option Value)}
    {f13 : Addr} {oc13 kV13 dc13 pm13 cd13 ct13 : Value} {od13 an13 : Option Addr} {sl13 : Array (Option Value)}
    {f14 : Addr} {oc14 kV14 dc14 pm14 cd14 ct14 : Value} {od14 an14 : Option Addr} {sl14 : Array (Option Value)}
    {f15 : Addr} {oc15 kV15 dc15 pm15 cd15 ct15 : Value} {od15 an15 : Option Addr} {sl15 : Array (Option Value)}
    {f16 : Addr} {oc16 kV16 dc16 pm16 cd16 ct16 : Value} {od16 an16 : Option Addr} {sl16 : Array (Option Value)}
    {f17 : Addr} {oc17 kV17 dc17 pm17 cd17 ct17 : Value} {od17 an17 : Option Addr} {sl17 : Array (Option Value)}
    {f18 : Addr} {oc18 kV18 dc18 pm18 cd18 ct18 : Value} {od18 an18 : Option Addr} {sl18 : Array (Option Value)}
    {f19 : Addr} {oc19 kV19 dc19 pm19 cd19 ct19 : Value} {od19 an19 : Option Addr} {sl19 : Array (Option Value)}
    {f20 : Addr} {oc20 kV20 dc20 pm20 cd20 ct20 : Value} {od20 an20 : Option Addr} {sl20 : Array (Option Value)}
    {f21 : Addr} {oc21 kV21 dc21 pm21 cd21 ct21 : Value} {od21 an21 : Option Addr} {sl21 : Array (Option Value)}
    {f22 : Addr} {oc22 kV22 dc22 pm22 cd22 ct22 : Value} {od22 an22 : Option Addr} {sl22 : Array (Option Value)}
    {cM aMW : Addr}
    {f100 : Addr} {oc100 kV100 dc100 pm100 cd100 ct100 : Value} {od100 an100 : Option Addr} {sl100 : Array (Option Value)}
    {f101 : Addr} {oc101 kV101 dc101 pm101 cd101 ct101 : Value} {od101 an101 : Option Addr} {sl101 : Array (Option Value)}
    {f102 : Addr} {oc102 kV102 dc102 pm102 cd102 ct102 : Value} {od102 an102 : Option Addr} {sl102 : Array (Option Value)}
    {f103 : Addr} {oc103 kV103 dc103 pm103 cd103 ct103 : Value} {od103 an103 : Option Addr} {sl103 : Array (Option Value)}
    {f104 : Addr} {oc104 kV104 dc104 pm104 cd104 ct104 : Value} {od104 an104 : Option Addr} {sl104 : Array (Option Value)}
    {f105 : Addr} {oc105 kV105 dc105 pm105 cd105 ct105 : Value} {od105 an105 : Option Addr} {sl105 : Array (Option Value)}
    {f106 : Addr} {oc106 kV106 dc106 pm106 cd106 ct106 : Value} {od106 an106 : Option Addr} {sl106 : Array (Option Value)}
    {f107 : Addr} {oc107 kV107 dc107 pm107 cd107 ct107 : Value} {od107 an107 : Option Addr} {sl107 : Array (Option Value)}
    {tL tU tR tM : Tok}
    {odm : Option Addr} {itm : Array Value} {nm : Nat} {slm : Array (Option Value)}
    (a0 : PySem.W.nsIn K mainGlobals "is_whole" = some (some (.ref f0)))
    (l0 : K.lookup f0 = some ⟨oc0, od0, .func (PySem.W.fnOf "is_whole" "is_whole" (defArgs s_is_whole) (defBody s_is_whole) (defScope s_is_whole) .none kV0 dc0 pm0 an0 cd0 ct0), sl0⟩) (c0 : PySem.W.codeIn K cd0 "is_whole" = true) (k0 : PySem.W.keepIn K (.ref f0) = true)
    (a1 : PySem.W.nsIn K mainGlobals "are_bounds" = some (some (.ref f1)))
    (l1 : K.lookup f1 = some ⟨oc1, od1, .func (PySem.W.fnOf "are_bounds" "are_bounds" (defArgs s_are_bounds) (defBody s_are_bounds) (defScope s_are_bounds) .none kV1 dc1 pm1 an1 cd1 ct1), sl1⟩) (c1 : PySem.W.codeIn K cd1 "are_bounds" = true) (k1 : PySem.W.keepIn K (.ref f1) = true)
    (a2 : PySem.W.nsIn K mainGlobals "more_than_one" = some (some (.ref f2)))
    (l2 : K.lookup f2 = some ⟨oc2, od2, .func (PySem.W.fnOf "more_than_one" "more_than_one" (defArgs s_more_than_one) (defBody s_more_than_one) (defScope s_more_than_one) .none kV2 dc2 pm2 an2 cd2 ct2), sl2⟩) (c2 : PySem.W.codeIn K cd2 "more_than_one" = true) (k2 : PySem.W.keepIn K (.ref f2) = true)
    (a3 : PySem.W.nsIn K mainGlobals "divisors" = some (some (.ref f3)))
    (l3 : K.lookup f3 = some ⟨oc3, od3, .func (PySem.W.fnOf "divisors" "divisors" (defArgs s_divisors) (defBody s_divisors) (defScope s_divisors) .none kV3 dc3 pm3 an3 cd3 ct3), sl3⟩) (c3 : PySem.W.codeIn K cd3 "divisors" = true) (k3 : PySem.W.keepIn K (.ref f3) = true)
    (a4 : PySem.W.nsIn K mainGlobals "totient" = some (some (.ref f4)))
    (l4 : K.lookup f4 = some ⟨oc4, od4, .func (PySem.W.fnOf "totient" "totient" (defArgs s_totient) (defBody s_totient) (defScope s_totient) .none kV4 dc4 pm4 an4 cd4 ct4), sl4⟩) (c4 : PySem.W.codeIn K cd4 "totient" = true) (k4 : PySem.W.keepIn K (.ref f4) = true)
    (a5 : PySem.W.nsIn K mainGlobals "mode_of" = some (some (.ref f5)))
    (l5 : K.lookup f5 = some ⟨oc5, od5, .func (PySem.W.fnOf "mode_of" "mode_of" (defArgs s_mode_of) (defBody s_mode_of) (defScope s_mode_of) .none kV5 dc5 pm5 an5 cd5 ct5), sl5⟩) (c5 : PySem.W.codeIn K cd5 "mode_of" = true) (k5 : PySem.W.keepIn K (.ref f5) = true)
    (a6 : PySem.W.nsIn K mainGlobals "ways_to_share" = some (some (.ref f6)))
    (l6 : K.lookup f6 = some ⟨oc6, od6, .func (PySem.W.fnOf "ways_to_share" "ways_to_share" (defArgs s_ways_to_share) (defBody s_ways_to_share) (defScope s_ways_to_share) .none kV6 dc6 pm6 an6 cd6 ct6), sl6⟩) (c6 : PySem.W.codeIn K cd6 "ways_to_share" = true) (k6 : PySem.W.keepIn K (.ref f6) = true)
    (a7 : PySem.W.nsIn K mainGlobals "pair_item" = some (some (.ref f7)))
    (l7 : K.lookup f7 = some ⟨oc7, od7, .func (PySem.W.fnOf "pair_item" "pair_item" (defArgs s_pair_item) (defBody s_pair_item) (defScope s_pair_item) .none kV7 dc7 pm7 an7 cd7 ct7), sl7⟩) (c7 : PySem.W.codeIn K cd7 "pair_item" = true) (k7 : PySem.W.keepIn K (.ref f7) = true)
    (a8 : PySem.W.nsIn K mainGlobals "check_counts" = some (some (.ref f8)))
    (l8 : K.lookup f8 = some ⟨oc8, od8, .func (PySem.W.fnOf "check_counts" "check_counts" (defArgs s_check_counts) (defBody s_check_counts) (defScope s_check_counts) .none kV8 dc8 pm8 an8 cd8 ct8), sl8⟩) (c8 : PySem.W.codeIn K cd8 "check_counts" = true) (k8 : PySem.W.keepIn K (.ref f8) = true)
    (a9 : PySem.W.nsIn K mainGlobals "pairs" = some (some (.ref f9)))
    (l9 : K.lookup f9 = some ⟨oc9, od9, .func (PySem.W.fnOf "pairs" "pairs" (defArgs s_pairs) (defBody s_pairs) (defScope s_pairs) .none kV9 dc9 pm9 an9 cd9 ct9), sl9⟩) (c9 : PySem.W.codeIn K cd9 "pairs" = true) (k9 : PySem.W.keepIn K (.ref f9) = true)
    (a10 : PySem.W.nsIn K mainGlobals "rows" = some (some (.ref f10)))
    (l10 : K.lookup f10 = some ⟨oc10, od10, .func (PySem.W.fnOf "rows" "rows" (defArgs s_rows) (defBody s_rows) (defScope s_rows) .none kV10 dc10 pm10 an10 cd10 ct10), sl10⟩) (c10 : PySem.W.codeIn K cd10 "rows" = true) (k10 : PySem.W.keepIn K (.ref f10) = true)
    (a11 : PySem.W.nsIn K mainGlobals "sets" = some (some (.ref f11)))
    (l11 : K.lookup f11 = some ⟨oc11, od11, .func (PySem.W.fnOf "sets" "sets" (defArgs s_sets) (defBody s_sets) (defScope s_sets) .none kV11 dc11 pm11 an11 cd11 ct11), sl11⟩) (c11 : PySem.W.codeIn K cd11 "sets" = true) (k11 : PySem.W.keepIn K (.ref f11) = true)
    (a12 : PySem.W.nsIn K mainGlobals "rings" = some (some (.ref f12)))
    (l12 : K.lookup f12 = some ⟨oc12, od12, .func (PySem.W.fnOf "rings" "rings" (defArgs s_rings) (defBody s_rings) (defScope s_rings) .none kV12 dc12 pm12 an12 cd12 ct12), sl12⟩) (c12 : PySem.W.codeIn K cd12 "rings" = true) (k12 : PySem.W.keepIn K (.ref f12) = true)
    (a13 : PySem.W.nsIn K mainGlobals "_counts_within" = some (some (.ref f13)))
    (l13 : K.lookup f13 = some ⟨oc13, od13, .func (PySem.W.fnOf "_counts_within" "_counts_within" (defArgs s__counts_within) (defBody s__counts_within) (defScope s__counts_within) .none kV13 dc13 pm13 an13 cd13 ct13), sl13⟩) (c13 : PySem.W.codeIn K cd13 "_counts_within" = true) (k13 : PySem.W.keepIn K (.ref f13) = true)
    (a14 : PySem.W.nsIn K mainGlobals "_law_draws" = some (some (.ref f14)))
    (l14 : K.lookup f14 = some ⟨oc14, od14, .func (PySem.W.fnOf "_law_draws" "_law_draws" (defArgs s__law_draws) (defBody s__law_draws) (defScope s__law_draws) .none kV14 dc14 pm14 an14 cd14 ct14), sl14⟩) (c14 : PySem.W.codeIn K cd14 "_law_draws" = true) (k14 : PySem.W.keepIn K (.ref f14) = true)
    (a15 : PySem.W.nsIn K mainGlobals "_law_binomial" = some (some (.ref f15)))
    (l15 : K.lookup f15 = some ⟨oc15, od15, .func (PySem.W.fnOf "_law_binomial" "_law_binomial" (defArgs s__law_binomial) (defBody s__law_binomial) (defScope s__law_binomial) .none kV15 dc15 pm15 an15 cd15 ct15), sl15⟩) (c15 : PySem.W.codeIn K cd15 "_law_binomial" = true) (k15 : PySem.W.keepIn K (.ref f15) = true)
    (a16 : PySem.W.nsIn K mainGlobals "_law_rows" = some (some (.ref f16)))
    (l16 : K.lookup f16 = some ⟨oc16, od16, .func (PySem.W.fnOf "_law_rows" "_law_rows" (defArgs s__law_rows) (defBody s__law_rows) (defScope s__law_rows) .none kV16 dc16 pm16 an16 cd16 ct16), sl16⟩) (c16 : PySem.W.codeIn K cd16 "_law_rows" = true) (k16 : PySem.W.keepIn K (.ref f16) = true)
    (a17 : PySem.W.nsIn K mainGlobals "_law_begun" = some (some (.ref f17)))
    (l17 : K.lookup f17 = some ⟨oc17, od17, .func (PySem.W.fnOf "_law_begun" "_law_begun" (defArgs s__law_begun) (defBody s__law_begun) (defScope s__law_begun) .none kV17 dc17 pm17 an17 cd17 ct17), sl17⟩) (c17 : PySem.W.codeIn K cd17 "_law_begun" = true) (k17 : PySem.W.keepIn K (.ref f17) = true)
    (a18 : PySem.W.nsIn K mainGlobals "_law_bag" = some (some (.ref f18)))
    (l18 : K.lookup f18 = some ⟨oc18, od18, .func (PySem.W.fnOf "_law_bag" "_law_bag" (defArgs s__law_bag) (defBody s__law_bag) (defScope s__law_bag) .none kV18 dc18 pm18 an18 cd18 ct18), sl18⟩) (c18 : PySem.W.codeIn K cd18 "_law_bag" = true) (k18 : PySem.W.keepIn K (.ref f18) = true)
    (a19 : PySem.W.nsIn K mainGlobals "_law_common" = some (some (.ref f19)))
    (l19 : K.lookup f19 = some ⟨oc19, od19, .func (PySem.W.fnOf "_law_common" "_law_common" (defArgs s__law_common) (defBody s__law_common) (defScope s__law_common) .none kV19 dc19 pm19 an19 cd19 ct19), sl19⟩) (c19 : PySem.W.codeIn K cd19 "_law_common" = true) (k19 : PySem.W.keepIn K (.ref f19) = true)
    (a20 : PySem.W.nsIn K mainGlobals "_law_turned" = some (some (.ref f20)))
    (l20 : K.lookup f20 = some ⟨oc20, od20, .func (PySem.W.fnOf "_law_turned" "_law_turned" (defArgs s__law_turned) (defBody s__law_turned) (defScope s__law_turned) .none kV20 dc20 pm20 an20 cd20 ct20), sl20⟩) (c20 : PySem.W.codeIn K cd20 "_law_turned" = true) (k20 : PySem.W.keepIn K (.ref f20) = true)
    (a21 : PySem.W.nsIn K mainGlobals "_law_members" = some (some (.ref f21)))
    (l21 : K.lookup f21 = some ⟨oc21, od21, .func (PySem.W.fnOf "_law_members" "_law_members" (defArgs s__law_members) (defBody s__law_members) (defScope s__law_members) .none kV21 dc21 pm21 an21 cd21 ct21), sl21⟩) (c21 : PySem.W.codeIn K cd21 "_law_members" = true) (k21 : PySem.W.keepIn K (.ref f21) = true)
    (a22 : PySem.W.nsIn K mainGlobals "law" = some (some (.ref f22)))
    (l22 : K.lookup f22 = some ⟨oc22, od22, .func (PySem.W.fnOf "law" "law" (defArgs s_law) (defBody s_law) (defScope s_law) .none kV22 dc22 pm22 an22 cd22 ct22), sl22⟩) (c22 : PySem.W.codeIn K cd22 "law" = true) (k22 : PySem.W.keepIn K (.ref f22) = true)
    (a100 : PySem.W.findIn K (.ref cM) "__init__" = some (some (.ref f100))) (i100 : PySem.W.isFn K (.ref f100) = true)
    (l100 : K.lookup f100 = some ⟨oc100, od100, .func (PySem.W.fnOf "__init__" "Members.__init__" (defArgs s_Members_init) (defBody s_Members_init) (defScope s_Members_init) .none kV100 dc100 pm100 an100 cd100 ct100), sl100⟩) (c100 : PySem.W.codeIn K cd100 "Members.__init__" = true) (k100 : PySem.W.keepIn K (.ref f100) = true)
    (a101 : PySem.W.findIn K (.ref cM) "grow" = some (some (.ref f101))) (i101 : PySem.W.isFn K (.ref f101) = true)
    (l101 : K.lookup f101 = some ⟨oc101, od101, .func (PySem.W.fnOf "grow" "Members.grow" (defArgs s_Members_grow) (defBody s_Members_grow) (defScope s_Members_grow) .none kV101 dc101 pm101 an101 cd101 ct101), sl101⟩) (c101 : PySem.W.codeIn K cd101 "Members.grow" = true) (k101 : PySem.W.keepIn K (.ref f101) = true)
    (a102 : PySem.W.findIn K (.ref cM) "shared_counts" = some (some (.ref f102))) (i102 : PySem.W.isFn K (.ref f102) = true)
    (l102 : K.lookup f102 = some ⟨oc102, od102, .func (PySem.W.fnOf "shared_counts" "Members.shared_counts" (defArgs s_Members_shared_counts) (defBody s_Members_shared_counts) (defScope s_Members_shared_counts) .none kV102 dc102 pm102 an102 cd102 ct102), sl102⟩) (c102 : PySem.W.codeIn K cd102 "Members.shared_counts" = true) (k102 : PySem.W.keepIn K (.ref f102) = true)
    (a103 : PySem.W.findIn K (.ref cM) "next_rows" = some (some (.ref f103))) (i103 : PySem.W.isFn K (.ref f103) = true)
    (l103 : K.lookup f103 = some ⟨oc103, od103, .func (PySem.W.fnOf "next_rows" "Members.next_rows" (defArgs s_Members_next_rows) (defBody s_Members_next_rows) (defScope s_Members_next_rows) .none kV103 dc103 pm103 an103 cd103 ct103), sl103⟩) (c103 : PySem.W.codeIn K cd103 "Members.next_rows" = true) (k103 : PySem.W.keepIn K (.ref f103) = true)
    (a104 : PySem.W.findIn K (.ref cM) "next_sets" = some (some (.ref f104))) (i104 : PySem.W.isFn K (.ref f104) = true)
    (l104 : K.lookup f104 = some ⟨oc104, od104, .func (PySem.W.fnOf "next_sets" "Members.next_sets" (defArgs s_Members_next_sets) (defBody s_Members_next_sets) (defScope s_Members_next_sets) .none kV104 dc104 pm104 an104 cd104 ct104), sl104⟩) (c104 : PySem.W.codeIn K cd104 "Members.next_sets" = true) (k104 : PySem.W.keepIn K (.ref f104) = true)
    (a105 : PySem.W.findIn K (.ref cM) "exactly" = some (some (.ref f105))) (i105 : PySem.W.isFn K (.ref f105) = true)
    (l105 : K.lookup f105 = some ⟨oc105, od105, .func (PySem.W.fnOf "exactly" "Members.exactly" (defArgs s_Members_exactly) (defBody s_Members_exactly) (defScope s_Members_exactly) .none kV105 dc105 pm105 an105 cd105 ct105), sl105⟩) (c105 : PySem.W.codeIn K cd105 "Members.exactly" = true) (k105 : PySem.W.keepIn K (.ref f105) = true)
    (a106 : PySem.W.findIn K (.ref cM) "rings" = some (some (.ref f106))) (i106 : PySem.W.isFn K (.ref f106) = true)
    (l106 : K.lookup f106 = some ⟨oc106, od106, .func (PySem.W.fnOf "rings" "Members.rings" (defArgs s_Members_rings) (defBody s_Members_rings) (defScope s_Members_rings) .none kV106 dc106 pm106 an106 cd106 ct106), sl106⟩) (c106 : PySem.W.codeIn K cd106 "Members.rings" = true) (k106 : PySem.W.keepIn K (.ref f106) = true)
    (a107 : PySem.W.findIn K (.ref cM) "within" = some (some (.ref f107))) (i107 : PySem.W.isFn K (.ref f107) = true)
    (l107 : K.lookup f107 = some ⟨oc107, od107, .func (PySem.W.fnOf "within" "Members.within" (defArgs s_Members_within) (defBody s_Members_within) (defScope s_Members_within) .none kV107 dc107 pm107 an107 cd107 ct107), sl107⟩) (c107 : PySem.W.codeIn K cd107 "Members.within" = true) (k107 : PySem.W.keepIn K (.ref f107) = true)
    (n_isinstance : PySem.W.nsIn K mainGlobals "isinstance" = some none)
    (n_int : PySem.W.nsIn K mainGlobals "int" = some none)
    (n_bool : PySem.W.nsIn K mainGlobals "bool" = some none)
    (n_list : PySem.W.nsIn K mainGlobals "list" = some none)
    (n_len : PySem.W.nsIn K mainGlobals "len" = some none)
    (n_abs : PySem.W.nsIn K mainGlobals "abs" = some none)
    (n_any : PySem.W.nsIn K mainGlobals "any" = some none)
    (n_sum : PySem.W.nsIn K mainGlobals "sum" = some none)
    (n_range : PySem.W.nsIn K mainGlobals "range" = some none)
    (n_max : PySem.W.nsIn K mainGlobals "max" = some none)
    (n_min : PySem.W.nsIn K mainGlobals "min" = some none)
    (n_ValueError : PySem.W.nsIn K mainGlobals "ValueError" = some none)
    (m_comb : PySem.W.nsIn K mainGlobals "comb" = some (some (.builtin "math.comb")))
    (m_factorial : PySem.W.nsIn K mainGlobals "factorial" = some (some (.builtin "math.factorial")))
    (m_gcd : PySem.W.nsIn K mainGlobals "gcd" = some (some (.builtin "math.gcd")))
    (g_LABELLED : PySem.W.nsIn K mainGlobals "LABELLED" = some (some (.str "labelled" tL)))
    (g_UNLABELLED : PySem.W.nsIn K mainGlobals "UNLABELLED" = some (some (.str "unlabelled" tU)))
    (g_RIGID : PySem.W.nsIn K mainGlobals "RIGID" = some (some (.str "rigid" tR)))
    (g_MOST_ITEMS : PySem.W.nsIn K mainGlobals "MOST_ITEMS" = some (some (.int 61 tM)))
    (aMWn : PySem.W.nsIn K mainGlobals "MEMBER_WORDS" = some (some (.ref aMW))) (aMWl : K.lookup aMW = some ⟨.type "tuple", odm, .seq itm nm, slm⟩) (aMWv : Vals [.str "row", .str "set", .str "ring"] itm.toList)
    (g_Members : PySem.W.nsIn K mainGlobals "Members" = some (some (.ref cM)))
    (M_pg : PySem.W.plainGet K cM Str.empty = true) (M_hd : PySem.W.hasDictIn K cM = true) (M_po : PySem.W.plainOver K cM = true) (M_sa : PySem.W.findIn K (.ref cM) "__setattr__" = some (some (.builtin "object.__setattr__"))) (M_mk : PySem.W.makesIn K cM = true) (M_kc : PySem.W.keepIn K (.ref cM) = true)
    (M_word : PySem.W.findIn K (.ref cM) "word" = some none)
    (M_most : PySem.W.findIn K (.ref cM) "most" = some none)
    (M_counts : PySem.W.findIn K (.ref cM) "counts" = some none)
    (M_mode : PySem.W.findIn K (.ref cM) "mode" = some none)
    (M_table : PySem.W.findIn K (.ref cM) "table" = some none) :
    ∃ fd : FuncData, (∀ (s : Shared) (v : Value), BindsTo s fd ⟨[v], []⟩ [("script", v)]) ∧ ∀ base : Heap, K.In base → base.Ns mainGlobals mg → FnOk l.prog w K mg base CX0 19 fa fd ["script"] (spLaw K) := by
  have e := hfa.symm.trans (PySem.W.mg_of X G a22)
  cases e
  have F0 := fun_mk (st := s_is_whole) l0 c0 k0
  have D0 : Df K mg "is_whole" s_is_whole ["value"] := ⟨f0, _, PySem.W.mg_of X G a0, F0, F0.binds (ps := ["value"]) fun _ _ _ _ _ _ us hl => match us, hl with | [_], _ => rfl⟩
  have F1 := fun_mk (st := s_are_bounds) l1 c1 k1
  have D1 : Df K mg "are_bounds" s_are_bounds ["word", "least", "most"] := ⟨f1, _, PySem.W.mg_of X G a1, F1, F1.binds (ps := ["word", "least", "most"]) fun _ _ _ _ _ _ us hl => match us, hl with | [_, _, _], _ => rfl⟩
  have F2 := fun_mk (st := s_more_than_one) l2 c2 k2
  have D2 : Df K mg "more_than_one" s_more_than_one ["most"] := ⟨f2, _, PySem.W.mg_of X G a2, F2, F2.binds (ps := ["most"]) fun _ _ _ _ _ _ us hl => match us, hl with | [_], _ => rfl⟩
  have F3 := fun_mk (st := s_divisors) l3 c3 k3
  have D3 : Df K mg "divisors" s_divisors ["number"] := ⟨f3, _, PySem.W.mg_of X G a3, F3, F3.binds (ps := ["number"]) fun _ _ _ _ _ _ us hl => match us, hl with | [_], _ => rfl⟩
  have F4 := fun_mk (st := s_totient) l4 c4 k4
  have D4 : Df K mg "totient" s_totient ["number"] := ⟨f4, _, PySem.W.mg_of X G a4, F4, F4.binds (ps := ["number"]) fun _ _ _ _ _ _ us hl => match us, hl with | [_], _ => rfl⟩
  have F5 := fun_mk (st := s_mode_of) l5 c5 k5
  have D5 : Df K mg "mode_of" s_mode_of ["labelled"] := ⟨f5, _, PySem.W.mg_of X G a5, F5, F5.binds (ps := ["labelled"]) fun _ _ _ _ _ _ us hl => match us, hl with | [_], _ => rfl⟩
  have F6 := fun_mk (st := s_ways_to_share) l6 c6 k6
  have D6 : Df K mg "ways_to_share" s_ways_to_share ["first", "size", "mode"] := ⟨f6, _, PySem.W.mg_of X G a6, F6, F6.binds (ps := ["first", "size", "mode"]) fun _ _ _ _ _ _ us hl => match us, hl with | [_, _, _], _ => rfl⟩
  have F7 := fun_mk (st := s_pair_item) l7 c7 k7
  have D7 : Df K mg "pair_item" s_pair_item ["first", "second", "size", "mode"] := ⟨f7, _, PySem.W.mg_of X G a7, F7, F7.binds (ps := ["first", "second", "size", "mode"]) fun _ _ _ _ _ _ us hl => match us, hl with | [_, _, _, _], _ => rfl⟩
  have F8 := fun_mk (st := s_check_counts) l8 c8 k8
  have D8 : Df K mg "check_counts" s_check_counts ["counts"] := ⟨f8, _, PySem.W.mg_of X G a8, F8, F8.binds (ps := ["counts"]) fun _ _ _ _ _ _ us hl => match us, hl with | [_], _ => rfl⟩
  have F9 := fun_mk (st := s_pairs) l9 c9 k9
  have D9 : Df K mg "pairs" s_pairs ["first", "second", "labelled"] := ⟨f9, _, PySem.W.mg_of X G a9, F9, F9.binds (ps := ["first", "second", "labelled"]) fun _ _ _ _ _ _ us hl => match us, hl with | [_, _, _], _ => rfl⟩
  have F10 := fun_mk (st := s_rows) l10 c10 k10
  have D10 : Df K mg "rows" s_rows ["counts", "least", "most", "labelled"] := ⟨f10, _, PySem.W.mg_of X G a10, F10, F10.binds (ps := ["counts", "least", "most", "labelled"]) fun _ _ _ _ _ _ us hl => match us, hl with | [_, _, _, _], _ => rfl⟩
  have F11 := fun_mk (st := s_sets) l11 c11 k11
  have D11 : Df K mg "sets" s_sets ["counts", "least", "most", "labelled"] := ⟨f11, _, PySem.W.mg_of X G a11, F11, F11.binds (ps := ["counts", "least", "most", "labelled"]) fun _ _ _ _ _ _ us hl => match us, hl with | [_, _, _, _], _ => rfl⟩
  have F12 := fun_mk (st := s_rings) l12 c12 k12
  have D12 : Df K mg "rings" s_rings ["counts", "least", "most", "labelled"] := ⟨f12, _, PySem.W.mg_of X G a12, F12, F12.binds (ps := ["counts", "least", "most", "labelled"]) fun _ _ _ _ _ _ us hl => match us, hl with | [_, _, _, _], _ => rfl⟩
  have F13 := fun_mk (st := s__counts_within) l13 c13 k13
  have D13 : Df K mg "_counts_within" s__counts_within ["word", "counts", "least", "most", "labelled"] := ⟨f13, _, PySem.W.mg_of X G a13, F13, F13.binds (ps := ["word", "counts", "least", "most", "labelled"]) fun _ _ _ _ _ _ us hl => match us, hl with | [_, _, _, _, _], _ => rfl⟩
  have F14 := fun_mk (st := s__law_draws) l14 c14 k14
  have D14 : Df K mg "_law_draws" s__law_draws ["script", "many"] := ⟨f14, _, PySem.W.mg_of X G a14, F14, F14.binds (ps := ["script", "many"]) fun _ _ _ _ _ _ us hl => match us, hl with | [_, _], _ => rfl⟩
  have F15 := fun_mk (st := s__law_binomial) l15 c15 k15
  have D15 : Df K mg "_law_binomial" s__law_binomial ["n", "k"] := ⟨f15, _, PySem.W.mg_of X G a15, F15, F15.binds (ps := ["n", "k"]) fun _ _ _ _ _ _ us hl => match us, hl with | [_, _], _ => rfl⟩
  have F16 := fun_mk (st := s__law_rows) l16 c16 k16
  have D16 : Df K mg "_law_rows" s__law_rows ["counts", "members", "labelled"] := ⟨f16, _, PySem.W.mg_of X G a16, F16, F16.binds (ps := ["counts", "members", "labelled"]) fun _ _ _ _ _ _ us hl => match us, hl with | [_, _, _], _ => rfl⟩
  have F17 := fun_mk (st := s__law_begun) l17 c17 k17
  have D17 : Df K mg "_law_begun" s__law_begun ["counts", "rest"] := ⟨f17, _, PySem.W.mg_of X G a17, F17, F17.binds (ps := ["counts", "rest"]) fun _ _ _ _ _ _ us hl => match us, hl with | [_, _], _ => rfl⟩
  have F18 := fun_mk (st := s__law_bag) l18 c18 k18
  have D18 : Df K mg "_law_bag" s__law_bag ["counts", "most"] := ⟨f18, _, PySem.W.mg_of X G a18, F18, F18.binds (ps := ["counts", "most"]) fun _ _ _ _ _ _ us hl => match us, hl with | [_, _], _ => rfl⟩
  have F19 := fun_mk (st := s__law_common) l19 c19 k19
  have D19 : Df K mg "_law_common" s__law_common ["a", "b"] := ⟨f19, _, PySem.W.mg_of X G a19, F19, F19.binds (ps := ["a", "b"]) fun _ _ _ _ _ _ us hl => match us, hl with | [_, _], _ => rfl⟩
  have F20 := fun_mk (st := s__law_turned) l20 c20 k20
  have D20 : Df K mg "_law_turned" s__law_turned ["counts", "members"] := ⟨f20, _, PySem.W.mg_of X G a20, F20, F20.binds (ps := ["counts", "members"]) fun _ _ _ _ _ _ us hl => match us, hl with | [_, _], _ => rfl⟩
  have F21 := fun_mk (st := s__law_members) l21 c21 k21
  have D21 : Df K mg "_law_members" s__law_members ["counts", "word", "m", "labelled"] := ⟨f21, _, PySem.W.mg_of X G a21, F21, F21.binds (ps := ["counts", "word", "m", "labelled"]) fun _ _ _ _ _ _ us hl => match us, hl with | [_, _, _, _], _ => rfl⟩
  have F22 := fun_mk (st := s_law) l22 c22 k22
  have F100 := fun_mk (st := s_Members_init) l100 c100 k100
  have D100 : DfM K cM "__init__" "Members.__init__" s_Members_init ["self", "word", "most", "counts", "mode"] := ⟨f100, _, ⟨a100, i100, k100⟩, F100, F100.binds (ps := ["self", "word", "most", "counts", "mode"]) fun _ _ _ _ _ _ us hl => match us, hl with | [_, _, _, _, _], _ => rfl⟩
  have F101 := fun_mk (st := s_Members_grow) l101 c101 k101
  have D101 : DfM K cM "grow" "Members.grow" s_Members_grow ["self"] := ⟨f101, _, ⟨a101, i101, k101⟩, F101, F101.binds (ps := ["self"]) fun _ _ _ _ _ _ us hl => match us, hl with | [_], _ => rfl⟩
  have F102 := fun_mk (st := s_Members_shared_counts) l102 c102 k102
  have D102 : DfM K cM "shared_counts" "Members.shared_counts" s_Members_shared_counts ["self", "size"] := ⟨f102, _, ⟨a102, i102, k102⟩, F102, F102.binds (ps := ["self", "size"]) fun _ _ _ _ _ _ us hl => match us, hl with | [_, _], _ => rfl⟩
  have F103 := fun_mk (st := s_Members_next_rows) l103 c103 k103
  have D103 : DfM K cM "next_rows" "Members.next_rows" s_Members_next_rows ["self", "shared", "members", "size"] := ⟨f103, _, ⟨a103, i103, k103⟩, F103, F103.binds (ps := ["self", "shared", "members", "size"]) fun _ _ _ _ _ _ us hl => match us, hl with | [_, _, _, _], _ => rfl⟩
  have F104 := fun_mk (st := s_Members_next_sets) l104 c104 k104
  have D104 : DfM K cM "next_sets" "Members.next_sets" s_Members_next_sets ["self", "members", "size"] := ⟨f104, _, ⟨a104, i104, k104⟩, F104, F104.binds (ps := ["self", "members", "size"]) fun _ _ _ _ _ _ us hl => match us, hl with | [_, _, _], _ => rfl⟩
  have F105 := fun_mk (st := s_Members_exactly) l105 c105 k105
  have D105 : DfM K cM "exactly" "Members.exactly" s_Members_exactly ["self", "members", "size"] := ⟨f105, _, ⟨a105, i105, k105⟩, F105, F105.binds (ps := ["self", "members", "size"]) fun _ _ _ _ _ _ us hl => match us, hl with | [_, _, _], _ => rfl⟩
  have F106 := fun_mk (st := s_Members_rings) l106 c106 k106
  have D106 : DfM K cM "rings" "Members.rings" s_Members_rings ["self", "members", "size"] := ⟨f106, _, ⟨a106, i106, k106⟩, F106, F106.binds (ps := ["self", "members", "size"]) fun _ _ _ _ _ _ us hl => match us, hl with | [_, _, _], _ => rfl⟩
  have F107 := fun_mk (st := s_Members_within) l107 c107 k107
  have D107 : DfM K cM "within" "Members.within" s_Members_within ["self", "least", "most", "size"] := ⟨f107, _, ⟨a107, i107, k107⟩, F107, F107.binds (ps := ["self", "least", "most", "size"]) fun _ _ _ _ _ _ us hl => match us, hl with | [_, _, _, _], _ => rfl⟩
  have sizeMW : itm.size ≤ sizeLine := by
    have := aMWv.length
    have e : itm.size = 3 := by rw [← Array.length_toList]; exact this.symm
    rw [e]
    exact sz _ (by decide)
  have T : Tx K mg ⟨cM, aMW, .str "labelled" tL, .str "unlabelled" tU, .str "rigid" tR, .int 61 tM⟩ := ⟨PySem.W.mg_none_of X G n_isinstance, PySem.W.mg_none_of X G n_int, PySem.W.mg_none_of X G n_bool, PySem.W.mg_none_of X G n_list, PySem.W.mg_none_of X G n_len, PySem.W.mg_none_of X G n_abs, PySem.W.mg_none_of X G n_any, PySem.W.mg_none_of X G n_sum, PySem.W.mg_none_of X G n_range, PySem.W.mg_none_of X G n_max, PySem.W.mg_none_of X G n_min, PySem.W.mg_none_of X G n_ValueError, PySem.W.mg_of X G m_comb, PySem.W.mg_of X G m_factorial, PySem.W.mg_of X G m_gcd, PySem.W.mg_of X G g_LABELLED, ⟨_, rfl⟩, PySem.W.mg_of X G g_UNLABELLED, ⟨_, rfl⟩, PySem.W.mg_of X G g_RIGID, ⟨_, rfl⟩, PySem.W.mg_of X G g_MOST_ITEMS, ⟨_, rfl⟩, PySem.W.mg_of X G aMWn, rfl, fun H => .inr ⟨_, itm, nm, aMWl, rfl, rfl, sizeMW, aMWv⟩, PySem.W.mg_of X G g_Members, ⟨M_pg, M_hd, M_po, M_sa⟩, M_word, M_most, M_counts, M_mode, M_table⟩
  refine ⟨PySem.W.fnOf "law" "law" (defArgs s_law) (defBody s_law) (defScope s_law) .none kV22 dc22 pm22 an22 cd22 ct22, fun s v => .of_eq rfl, fun base _ _ => ?_⟩
  have c1 := ok_is_whole (P := l.prog) (w := w) (base := base) T D0
  have c2 := ok_are_bounds T D1 c1
  have c3 := ok_more (P := l.prog) (w := w) (base := base) T D2
  have c4 := ok_mode (P := l.prog) (w := w) (base := base) T D5
  have c5 := ok_check T D8 c1
  have c6 := ok_divisors (P := l.prog) (w := w) (base := base) T D3
  have c7 := ok_totient (P := l.prog) (w := w) (base := base) T D4
  have c8 := ok_share (P := l.prog) (w := w) (base := base) T D6
  have c9 := ok_init (P := l.prog) (w := w) (base := base) (mg := mg) T D100
  have c10 := ok_shared T D102 c8
  have c11 := ok_nextRows (P := l.prog) (w := w) (base := base) T D103
  have c11b := ok_nextSets (P := l.prog) (w := w) (base := base) T D104
  have c12 := ok_grow T D101 c10 c11 c11b
  have c13 := ok_rings0 T D106 c6 c7
  have c14 := ok_exactly T D105 c13
  have c15 := ok_within T D107 c14
  obtain ⟨fi, fdi, mi, bi, gi⟩ := c9.ex
  have c16 := ok_CW T D13 c5 c2 c3 c4 ⟨fi, ⟨M_mk, mi.at_, mi.fn, M_kc⟩, fdi, bi, gi⟩ c12 c15
  have c17 := ok_rows D10 c16
  have c18 := ok_sets D11 c16
  have c19 := ok_rings D12 c16
  have c20 := ok_pair_item T D7 c8
  have c21 := ok_pairs T D9 c5 c20 c4
  have c22 := ok_draws (P := l.prog) (w := w) (base := base) T D14
  have c23 := ok_bin (P := l.prog) (w := w) (base := base) T D15
  have c24 := ok_lrows T D16 c23
  have c25 := ok_begun T D17 c23
  have c26 := ok_common (P := l.prog) (w := w) (base := base) T D19
  have c27 := ok_turned T D20 c26 c24
  have c28 := ok_bag T D18 c23
  have c29 := ok_members T D21 c24 c25 c27 c28 14
  exact ok_law T F22 c22 c21 c23 c29 c17 c18 c19
theorem walk {l : PySem.W.OpenLaw} {q : Program} {loose : List Str} {XP : (Str → Option Value) → Heap → Prop} {YP : World → Heap → Prop} {d : DefRec} {K : Params → PySem.W.Frag} (hn : l.most = some 63) (hdf : d.params.defaults = [])
    (hY : ∀ (w : World) (h : Heap), YP w h → (K w.params).In h)
    (F : ∀ (w : World) (mg : Str → Option Value) (fa : Addr) (h : Heap), (K w.params).In h → h.Ns mainGlobals mg → mg d.name = some (.ref fa) →
      ∃ fd : FuncData, (∀ (s : Shared) (u : Value), BindsTo s fd ⟨[u], []⟩ [("script", u)]) ∧ ∀ base : Heap, (K w.params).In base → base.Ns mainGlobals mg → FnOk l.prog w (K w.params) mg base CX0 19 fa fd ["script"] (spLaw (K w.params))) :
    PySem.W.WalkO q loose XP YP l.row.toRowW d [] (fun f vs => PySem.call f vs) :=
  L2.walk_of (n := 63) (k := 19) (x := "script") (CX := fun _ => CX0) (sp := fun w => spLaw (K w.params)) hn (by decide) hdf ⟨rfl, by decide, by decide⟩ hY F (fun _ _ a ns hl _ hS => ⟨a, ns, rfl, hS, hl, fun _ => rfl⟩) fun _ _ _ _ _ z => z
end SM

open PySem PySem.W PyProof.Rows
set_option maxRecDepth 100000 in
set_option maxHeartbeats 0 in
theorem PySem.Challenge.cw_speciesmill_k20_pairs_rows_sets_rings_holds : PySem.Challenge.rw_speciesmill_k20_pairs_rows_sets_rings.Holds := by
  w_on; o_law; k_head; (case hw => w_witness2)
  k_fill
  refine SM.walk (l := PySem.Challenge.rw_speciesmill_k20_pairs_rows_sets_rings) rfl rfl (fun w h Y => PySem.W.kIn_of Y) ?F
  case F =>
    intro w mg fa h KX G hmg
    refine' SM.all_mk KX G hmg ?a0 ?l0 ?c0 ?k0 ?a1 ?l1 ?c1 ?k1 ?a2 ?l2 ?c2 ?k2 ?a3 ?l3 ?c3 ?k3 ?a4 ?l4 ?c4 ?k4 ?a5 ?l5 ?c5 ?k5 ?a6 ?l6 ?c6 ?k6 ?a7 ?l7 ?c7 ?k7 ?a8 ?l8 ?c8 ?k8 ?a9 ?l9 ?c9 ?k9 ?a10 ?l10 ?c10 ?k10 ?a11 ?l11 ?c11 ?k11 ?a12 ?l12 ?c12 ?k12 ?a13 ?l13 ?c13 ?k13 ?a14 ?l14 ?c14 ?k14 ?a15 ?l15 ?c15 ?k15 ?a16 ?l16 ?c16 ?k16 ?a17 ?l17 ?c17 ?k17 ?a18 ?l18 ?c18 ?k18 ?a19 ?l19 ?c19 ?k19 ?a20 ?l20 ?c20 ?k20 ?a21 ?l21 ?c21 ?k21 ?a22 ?l22 ?c22 ?k22 ?a100 ?i100 ?l100 ?c100 ?k100 ?a101 ?i101 ?l101 ?c101 ?k101 ?a102 ?i102 ?l102 ?c102 ?k102 ?a103 ?i103 ?l103 ?c103 ?k103 ?a104 ?i104 ?l104 ?c104 ?k104 ?a105 ?i105 ?l105 ?c105 ?k105 ?a106 ?i106 ?l106 ?c106 ?k106 ?a107 ?i107 ?l107 ?c107 ?k107 ?n_isinstance ?n_int ?n_bool ?n_list ?n_len ?n_abs ?n_any ?n_sum ?n_range ?n_max ?n_min ?n_ValueError ?m_comb ?m_factorial ?m_gcd ?g_LABELLED ?g_UNLABELLED ?g_RIGID ?g_MOST_ITEMS ?aMWn ?aMWl ?aMWv ?g_Members ?M_pg ?M_hd ?M_po ?M_sa ?M_mk ?M_kc ?M_word ?M_most ?M_counts ?M_mode ?M_table
    (case g_Members => k_is); (case aMWn => k_is); (case a0 => k_is); (case l0 => k_is); (case c0 => k_is); (case k0 => k_is); (case a1 => k_is); (case l1 => k_is)
    (case c1 => k_is); (case k1 => k_is); (case a2 => k_is); (case l2 => k_is); (case c2 => k_is); (case k2 => k_is); (case a3 => k_is); (case l3 => k_is)
    (case c3 => k_is); (case k3 => k_is); (case a4 => k_is); (case l4 => k_is); (case c4 => k_is); (case k4 => k_is); (case a5 => k_is); (case l5 => k_is)
    (case c5 => k_is); (case k5 => k_is); (case a6 => k_is); (case l6 => k_is); (case c6 => k_is); (case k6 => k_is); (case a7 => k_is); (case l7 => k_is)
    (case c7 => k_is); (case k7 => k_is); (case a8 => k_is); (case l8 => k_is); (case c8 => k_is); (case k8 => k_is); (case a9 => k_is); (case l9 => k_is)
    (case c9 => k_is); (case k9 => k_is); (case a10 => k_is); (case l10 => k_is); (case c10 => k_is); (case k10 => k_is); (case a11 => k_is); (case l11 => k_is)
    (case c11 => k_is); (case k11 => k_is); (case a12 => k_is); (case l12 => k_is); (case c12 => k_is); (case k12 => k_is); (case a13 => k_is); (case l13 => k_is)
    (case c13 => k_is); (case k13 => k_is); (case a14 => k_is); (case l14 => k_is); (case c14 => k_is); (case k14 => k_is); (case a15 => k_is); (case l15 => k_is)
    (case c15 => k_is); (case k15 => k_is); (case a16 => k_is); (case l16 => k_is); (case c16 => k_is); (case k16 => k_is); (case a17 => k_is); (case l17 => k_is)
    (case c17 => k_is); (case k17 => k_is); (case a18 => k_is); (case l18 => k_is); (case c18 => k_is); (case k18 => k_is); (case a19 => k_is); (case l19 => k_is)
    (case c19 => k_is); (case k19 => k_is); (case a20 => k_is); (case l20 => k_is); (case c20 => k_is); (case k20 => k_is); (case a21 => k_is); (case l21 => k_is)
    (case c21 => k_is); (case k21 => k_is); (case a22 => k_is); (case l22 => k_is); (case c22 => k_is); (case k22 => k_is); (case a100 => k_is); (case i100 => k_is)
    (case l100 => k_is); (case c100 => k_is); (case k100 => k_is); (case a101 => k_is); (case i101 => k_is); (case l101 => k_is); (case c101 => k_is); (case k101 => k_is)
    (case a102 => k_is); (case i102 => k_is); (case l102 => k_is); (case c102 => k_is); (case k102 => k_is); (case a103 => k_is); (case i103 => k_is); (case l103 => k_is)
    (case c103 => k_is); (case k103 => k_is); (case a104 => k_is); (case i104 => k_is); (case l104 => k_is); (case c104 => k_is); (case k104 => k_is); (case a105 => k_is)
    (case i105 => k_is); (case l105 => k_is); (case c105 => k_is); (case k105 => k_is); (case a106 => k_is); (case i106 => k_is); (case l106 => k_is); (case c106 => k_is)
    (case k106 => k_is); (case a107 => k_is); (case i107 => k_is); (case l107 => k_is); (case c107 => k_is); (case k107 => k_is); (case n_isinstance => k_is); (case n_int => k_is)
    (case n_bool => k_is); (case n_list => k_is); (case n_len => k_is); (case n_abs => k_is); (case n_any => k_is); (case n_sum => k_is); (case n_range => k_is); (case n_max => k_is)
    (case n_min => k_is); (case n_ValueError => k_is); (case m_comb => k_is); (case m_factorial => k_is); (case m_gcd => k_is); (case g_LABELLED => k_is); (case g_UNLABELLED => k_is); (case g_RIGID => k_is)
    (case g_MOST_ITEMS => k_is); (case aMWl => k_is); (case aMWv => exact .cons ⟨_, rfl⟩ (.cons ⟨_, rfl⟩ (.cons ⟨_, rfl⟩ .nil))); (case M_pg => k_is); (case M_hd => k_is); (case M_po => k_is); (case M_sa => k_is); (case M_mk => k_is)
    (case M_kc => k_is); (case M_word => k_is); (case M_most => k_is); (case M_counts => k_is); (case M_mode => k_is); (case M_table => k_is)
#print axioms PySem.Challenge.cw_speciesmill_k20_pairs_rows_sets_rings_holds

