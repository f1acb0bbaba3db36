import PyProof.Rows.All
import Wide.All
import OpenK.AllK
import Wide.FinOn
import HandS.Base
import HandS.Call
import HandS.List
import HandS.Comp
import HandS.Ends
import HandS.Dict
import HandS.Iter
import HandS.Text
import HandS.Words
import HandS.WordsList
import HandS.WordsDict
import HandS.Conv
import HandS.Walk
import HandS.IsInst
import HandS.MakeKw
import HandS.MakeKwOnly
import HandS.Flow
import HandS.TupAny
import HandS.TupMul
import HandS.FStr
import HandS.Zip
import HandS.Style
import HandS.Codes
import HandS.TupLe
import HandS.SetKeys
import KE.GoesMore
import KE.GoesZip
import PyProof.TupleOfStr
import PySem.Challenge.RW_shownshort_k44_whole_names_are_as_told
set_option Elab.async false
set_option linter.all false
set_option maxRecDepth 100000
namespace Gu
open PySem PySem.Spec PyProof.Rows L2
/-! the text, by places -/
def topS (i : Nat) : Stmt := PySem.Challenge.pw_shownshort_k44_whole_names_are_as_told.main.body.getD i (.Pass ⟨0, 0, 0, 0⟩)
abbrev s_InvalidRule_init : Stmt := inClass (topS 2) 0
abbrev ps_InvalidRule_init : List Str := ["self", "value"]
theorem sc_InvalidRule_init : FnScope ["self", "value"] ps_InvalidRule_init (defScope s_InvalidRule_init) := ⟨rfl, rfl, rfl, by decide +kernel, rfl, by decide +kernel, by decide +kernel⟩
abbrev s_InvalidWidth_init : Stmt := inClass (topS 3) 0
abbrev ps_InvalidWidth_init : List Str := ["self", "value"]
theorem sc_InvalidWidth_init : FnScope ["self", "value"] ps_InvalidWidth_init (defScope s_InvalidWidth_init) := ⟨rfl, rfl, rfl, by decide +kernel, rfl, by decide +kernel, by decide +kernel⟩
abbrev s_NotANamer_init : Stmt := inClass (topS 4) 0
abbrev ps_NotANamer_init : List Str := ["self", "value"]
theorem sc_NotANamer_init : FnScope ["self", "value"] ps_NotANamer_init (defScope s_NotANamer_init) := ⟨rfl, rfl, rfl, by decide +kernel, rfl, by decide +kernel, by decide +kernel⟩
abbrev s_InvalidTexts_init : Stmt := inClass (topS 5) 0
abbrev ps_InvalidTexts_init : List Str := ["self", "index"]
theorem sc_InvalidTexts_init : FnScope ["self", "index"] ps_InvalidTexts_init (defScope s_InvalidTexts_init) := ⟨rfl, rfl, rfl, by decide +kernel, rfl, by decide +kernel, by decide +kernel⟩
abbrev s_is_integer : Stmt := topS 11
abbrev ps_is_integer : List Str := ["value", "least", "most"]
theorem sc_is_integer : FnScope ["value", "least", "most"] ps_is_integer (defScope s_is_integer) := ⟨rfl, rfl, rfl, by decide +kernel, rfl, by decide +kernel, by decide +kernel⟩
abbrev s_is_tuple : Stmt := topS 12
abbrev ps_is_tuple : List Str := ["value", "least", "most"]
theorem sc_is_tuple : FnScope ["value", "least", "most"] ps_is_tuple (defScope s_is_tuple) := ⟨rfl, rfl, rfl, by decide +kernel, rfl, by decide +kernel, by decide +kernel⟩
abbrev s_is_text : Stmt := topS 13
abbrev ps_is_text : List Str := ["value", "most"]
theorem sc_is_text : FnScope ["value", "most", "character"] ps_is_text (defScope s_is_text) := ⟨rfl, rfl, rfl, by decide +kernel, rfl, by decide +kernel, by decide +kernel⟩
abbrev s_check_texts : Stmt := topS 14
abbrev ps_check_texts : List Str := ["texts", "most"]
theorem sc_check_texts : FnScope ["texts", "most", "place", "text"] ps_check_texts (defScope s_check_texts) := ⟨rfl, rfl, rfl, by decide +kernel, rfl, by decide +kernel, by decide +kernel⟩
abbrev s_Namer_init : Stmt := inClass (topS 18) 0
abbrev ps_Namer_init : List Str := ["self", "rule", "width"]
theorem sc_Namer_init : FnScope ["self", "rule", "width"] ps_Namer_init (defScope s_Namer_init) := ⟨rfl, rfl, rfl, by decide +kernel, rfl, by decide +kernel, by decide +kernel⟩
abbrev s_Namer_eq : Stmt := inClass (topS 18) 1
abbrev ps_Namer_eq : List Str := ["self", "other"]
theorem sc_Namer_eq : FnScope ["self", "other"] ps_Namer_eq (defScope s_Namer_eq) := ⟨rfl, rfl, rfl, by decide +kernel, rfl, by decide +kernel, by decide +kernel⟩
abbrev s_Namer_repr : Stmt := inClass (topS 18) 2
abbrev ps_Namer_repr : List Str := ["self"]
theorem sc_Namer_repr : FnScope ["self"] ps_Namer_repr (defScope s_Namer_repr) := ⟨rfl, rfl, rfl, by decide +kernel, rfl, by decide +kernel, by decide +kernel⟩
abbrev s_check_namer : Stmt := topS 19
abbrev ps_check_namer : List Str := ["namer"]
theorem sc_check_namer : FnScope ["namer"] ps_check_namer (defScope s_check_namer) := ⟨rfl, rfl, rfl, by decide +kernel, rfl, by decide +kernel, by decide +kernel⟩
abbrev s_base_of : Stmt := topS 20
abbrev ps_base_of : List Str := ["namer", "text"]
theorem sc_base_of : FnScope ["namer", "text"] ps_base_of (defScope s_base_of) := ⟨rfl, rfl, rfl, by decide +kernel, rfl, by decide +kernel, by decide +kernel⟩
abbrev s_numbered : Stmt := topS 21
abbrev ps_numbered : List Str := ["namer", "base", "number"]
theorem sc_numbered : FnScope ["namer", "base", "number", "ending"] ps_numbered (defScope s_numbered) := ⟨rfl, rfl, rfl, by decide +kernel, rfl, by decide +kernel, by decide +kernel⟩
abbrev s_counted_name : Stmt := topS 22
abbrev ps_counted_name : List Str := ["namer", "base", "texts"]
theorem sc_counted_name : FnScope ["namer", "base", "texts", "number", "text"] ps_counted_name (defScope s_counted_name) := ⟨rfl, rfl, rfl, by decide +kernel, rfl, by decide +kernel, by decide +kernel⟩
abbrev s_free_name : Stmt := topS 23
abbrev ps_free_name : List Str := ["namer", "base", "taken"]
theorem sc_free_name : FnScope ["namer", "base", "taken", "name", "number"] ps_free_name (defScope s_free_name) := ⟨rfl, rfl, rfl, by decide +kernel, rfl, by decide +kernel, by decide +kernel⟩
abbrev s_name_of_next : Stmt := topS 24
abbrev ps_name_of_next : List Str := ["namer", "text", "texts", "taken"]
theorem sc_name_of_next : FnScope ["namer", "text", "texts", "taken", "base"] ps_name_of_next (defScope s_name_of_next) := ⟨rfl, rfl, rfl, by decide +kernel, rfl, by decide +kernel, by decide +kernel⟩
abbrev s_named : Stmt := topS 25
abbrev ps_named : List Str := ["namer", "texts"]
theorem sc_named : FnScope ["namer", "texts", "given", "place", "text"] ps_named (defScope s_named) := ⟨rfl, rfl, rfl, by decide +kernel, rfl, by decide +kernel, by decide +kernel⟩
abbrev s_names : Stmt := topS 26
abbrev ps_names : List Str := ["namer", "texts"]
theorem sc_names : FnScope ["namer", "texts"] ps_names (defScope s_names) := ⟨rfl, rfl, rfl, by decide +kernel, rfl, by decide +kernel, by decide +kernel⟩
abbrev s_law_source : Stmt := topS 28
abbrev ps_law_source : List Str := ["_law_cells", "_law_turn"]
theorem sc_law_source : FnScope ["_law_cells", "_law_turn", "_law_mixed", "_law_cell", "_law_own"] ps_law_source (defScope s_law_source) := ⟨rfl, rfl, rfl, by decide +kernel, rfl, by decide +kernel, by decide +kernel⟩
abbrev s_law_draw : Stmt := topS 29
abbrev ps_law_draw : List Str := ["_law_source_here", "_law_size"]
theorem sc_law_draw : FnScope ["_law_source_here", "_law_size", "_law_digit", "_law_state", "_law_factor"] ps_law_draw (defScope s_law_draw) := ⟨rfl, rfl, rfl, by decide +kernel, rfl, by decide +kernel, by decide +kernel⟩
abbrev s_law_one : Stmt := topS 30
abbrev ps_law_one : List Str := ["_law_source_here", "_law_some"]
theorem sc_law_one : FnScope ["_law_source_here", "_law_some"] ps_law_one (defScope s_law_one) := ⟨rfl, rfl, rfl, by decide +kernel, rfl, by decide +kernel, by decide +kernel⟩
abbrev s_law_stem : Stmt := topS 31
abbrev ps_law_stem : List Str := ["_law_source_here", "_law_size"]
theorem sc_law_stem : FnScope ["_law_source_here", "_law_size", "_law_abc", "_law_k"] ps_law_stem (defScope s_law_stem) := ⟨rfl, rfl, rfl, by decide +kernel, rfl, by decide +kernel, by decide +kernel⟩
abbrev s_law_word : Stmt := topS 32
abbrev ps_law_word : List Str := ["_law_source_here", "_law_stems"]
theorem sc_law_word : FnScope ["_law_source_here", "_law_stems", "_law_way", "_law_stem_here"] ps_law_word (defScope s_law_word) := ⟨rfl, rfl, rfl, by decide +kernel, rfl, by decide +kernel, by decide +kernel⟩
abbrev s_law_made : Stmt := topS 33
abbrev ps_law_made : List Str := ["_law_base", "_law_number", "_law_sort", "_law_size"]
theorem sc_law_made : FnScope ["_law_base", "_law_number", "_law_sort", "_law_size", "_law_ending", "_law_lost"] ps_law_made (defScope s_law_made) := ⟨rfl, rfl, rfl, by decide +kernel, rfl, by decide +kernel, by decide +kernel⟩
abbrev s_law_is_free : Stmt := topS 34
abbrev ps_law_is_free : List Str := ["_law_base", "_law_told", "_law_before", "_law_sort", "_law_size"]
theorem sc_law_is_free : FnScope ["_law_base", "_law_told", "_law_before", "_law_sort", "_law_size", "_law_number", "_law_found"] ps_law_is_free (defScope s_law_is_free) := ⟨rfl, rfl, rfl, by decide +kernel, rfl, by decide +kernel, by decide +kernel⟩
abbrev s_law_right : Stmt := topS 35
abbrev ps_law_right : List Str := ["_law_source_here"]
theorem sc_law_right : FnScope ["_law_source_here", "_law_turn", "_law_stems", "_law_size", "_law_line", "_law_sort", "_law_told", "_law_k", "_law_base", "_law_before", "_law_mates", "_law_due", "_law_each"] ps_law_right (defScope s_law_right) := ⟨rfl, rfl, rfl, by decide +kernel, rfl, by decide +kernel, by decide +kernel⟩
abbrev s_law : Stmt := topS 36
abbrev ps_law : List Str := ["_law_script"]
theorem sc_law : FnScope ["_law_script", "_law_k"] ps_law (defScope s_law) := ⟨rfl, rfl, rfl, by decide +kernel, rfl, by decide +kernel, by decide +kernel⟩
/-- names that the module leaves to Python -/
structure Bi (mg : Str → Option Value) : Prop where
  ValueError : mg "ValueError" = none
  abs : mg "abs" = none
  all : mg "all" = none
  bool : mg "bool" = none
  divmod : mg "divmod" = none
  enumerate : mg "enumerate" = none
  int : mg "int" = none
  isinstance : mg "isinstance" = none
  len : mg "len" = none
  list : mg "list" = none
  max : mg "max" = none
  min : mg "min" = none
  range : mg "range" = none
  str : mg "str" = none
  tuple : mg "tuple" = none
  MOST_SIGNS : ∃ u, mg "MOST_SIGNS" = some u ∧ RelV (.int 40) u
  MOST_TEXT : ∃ u, mg "MOST_TEXT" = some u ∧ RelV (.int 200) u
  MOST_LISTED : ∃ u, mg "MOST_LISTED" = some u ∧ RelV (.int 6) u
  SIGNS : ∃ u, mg "SIGNS" = some u ∧ RelV (.str ".0123456789abcdefghijklmnopqrstuvwxyz~") u
  LEAST_WIDTH : ∃ u, mg "LEAST_WIDTH" = some u ∧ RelV (.int 6) u
end Gu
namespace Gu
open PySem PySem.Spec PyProof.Rows L2
/-! cuts -/
/-- from a middle state on -/
def tHalt (t u : TS) : TS := fun D σ H => ∃ M : L2.St → Hp → Prop, t { D with nx := M } σ H ∧ ∀ σ1 H1, M σ1 H1 → u D σ1 H1
/-! defs as they stand behind the top -/
structure At (K : PySem.W.Frag) (mg : Str → Option Value) (x : Str) (st : Stmt) (ps : List Str) : Prop where
  ex : ∃ (f : Addr) (fd : FuncData), Fun K x x st f fd ∧ Binds K fd ps [] ∧ mg x = some (.ref f)
structure Cal (P : Program) (w : World) (K : PySem.W.Frag) (mg : Str → Option Value) (base : Heap) (k : Nat) (x : Str) (ps : List Str) (sp : Sp) : Prop where
  ex : ∃ (f : Addr) (fd : FuncData), FnOk P w K mg base CX0 k f fd ps sp ∧ mg x = some (.ref f) ∧ PySem.W.keepIn K (.ref f) = true ∧ Binds K fd ps [] ∧ ∃ oc od sl, K.lookup f = some ⟨oc, od, .func fd, sl⟩
theorem At.cal {P : Program} {w : World} {K : PySem.W.Frag} {mg : Str → Option Value} {base : Heap} {x : Str} {st : Stmt} {N ps : List Str} {k : Nat} {sp : Sp} (D : At K mg x st ps) (S : FnScope N ps (defScope st)) (len : ∀ vs H Q E, sp vs H Q E → vs.length = ps.length)
    (body : ∀ (f : Addr) (cdv : Value) (A : Around) (outer : List Env) (s : Shared) (H : Hp) (vs : List V) (Q : VK) (E : XK), Room k (A.deeper (envOfC x (defScope st) s.heap.objs.size f cdv)) → sp vs H Q E →
      ∃ t, PSs (cxOf CX0 P w K mg base N x (defScope st) f cdv A outer s H E).nox (defBody st) t ∧ t { nx := fun _ H' => Q .non H', rt := Q } (start N vs) H) : Cal P w K mg base (k + 1) x ps sp := by
  obtain ⟨f, fd, F, b, g⟩ := D.ex
  obtain ⟨oc, od, kV, doc, pm, an, cdv, ct, osl, e, lk, hcd⟩ := F.ex
  exact ⟨f, fd, F.ok S len (body f), g, F.kp, b, oc, od, osl, lk⟩
section
variable {X : Cx} {k j : Nat} {x : Str} {ps : List Str} {sp : Sp} {p pos : Pos} {e : Expr} {es : List Expr} {t : TA}
theorem pe_own (c : Cal X.prog X.w X.K X.mg X.base k x ps sp) (hr : Room j X.A) (hk : k ≤ j) (hg : Gl X x) (ha : PA X (e :: es) t)
    (hdb : (x == ("__debug__" : Str)) = false := by decide) (he : starEach (e :: es) X.env = (false, eval e X.env) :: starEach es X.env := by rfl) (hpl : (backTo pos (starEach es X.env)).any (·.1) = false := by rfl) :
    PE X (.Call (.Name x p) (e :: es) [] pos) (tCall sp [] E0 t) := by
  obtain ⟨f, fd, F, hm, kp, b, _⟩ := c.ex
  exact pe_call F (hr.mono hk) hg hm kp b .nil pass0 ha hdb he hpl
theorem pe_cst {v : V} (h : ∃ u, X.mg x = some u ∧ RelV v u) (hg : Gl X x) (hdb : (x == ("__debug__" : Str)) = false := by decide) : PE X (.Name x pos) (tC v) := by
  obtain ⟨u, hm, r⟩ := h
  exact pe_glob hg hm r hdb
end
def tMid (t : TE) : TE := fun σ H Q => ∃ M : VK, t σ H M ∧ ∀ v G, M v G → Q v G
theorem pe_mid {X : Cx} {e : Expr} {t : TE} (d : PE X e t) : PE X e (tMid t) := ⟨fun pins s σ H Q I ⟨M, m, k⟩ => thn (d.run pins s σ H M I m) fun u s1 ⟨v, G, I1, r1, m1⟩ => ⟨v, G, I1, r1, k v G m1⟩⟩
/-! ### heaps -/
theorem same_new {H : Hp} {p : Addr} {o : HO} (h : H p = none) : Same H (upd H p o) := fun b x e => by
  rw [upd_ne (ne_of_none e h)]
  exact e
/-- a pot of three ints stands at p -/
def Pot (H : Hp) (p : Addr) : Prop := ∃ x y z : Int, H p = some (.lst [.int x, .int y, .int z])
/-- from H to G the pot at p may have changed, the rest stands -/
structure Ladled (p : Addr) (H G : Hp) : Prop where
  pot : Pot G p
  keep : ∀ b o, H b = some o → b ≠ p → G b = some o
theorem Pot.some {H : Hp} {p : Addr} (h : Pot H p) : ∃ o, H p = some o := by
  obtain ⟨x, y, z, e⟩ := h
  exact ⟨_, e⟩
theorem Pot.same {H G : Hp} {p : Addr} (s : Same H G) (h : Pot H p) : Pot G p := by
  obtain ⟨x, y, z, e⟩ := h
  exact ⟨x, y, z, s _ _ e⟩
theorem Ladled.refl {H : Hp} {p : Addr} (h : Pot H p) : Ladled p H H := ⟨h, fun _ _ e _ => e⟩
theorem Ladled.trans {H G J : Hp} {p : Addr} (a : Ladled p H G) (b : Ladled p G J) : Ladled p H J := ⟨b.pot, fun c o e n => b.keep c o (a.keep c o e n) n⟩
theorem Ladled.same {H G J : Hp} {p : Addr} (a : Ladled p H G) (b : Same G J) : Ladled p H J := ⟨a.pot.same b, fun c o e n => b _ _ (a.keep c o e n)⟩
theorem Ladled.ofSame {H G : Hp} {p : Addr} (h : Pot H p) (b : Same H G) : Ladled p H G := ⟨h.same b, fun c o e _ => b _ _ e⟩
theorem Ladled.new {H G : Hp} {p q : Addr} {o : HO} (a : Ladled p H G) (h : G q = none) : Ladled p H (upd G q o) := a.same (same_new h)
theorem Ladled.free {H G : Hp} {p l : Addr} (a : Ladled p H G) (h : G l = none) : H l = none := by
  cases q : H l with
  | none => rfl
  | some o =>
    by_cases e : l = p
    · subst e
      obtain ⟨u, hu⟩ := a.pot.some
      rw [hu] at h
      cases h
    · rw [a.keep l o q e] at h
      cases h
/-- what is not known at first may change -/
theorem Ladled.mut {H G : Hp} {p q : Addr} {o : HO} (a : Ladled p H G) (h : H q = none) (n : q ≠ p) : Ladled p H (upd G q o) := by
  refine ⟨?_, fun b u e nb => ?_⟩
  · obtain ⟨x, y, z, e⟩ := a.pot
    exact ⟨x, y, z, by rw [upd_ne (Ne.symm n)]; exact e⟩
  · rw [upd_ne (ne_of_none e h)]
    exact a.keep b u e nb
end Gu
namespace Gu
open PySem PySem.Spec PyProof.Rows L2
section
variable {P : Program} {w : World} {K : PySem.W.Frag} {mg : Str → Option Value} {base : Heap}
/-! ### _law_draw -/
def spLadle : Sp := fun vs H Q _ => ∃ (p : Addr) (m : Int), vs = [.ref p, .int m] ∧ Pot H p ∧ 0 < m ∧ m < 1000000 ∧ ∀ d G, 0 ≤ d → d < m → Ladled p H G → Q (.int d) G
theorem cal_draw (B : Bi mg) (D : At K mg "_law_draw" s_law_draw ps_law_draw) : Cal P w K mg base 1 "_law_draw" ps_law_draw spLadle := by
  refine D.cal sc_law_draw (fun vs H Q E h => ?_) (fun f cdv A outer s H vs Q E hr h => ?_)
  · obtain ⟨p, m, rfl, _⟩ := h
    rfl
  · obtain ⟨p, m, rfl, ⟨x, y, z, hp⟩, m0, m1, k⟩ := h
    refine ⟨_, (pss_cons (ps_asg (pe_op op_add (pe_ix ix_list (pv 0) pe_int (fun _ _ => rfl)) pe_int) (pg_sub (pv 0) pe_int set_list))
      (pss_cons (ps_if (pt_cmpR op_gt (pe_ix ix_list (pv 0) pe_int (fun _ _ => rfl)) pe_int (nomark _)) (pss_cons (ps_asg (pe_callB call_divmod (by rfl) B.divmod (by decide +kernel) (pa_cons (pe_ix ix_list (pv 0) pe_int (fun _ _ => rfl)) (pa_cons (pv 1) pa_nil))) (pg_tup rfl (pgs_cons (pg_sub (pv 0) pe_int set_list) (pgs_cons (pg_name (i := 2) sc_law_draw.nd rfl (.inl rfl)) pgs_nil))))
      (pss_one (ps_ret (pv 2)))) pss_nil)
      (pss_cons (ps_set (i := 3) sc_law_draw.nd rfl (.inl rfl) (pe_callTy call_int1 (by rfl) B.int (by decide +kernel) (pa_cons (pe_ix ix_list (pv 0) pe_int (fun _ _ => rfl)) pa_nil)))
      (pss_cons (ps_set (i := 4) sc_law_draw.nd rfl (.inl rfl) (pe_op op_add (pe_op op_mod (pe_callTy call_int1 (by rfl) B.int (by decide +kernel) (pa_cons (pv 3) pa_nil)) pe_int) pe_int))
      (pss_cons (ps_asg (pe_op op_mod (pe_callTy call_int1 (by rfl) B.int (by decide +kernel) (pa_cons (pe_op op_add (pe_op op_add (pe_op op_mul (pv 3) (pv 4)) (pe_op op_mul pe_int (pe_ix ix_list (pv 0) pe_int (fun _ _ => rfl)))) pe_int) pa_nil)) pe_int) (pg_sub (pv 0) pe_int set_list))
      (pss_one (ps_ret (pe_op op_mod (pe_op op_fdiv (pe_callTy call_int1 (by rfl) B.int (by decide +kernel) (pa_cons (pe_ix ix_list (pv 0) pe_int (fun _ _ => rfl)) pa_nil)) pe_int) (pv 1))))))))), ?_⟩
    refine ⟨_, rfl, p, _, _, _, rfl, rfl, .inl (.inl hp), (rfl : atI [V.int x, V.int y, V.int z] 2 = some (V.int z)), _, _, rfl, rfl, _, rfl, p, _, _, 2, rfl, rfl, hp, rfl, ?_⟩
    have h1 : upd H p (.lst ([V.int x, V.int y, V.int z].set 2 (.int (z + 1)))) p = some (.lst [.int x, .int y, .int (z + 1)]) := upd_same
    refine ⟨_, rfl, p, _, _, _, rfl, rfl, .inl (.inl h1), (rfl : atI [V.int x, V.int y, V.int (z + 1)] 0 = some (V.int x)), _, _, rfl, rfl, _, rfl, ite2 (fun _ => ?_) (fun _ => ?_)⟩
    · refine ⟨_, rfl, p, _, _, _, rfl, rfl, .inl (.inl h1), (rfl : atI [V.int x, V.int y, V.int (z + 1)] 0 = some (V.int x)), _, rfl, _, _, rfl, ⟨m0, by omega⟩, fun q hq => ?_⟩
      have npq : p ≠ q := ne_of_none h1 hq
      refine ⟨q, _, rfl, .inl (.inl upd_same), rfl, _, _, rfl, ⟨_, rfl, p, _, _, 0, rfl, rfl, (by rw [upd_ne npq]; exact h1), rfl, _, _, rfl, rfl, ?_⟩⟩
      refine ⟨_, rfl, ?_⟩
      refine k (x % m) _ (Int.emod_nonneg _ (by omega)) (Int.emod_lt_of_pos _ m0) ⟨⟨_, _, _, upd_same⟩, fun b o e n => ?_⟩
      have hb : upd H p (.lst ([V.int x, V.int y, V.int z].set 2 (.int (z + 1)))) b = some o := by rw [upd_ne n]; exact e
      rw [upd_ne n, upd_ne (ne_of_none hb hq), upd_ne n]
      exact e
    · have f0 : 0 ≤ y % 9973 := Int.emod_nonneg _ (by decide)
      have f1 : y % 9973 < 9973 := Int.emod_lt_of_pos _ (by decide)
      refine ⟨_, rfl, p, _, _, _, rfl, rfl, .inl (.inl h1), (rfl : atI [V.int x, V.int y, V.int (z + 1)] 1 = some (V.int y)), .inl ⟨_, rfl, ?_⟩⟩
      refine ⟨_, rfl, .inl ⟨_, rfl, _, _, rfl, rfl, (by decide : (0 : Int) < 9973), _, _, rfl, rfl, ?_⟩⟩
      refine ⟨_, rfl, _, rfl, _, _, rfl, rfl, .inr ⟨by omega, by omega⟩, _, rfl, p, _, _, _, rfl, rfl, .inl (.inl h1), (rfl : atI [V.int x, V.int y, V.int (z + 1)] 2 = some (V.int (z + 1))), _, _, rfl, rfl, .inl ⟨by decide, by decide⟩, _, _, rfl, rfl, _, _, rfl, rfl, .inl ⟨_, rfl, _, _, rfl, rfl, (by decide : (0 : Int) < 2147483587), ?_⟩⟩
      refine ⟨_, rfl, p, _, _, 1, rfl, rfl, h1, rfl, ?_⟩
      refine ⟨_, rfl, p, _, _, _, rfl, rfl, .inl (.inl upd_same), rfl, .inl ⟨_, rfl, _, _, rfl, rfl, ⟨by decide, by decide⟩, _, rfl, _, _, rfl, rfl, m0, ?_⟩⟩
      refine k _ _ (Int.emod_nonneg _ (by omega)) (Int.emod_lt_of_pos _ m0) ⟨⟨_, _, _, upd_same⟩, fun b o e n => ?_⟩
      rw [upd_ne n, upd_ne n]
      exact e
/-! ### _law_one: of a list -/
def spOneOf (K : PySem.W.Frag) : Sp := fun vs H Q _ => ∃ (p : Addr), Pot H p ∧
  (∃ (l : Addr) (xs : List V), vs = [.ref p, .ref l] ∧ SqL K H l xs ∧ l ≠ p ∧ 0 < xs.length ∧ xs.length < 1000 ∧ ∀ v G, v ∈ xs → Ladled p H G → Q v G)
theorem Ladled.seq {K : PySem.W.Frag} {H G : Hp} {p l : Addr} {xs : List V} (a : Ladled p H G) (n : l ≠ p) (h : SqL K H l xs) : SqL K G l xs := by
  rcases h with (h | ⟨o, h⟩) | h
  · exact .inl (.inl (a.keep _ _ h n))
  · exact .inl (.inr ⟨o, a.keep _ _ h n⟩)
  · exact .inr h
theorem at_in {α : Type} {xs : List α} {d : Int} (h0 : 0 ≤ d) (h1 : d < (xs.length : Int)) : ∃ v, v ∈ xs ∧ atI xs d = some v := by
  obtain ⟨j, rfl⟩ := Int.eq_ofNat_of_zero_le h0
  have hj : j < xs.length := by omega
  exact ⟨xs[j], List.getElem_mem hj, atI_nat (List.getElem?_eq_getElem hj)⟩
theorem cal_one (B : Bi mg) (D : At K mg "_law_one" s_law_one ps_law_one) (C_law_draw : Cal P w K mg base 1 "_law_draw" ps_law_draw spLadle) : Cal P w K mg base 2 "_law_one" ps_law_one (spOneOf K) := by
  refine D.cal sc_law_one (fun vs H Q E h => ?_) (fun f cdv A outer s H vs Q E hr h => ?_)
  · obtain ⟨p, _, l, xs, rfl, _⟩ := h
    rfl
  · refine ⟨_, (pss_one (ps_ret (pe_ix ix_list (pv 1) (pe_own C_law_draw hr (by decide) (by rfl) (pa_cons (pv 0) (pa_cons (pe_callB call_len (by rfl) B.len (by decide +kernel) (pa_cons (pv 1) pa_nil)) pa_nil))) (fun _ _ => rfl)))), ?_⟩
    obtain ⟨p, hp, l, xs, rfl, hl, np, l0, l1, k⟩ := h
    refine ⟨_, rfl, _, rfl, _, rfl, _, _, rfl, .inl ⟨_, hl, rfl⟩, p, _, rfl, hp, by omega, by omega, fun d G d0 d1 L => ?_⟩
    obtain ⟨v, hv, ha⟩ := at_in (xs := xs) d0 d1
    exact ⟨l, xs, d, v, rfl, rfl, L.seq np hl, ha, k v G hv L⟩
/-! ### _law_source -/
theorem sq_same {K : PySem.W.Frag} {H G : Hp} {l : Addr} {xs : List V} (a : Same H G) (h : SqL K H l xs) : SqL K G l xs := by
  rcases h with (h | ⟨o, h⟩) | h
  · exact .inl (.inl (a _ _ h))
  · exact .inl (.inr ⟨o, a _ _ h⟩)
  · exact .inr h
def spPot (K : PySem.W.Frag) : Sp := fun vs H Q _ => ∃ (a : Addr) (k : Nat) (ns : List Int), vs = [.ref a, .int (k : Int)] ∧ SqL K H a (ns.map V.int) ∧ k < 1000 ∧ ∀ p G, H p = none → Pot G p → Same H G → Q (.ref p) G
theorem cal_source (B : Bi mg) (D : At K mg "_law_source" s_law_source ps_law_source) : Cal P w K mg base 1 "_law_source" ps_law_source (spPot K) := by
  refine D.cal sc_law_source (fun vs H Q E h => ?_) (fun f cdv A outer s H vs Q E hr h => ?_)
  · obtain ⟨a, k, ns, rfl, _⟩ := h
    rfl
  · obtain ⟨a, k, ns, rfl, hS, hk, q⟩ := h
    refine ⟨_, (pss_cons (ps_set (i := 2) sc_law_source.nd rfl (.inl rfl) (pe_op op_add pe_int (pe_op op_mul pe_int (pv 1))))
      (pss_cons (ps_for PassesOwn.never rfl (pi_list (pe_slice sl_list (pv 0) po_none (po_some pe_int))) (pg_name (i := 3) sc_law_source.nd rfl (.inl rfl))
      (pss_one (ps_set (i := 2) sc_law_source.nd rfl (.inl rfl) (pe_op op_mod (pe_callTy call_int1 (by rfl) B.int (by decide +kernel) (pa_cons (pe_op op_add (pe_op op_mul (pv 2) pe_int) (pv 3)) pa_nil)) pe_int))))
      (pss_cons (ps_set (i := 4) sc_law_source.nd rfl (.inl rfl) (pe_mid (pe_ifExp (pt_cmpR op_lt (pv 1) (pe_callB call_len_seq (by rfl) B.len (by decide +kernel) (pa_cons (pv 0) pa_nil)) (nomark _)) (pe_ix ix_list (pv 0) (pv 1) (fun _ _ => rfl)) (pv 2))))
      (pss_cons (ps_set (i := 2) sc_law_source.nd rfl (.inl rfl) (pe_op op_mod (pe_callTy call_int1 (by rfl) B.int (by decide +kernel) (pa_cons (pe_op op_add (pe_op op_mul (pv 2) pe_int) (pv 4)) pa_nil)) pe_int))
      (pss_one (ps_ret (pe_lst (pa_cons (pe_mid (pe_ifExp (pt_cmpR op_ge (pe_callB call_abs (by rfl) B.abs (by decide +kernel) (pa_cons (pv 4) pa_nil)) (pe_op op_pow pe_int pe_int) (nomark _)) (pe_callB call_abs (by rfl) B.abs (by decide +kernel) (pa_cons (pv 4) pa_nil)) pe_int)) (pa_cons (pv 2) (pa_cons pe_int pa_nil)))))))))), ?_⟩
    refine ⟨_, rfl, _, _, rfl, rfl, .inl ⟨by decide, by decide⟩, _, _, rfl, rfl, ?_⟩
    refine ⟨_, rfl, 6, rfl, a, _, rfl, hS, fun c nc => ?_⟩
    have sc : Same H (upd H c (.lst (cutV (ns.map V.int) none (some 6)))) := same_new nc
    have hC : cutV (ns.map V.int) none (some 6) = (ns.take 6).map V.int := by
      unfold cutV
      rw [HT.sIx_none, show HT.sIx (ns.map V.int).length (ns.map V.int).length (some 6) = min 6 (ns.map V.int).length from HT.sIx_nat _ _ 6, List.drop_zero, Nat.sub_zero, List.map_take, List.take_eq_take_iff]
      omega
    refine ⟨c, rfl, ⟨_, .inl (.inl upd_same)⟩, for_list (K := K) (a := c) (xs := (ns.take 6).map V.int) (fun i σ J => ∃ (mx : Int) (u : Option V), σ = [some (.ref a), some (.int (k : Int)), some (.int mx), u, none] ∧ Same H J ∧ J c = some (.lst ((ns.take 6).map V.int)))
      ⟨_, none, rfl, sc, by rw [upd_same, hC]⟩ (fun i σ J _ ⟨_, _, _, _, e⟩ => .inl (.inl e)) ?_ ?_⟩
    · rintro i v σ J hi ⟨mx, u, rfl, sJ, eJ⟩
      obtain ⟨t, rfl⟩ : ∃ t, v = V.int t := by
        rw [List.getElem?_map] at hi
        cases e : (ns.take 6)[i]? with
        | none =>
          rw [e] at hi
          cases hi
        | some t =>
          rw [e] at hi
          exact ⟨t, (Option.some.inj hi).symm⟩
      refine ⟨_, rfl, _, _, rfl, rfl, .inr ⟨by decide, by decide⟩, _, rfl, _, _, rfl, rfl, .inl ⟨_, rfl, _, _, rfl, rfl, (by decide : (0 : Int) < 2147483629), ?_⟩⟩
      exact ⟨_, _, rfl, sJ, eJ⟩
    · rintro σ J ⟨mx, u, rfl, sJ, eJ⟩
      refine ⟨fun v J1 => (∃ i : Int, v = .int i) ∧ J1 = J, ?_, ?_⟩
      · refine ⟨_, rfl, _, rfl, a, _, rfl, .inl (sq_same sJ hS), _, _, rfl, rfl, _, rfl, ite2 (fun e => ?_) (fun _ => ?_)⟩
        · have hlt := of_decide_eq_true e
          have hj : k < ns.length := by
            rw [List.length_map] at hlt
            omega
          refine ⟨_, rfl, _, rfl, a, _, _, _, rfl, rfl, sq_same sJ hS, atI_nat (j := k) (v := .int ns[k]) (by rw [List.getElem?_map, List.getElem?_eq_getElem hj]; rfl), ⟨_, rfl⟩, rfl⟩
        · exact ⟨_, rfl, ⟨_, rfl⟩, rfl⟩
      · rintro _ _ ⟨⟨own, rfl⟩, rfl⟩
        refine ⟨_, rfl, _, _, rfl, rfl, .inr ⟨by decide, by decide⟩, _, rfl, _, _, rfl, rfl, .inl ⟨_, rfl, _, _, rfl, rfl, (by decide : (0 : Int) < 2147483629), ?_⟩⟩
        refine ⟨fun v J1 => (∃ i : Int, v = .int i) ∧ Same H J1, ?_, ?_⟩
        · refine ⟨_, rfl, _, rfl, _, _, rfl, rfl, ⟨by decide, by decide, by decide⟩, _, _, rfl, rfl, _, rfl, ite2 (fun _ => ⟨_, rfl, _, rfl, ⟨_, rfl⟩, sJ⟩) (fun _ => ⟨⟨_, rfl⟩, sJ⟩)⟩
        · rintro _ J1 ⟨⟨x, rfl⟩, s1⟩
          exact ⟨_, rfl, by show 3 ≤ sizeLine; decide, fun p np => q p _ (s1.free np) ⟨_, _, _, upd_same⟩ (s1.trans (same_new np))⟩
end
end Gu
namespace Gu
open PySem PySem.Spec PyProof.Rows L2
/-! ### texts of the laws about names -/
def abc : Str := ".0123456789abcdefghijklmnopqrstuvwxyz~"
/-- at most n signs -/
structure Wd (n : Nat) (y : Str) : Prop where
  len : y.cps.toList.length ≤ n
  sgn : ∀ c ∈ y.cps.toList, c ∈ abc.cps.toList
theorem Wd.mono {n m : Nat} {y : Str} (h : Wd n y) (k : n ≤ m) : Wd m y := ⟨Nat.le_trans h.len k, h.sgn⟩
theorem str_app (a b : Str) : (a ++ b).cps.toList = a.cps.toList ++ b.cps.toList := by
  show (a.cps ++ b.cps).toList = _
  rw [Array.toList_append]
theorem Wd.app {n m k : Nat} {y z : Str} (a : Wd n y) (b : Wd m z) (h : n + m ≤ k) : Wd k (y ++ z) := by
  have h1 := a.len
  have h2 := b.len
  refine ⟨?_, fun c hc => ?_⟩
  · rw [str_app, List.length_append]
    omega
  · rw [str_app] at hc
    rcases List.mem_append.mp hc with hc | hc
    · exact a.sgn c hc
    · exact b.sgn c hc
theorem Wd.cut {n : Nat} {y : Str} (a : Wd n y) (lo hi : Option Int) : Wd n (cutS y lo hi) :=
  ⟨Nat.le_trans (cutS_length y lo hi) a.len, fun c hc => a.sgn c (List.mem_of_mem_drop (List.mem_of_mem_take hc))⟩
theorem cutS_head (y : Str) {h : Int} (h0 : 0 ≤ h) : (cutS y none (some h)).cps.toList = y.cps.toList.take h.toNat := by
  obtain ⟨k, rfl⟩ := Int.eq_ofNat_of_zero_le h0
  unfold cutS
  rw [HT.sIx_none, HT.sIx_nat, List.drop_zero, Nat.sub_zero, Int.toNat_natCast]
  show y.cps.toList.take (min k y.cps.toList.length) = _
  rw [List.take_eq_take_iff]
  omega
theorem wd_head {y : Str} (a : ∀ c ∈ y.cps.toList, c ∈ abc.cps.toList) {h : Int} (h0 : 0 ≤ h) {m : Nat} (hm : h ≤ m) : Wd m (cutS y none (some h)) := by
  refine ⟨?_, fun c hc => ?_⟩
  · rw [cutS_head y h0, List.length_take]
    omega
  · rw [cutS_head y h0] at hc
    exact a c (List.mem_of_mem_take hc)
theorem wd_lit {z : Str} {n : Nat} (h : decide (z.cps.toList.length ≤ n ∧ ∀ c ∈ z.cps.toList, c ∈ abc.cps.toList) = true) : Wd n z := ⟨(of_decide_eq_true h).1, (of_decide_eq_true h).2⟩
theorem wd_digit {i : Int} (h0 : 0 ≤ i) (h1 : i < 10) : Wd 1 (toString i : String) := by
  obtain ⟨k, rfl⟩ := Int.eq_ofNat_of_zero_le h0
  have a : ∀ k ∈ List.range 10, ((toString (Int.ofNat k) : String) : Str).cps.toList.length ≤ 1 ∧ ∀ c ∈ ((toString (Int.ofNat k) : String) : Str).cps.toList, c ∈ abc.cps.toList := by decide +kernel
  have b := a k (List.mem_range.mpr (by omega))
  exact ⟨b.1, b.2⟩
theorem log_small {i : Int} (h0 : 0 ≤ i) (h1 : i < 1000) : i.natAbs.log2 < 1920 := by
  by_cases e : i.natAbs = 0
  · rw [e]
    decide
  · exact (Nat.log2_lt e).mpr (Nat.lt_of_lt_of_le (by omega : i.natAbs < 2 ^ 10) (Nat.pow_le_pow_right (by decide) (by decide)))
theorem Pot.off {H : Hp} {p q : Addr} (h : Pot H p) (n : H q = none) : q ≠ p := fun e => by
  subst e
  obtain ⟨o, ho⟩ := h.some
  rw [n] at ho
  cases ho
theorem yesT {σ : L2.St} {H : Hp} {Q : Bool → Hp → Prop} (h : Q true H) : tYes σ H Q := h
/-! single signs -/
def sg (c : Nat) : Str := ⟨#[c]⟩
theorem join_sgs : ∀ cs : List Nat, (Str.join ⟨#[]⟩ (cs.map sg)).cps.toList = cs
  | [] => rfl
  | c :: r => by
    rw [List.map_cons, join_nil_cons, str_app, join_sgs r]
    rfl
theorem tjoin_sgs (cs : List Nat) : (Txt.join "" (cs.map sg)).cps.toList = cs := by
  have e : (("" : String) : Str) = ⟨#[]⟩ := by decide +kernel
  show (Builtin.Str.glued _ _).cps.toList = cs
  rw [e, StrLaws.glued_eq_join]
  exact join_sgs cs
theorem sgs_len (cs : List Nat) : ((cs.map sg).map (·.length)).sum = cs.length := by
  induction cs with
  | nil => rfl
  | cons c r ih =>
    rw [List.map_cons, List.map_cons, List.sum_cons, ih]
    show 1 + r.length = r.length + 1
    omega
/-! text * int -/
def rRepS : R2 := fun x y H Q => ∃ z k, x = .str z ∧ y = .int k ∧ 2 ≤ k ∧ k ≤ 1000 ∧ 0 < z.length ∧ z.length ≤ 1000 ∧ ∀ y : Str, y.cps.toList = (List.replicate k.toNat z.cps.toList).flatten → Q (.str y) H
theorem fold_rep (z : Array Nat) : ∀ (k : Nat) (acc : Array Nat), ((List.replicate k z).foldl (· ++ ·) acc).toList = acc.toList ++ (List.replicate k z.toList).flatten
  | 0, acc => by simp
  | k + 1, acc => by
    rw [List.replicate_succ, List.foldl_cons, fold_rep z k, List.replicate_succ, List.flatten_cons, Array.toList_append, List.append_assoc]
theorem op_mul_str {X : Cx} : OpR X (binaryOp .Mult) rRepS := by
  intro pins s σ H x y v u Q I rx ry h
  obtain ⟨z, k, rfl, rfl, k0, k1, z0, z1, q⟩ := h
  obtain ⟨t, rfl⟩ := rx
  obtain ⟨t', rfl⟩ := ry
  have n1 : ¬ k < 1 := by omega
  have n2 : (k == 1 || z.length == 0) = false := by
    rw [Bool.or_eq_false_iff]
    exact ⟨beq_eq_false_iff_ne.mpr (by omega), beq_eq_false_iff_ne.mpr (by omega)⟩
  have m1 : (z.length : Int) * k ≤ 1000 * 1000 := Int.mul_le_mul (by omega) k1 (by omega) (by omega)
  have m2 : z.length * k.toNat ≤ 1000 * 1000 := Nat.mul_le_mul z1 (by omega)
  refine PySem.P.mul_str ?_ (fun _ _ => Int.not_lt.mpr ((Int.le_ediv_iff_mul_le (by omega)).mpr (by omega))) (fun _ _ => decide_eq_false (by rw [sizeLine_eq]; omega)) ?_
  · rw [Bool.or_eq_false_iff]
    exact ⟨decide_eq_false (by omega), decide_eq_false (by omega)⟩
  · rw [if_neg n1, n2, if_neg Bool.false_ne_true]
    have e : ((List.replicate k.toNat z.cps).foldl (· ++ ·) #[]).toList = (List.replicate k.toNat z.cps.toList).flatten := by
      rw [fold_rep]
      rfl
    refine ⟨?_, .str ⟨(List.replicate k.toNat z.cps).foldl (· ++ ·) #[]⟩, H, I.tok _, ⟨_, rfl⟩, q _ e⟩
    show ((List.replicate k.toNat z.cps).foldl (· ++ ·) #[]).size ≤ _
    rw [← Array.length_toList, e, PyProof.Rows.lm_len_rep_flat]
    show k.toNat * z.length ≤ sizeLine
    rw [Nat.mul_comm, sizeLine_eq]
    omega
end Gu
namespace Gu
open PySem PySem.Spec PyProof.Rows L2
section
variable {P : Program} {w : World} {K : PySem.W.Frag} {mg : Str → Option Value} {base : Heap}
/-! ### _law_stem -/
def spStem : Sp := fun vs H Q _ => ∃ (p : Addr) (m : Int), vs = [.ref p, .int m] ∧ Pot H p ∧ 0 < m ∧ m < 100 ∧ ∀ (y : Str) (G : Hp), Ladled p H G → 0 < y.cps.toList.length → Wd m.toNat y → Q (.str y) G
theorem cal_stem (B : Bi mg) (D : At K mg "_law_stem" s_law_stem ps_law_stem) (C_law_draw : Cal P w K mg base 1 "_law_draw" ps_law_draw spLadle) : Cal P w K mg base 2 "_law_stem" ps_law_stem spStem := by
  refine D.cal sc_law_stem (fun vs H Q E h => ?_) (fun f cdv A outer s H vs Q E hr h => ?_)
  · obtain ⟨p, m, rfl, _⟩ := h
    rfl
  · obtain ⟨p, m, rfl, hp, m0, m1, k⟩ := h
    refine ⟨_, (pss_cons (ps_set (i := 2) sc_law_stem.nd rfl (.inr rfl) pe_str)
      (pss_one (ps_ret (pe_join pe_str (pe_lc (own := [("_law_k", 3)]) (by rfl) sc_law_stem.nd (pi_range1 (by rfl) B.range (pa_cons (pe_op op_add pe_int (pe_own C_law_draw hr (by decide) (by rfl) (pa_cons (pv 0) (pa_cons (pv 1) pa_nil)))) pa_nil)) (blkOk_by (own := [("_law_k", 3)]) (N := ["_law_source_here", "_law_size", "_law_abc", "_law_k"]) (sc := defScope s_law_stem) (by decide +kernel)) (fun _ _ _ _ _ => pg_name (i := 3) sc_law_stem.nd rfl (.inl rfl)) (fun _ _ _ _ _ => pts_nil) (fun _ _ _ _ _ => (pe_ix ix_str (pv 2) (pe_own C_law_draw hr (by decide) (by rfl) (pa_cons (pv 0) (pa_cons pe_int pa_nil))) (fun _ _ => rfl)))))))), ?_⟩
    refine ⟨⟨_, rfl⟩, _, rfl, _, rfl, p, m, rfl, hp, m0, by omega, fun d G1 d0 d1 L1 => ?_⟩
    refine ⟨_, _, rfl, rfl, _, rfl, by omega, by omega, fun M nM => lc_range (lo := 0) (n := (1 + d).toNat) (fun i J => ∃ cs : List Nat, cs.length = i ∧ (∀ c ∈ cs, c ∈ abc.cps.toList) ∧ J M = some (.lst ((cs.map sg).map V.str)) ∧ Ladled p H J)
      ⟨[], rfl, (fun c hc => by cases hc), upd_same, L1.mut (L1.free nM) (L1.pot.off nM)⟩ ?_ ?_⟩
    · rintro i J hi ⟨cs, rfl, hc, eM, L⟩
      have hM : H M = none := L1.free nM
      refine ⟨rfl, yesT (iteT ⟨_, rfl, _, rfl, p, 38, rfl, L.pot, by decide, by decide, fun c G c0 c1 L2 => ?_⟩)⟩
      obtain ⟨v, hv, ha⟩ := at_in (xs := abc.cps.toList) c0 c1
      have gM := L2.keep _ _ eM (hp.off hM)
      refine ⟨abc, c, v, rfl, rfl, by decide +kernel, ha, _, gM, small1000 (by rw [List.length_map, List.length_map]; omega), cs ++ [v], by rw [List.length_append]; rfl, fun x hx => ?_, ?_, (L.trans L2).mut hM (hp.off hM)⟩
      · rcases List.mem_append.mp hx with hx | hx
        · exact hc x hx
        · rw [List.mem_singleton.mp hx]
          exact hv
      · rw [upd_same, List.map_append, List.map_append]
        rfl
    · rintro J ⟨cs, el, hc, eM, L⟩
      refine ⟨_, M, _, rfl, rfl, .inl (.inl (.inl eM)), ?_, k _ J L ?_ ⟨?_, ?_⟩⟩
      · rw [sgs_len, List.length_map]
        have e0 : (("" : String) : Str).length = 0 := by decide +kernel
        rw [e0]
        omega
      · rw [tjoin_sgs]
        omega
      · rw [tjoin_sgs]
        omega
      · rw [tjoin_sgs]
        exact hc
end
end Gu
namespace Gu
open PySem PySem.Spec PyProof.Rows L2
section
variable {P : Program} {w : World} {K : PySem.W.Frag} {mg : Str → Option Value} {base : Heap}
/-! ### _law_word -/
def spWord (K : PySem.W.Frag) : Sp := fun vs H Q _ => ∃ (p l : Addr) (ys : List Str), vs = [.ref p, .ref l] ∧ Pot H p ∧ SqL K H l (ys.map V.str) ∧ l ≠ p ∧ 0 < ys.length ∧ ys.length < 1000 ∧ (∀ y ∈ ys, 0 < y.cps.toList.length ∧ Wd 12 y) ∧ ∀ (y : Str) (G : Hp), Ladled p H G → Wd 200 y → Q (.str y) G
theorem rep_sgn {z y : Str} {k : Nat} (a : ∀ c ∈ z.cps.toList, c ∈ abc.cps.toList) (e : y.cps.toList = (List.replicate k z.cps.toList).flatten) : ∀ c ∈ y.cps.toList, c ∈ abc.cps.toList := by
  intro c hc
  rw [e] at hc
  obtain ⟨l, hl, h⟩ := List.mem_flatten.mp hc
  rw [(List.mem_replicate.mp hl).2] at h
  exact a c h
theorem rep_len {z y : Str} {k : Nat} (a : z.cps.toList.length ≤ 12) (hk : k ≤ 200) (e : y.cps.toList = (List.replicate k z.cps.toList).flatten) : y.length ≤ sizeLine := by
  show y.cps.toList.length ≤ sizeLine
  rw [e, PyProof.Rows.lm_len_rep_flat, sizeLine_eq]
  have := Nat.mul_le_mul hk a
  omega
theorem cal_word (B : Bi mg) (D : At K mg "_law_word" s_law_word ps_law_word) (C_law_draw : Cal P w K mg base 1 "_law_draw" ps_law_draw spLadle) (C_law_one : Cal P w K mg base 2 "_law_one" ps_law_one (spOneOf K)) (C_law_stem : Cal P w K mg base 2 "_law_stem" ps_law_stem spStem) : Cal P w K mg base 3 "_law_word" ps_law_word (spWord K) := by
  refine D.cal sc_law_word (fun vs H Q E h => ?_) (fun f cdv A outer s H vs Q E hr h => ?_)
  · obtain ⟨p, l, ys, rfl, _⟩ := h
    rfl
  · obtain ⟨p, l, ys, rfl, hp, hl, np, y0, y1, hy, k⟩ := h
    refine ⟨_, (pss_cons (ps_par (i := 2) (j := 3) (by rfl) sc_law_word.nd rfl rfl (by decide) rfl rfl (pa_cons (pe_own C_law_draw hr (by decide) (by rfl) (pa_cons (pv 0) (pa_cons pe_int pa_nil))) (pa_cons (pe_own C_law_one hr (by decide) (by rfl) (pa_cons (pv 0) (pa_cons (pv 1) pa_nil))) pa_nil)) (by rfl))
      (pss_cons (ps_if (pt_cmpR op_lt (pv 2) pe_int (nomark _)) (pss_one (ps_ret (pv 3))) pss_nil)
      (pss_cons (ps_if (pt_cmpR op_lt (pv 2) pe_int (nomark _)) (pss_one (ps_ret (pe_op op_add_str (pe_op op_add_str (pv 3) pe_str) (pe_callTy call_str_int (by rfl) B.str (by decide +kernel) (pa_cons (pe_op op_add pe_int (pe_own C_law_draw hr (by decide) (by rfl) (pa_cons (pv 0) (pa_cons pe_int pa_nil)))) pa_nil))))) pss_nil)
      (pss_cons (ps_if (pt_cmpR op_eq (pv 2) pe_int (nomark _)) (pss_one (ps_ret (pe_slice sl_str (pv 3) po_none (po_some (pe_own C_law_draw hr (by decide) (by rfl) (pa_cons (pv 0) (pa_cons (pe_op op_add (pe_callB call_len (by rfl) B.len (by decide +kernel) (pa_cons (pv 3) pa_nil)) pe_int) pa_nil))))))) pss_nil)
      (pss_cons (ps_if (pt_cmpR op_eq (pv 2) pe_int (nomark _)) (pss_one (ps_ret (pe_slice sl_str (pe_op op_mul_str (pv 3) pe_int) po_none (po_some (pe_own C_law_one hr (by decide) (by rfl) (pa_cons (pv 0) (pa_cons (pe_lst (pa_cons pe_int (pa_cons pe_int (pa_cons pe_int (pa_cons pe_int pa_nil))))) pa_nil))))))) pss_nil)
      (pss_one (ps_ret (pe_mid (pe_ifExp (pt_cmpR op_eq (pv 2) pe_int (nomark _)) (pe_op op_add_str (pv 3) (pe_own C_law_stem hr (by decide) (by rfl) (pa_cons (pv 0) (pa_cons pe_int pa_nil)))) (pe_own C_law_stem hr (by decide) (by rfl) (pa_cons (pv 0) (pa_cons pe_int pa_nil)))))))))))), ?_⟩
    refine ⟨_, rfl, p, 9, rfl, hp, by decide, by decide, fun way G1 w0 w1 L1 => ?_⟩
    refine ⟨_, rfl, _, rfl, p, L1.pot, l, _, rfl, L1.seq np hl, np, by rw [List.length_map]; exact y0, by rw [List.length_map]; exact y1, fun v G2 hv L2 => ?_⟩
    obtain ⟨z, hz, rfl⟩ := List.mem_map.mp hv
    obtain ⟨z0, wz⟩ := hy z hz
    have zl := wz.len
    have ez : z.length = z.cps.toList.length := rfl
    have M2 : Ladled p H G2 := L1.trans L2
    refine ⟨_, _, rfl, ?_⟩
    -- way < 3
    refine ⟨_, rfl, _, _, rfl, rfl, _, rfl, ite2 (fun _ => ?_) (fun _ => ?_)⟩
    · exact ⟨_, rfl, k z G2 M2 (wz.mono (by decide))⟩
    -- way < 5
    refine ⟨_, rfl, _, _, rfl, rfl, _, rfl, ite2 (fun _ => ?_) (fun _ => ?_)⟩
    · refine ⟨_, rfl, _, _, rfl, rfl, by rw [sizeLine_eq]; have e1 : (("~" : String) : Str).length = 1 := by decide +kernel
                                         omega, _, rfl, p, 3, rfl, M2.pot, by decide, by decide, fun d G3 d0 d1 L3 => ?_⟩
      have M3 := M2.trans L3
      refine ⟨_, _, rfl, rfl, _, rfl, ?_, ?_⟩
      · exact log_small (by omega) (by omega)
      · have wd := wd_digit (i := 2 + d) (by omega) (by omega)
        have wt : Wd 1 ("~" : String) := wd_lit (by decide +kernel)
        have w1 : Wd 13 (z ++ (("~" : String) : Str)) := wz.app wt (by decide)
        exact ⟨_, _, rfl, rfl, Nat.le_of_lt (small1000 (Nat.le_trans (Nat.add_le_add w1.len wd.len) (by decide))), k _ _ M3 ((w1.app wd (by decide)).mono (Nat.le_refl _))⟩
    -- way == 5
    refine ⟨_, rfl, rfl, _, rfl, ite2 (fun _ => ?_) (fun _ => ?_)⟩
    · refine ⟨_, rfl, _, rfl, _, rfl, _, _, rfl, ⟨Nat.le_of_lt (small1000 (by omega)), rfl⟩, _, _, rfl, rfl, p, _, rfl, M2.pot, by omega, by omega, fun d G3 d0 d1 L3 => ?_⟩
      exact ⟨d, rfl, z, rfl, Nat.le_of_lt (small1000 (by omega)), k _ _ (M2.trans L3) (wz.cut _ _ |>.mono (by decide))⟩
    -- way == 6
    refine ⟨_, rfl, rfl, _, rfl, ite2 (fun _ => ?_) (fun _ => ?_)⟩
    · refine ⟨_, rfl, z, 200, rfl, rfl, by decide, by decide, by omega, by omega, fun y ey => ?_⟩
      refine ⟨_, rfl, by show 4 ≤ sizeLine; decide, fun q nq => ?_⟩
      refine ⟨p, M2.pot.same (same_new nq), q, _, rfl, .inl (.inl upd_same), M2.pot.off nq, by decide, by decide, fun v G3 hv L3 => ?_⟩
      obtain ⟨b, b0, b1, rfl⟩ : ∃ b : Int, 0 ≤ b ∧ b ≤ 200 ∧ v = .int b := by
        rcases List.mem_cons.mp hv with rfl | hv
        · exact ⟨40, by decide, by decide, rfl⟩
        rcases List.mem_cons.mp hv with rfl | hv
        · exact ⟨41, by decide, by decide, rfl⟩
        rcases List.mem_cons.mp hv with rfl | hv
        · exact ⟨199, by decide, by decide, rfl⟩
        rcases List.mem_cons.mp hv with rfl | hv
        · exact ⟨200, by decide, by decide, rfl⟩
        cases hv
      exact ⟨b, rfl, y, rfl, rep_len zl (by decide) ey, k _ _ ((M2.new nq).trans L3) (wd_head (rep_sgn wz.sgn ey) b0 b1)⟩
    -- way == 7
    refine ⟨fun v J => ∃ y, v = .str y ∧ Ladled p H J ∧ Wd 200 y, ?_, ?_⟩
    · refine ⟨_, rfl, rfl, _, rfl, ite2 (fun _ => ?_) (fun _ => ?_)⟩
      · refine ⟨_, rfl, _, rfl, p, 3, rfl, M2.pot, by decide, by decide, fun y G3 L3 yl wy => ?_⟩
        have y3 := wy.len
        have ey : y.length = y.cps.toList.length := rfl
        refine ⟨_, _, rfl, rfl, Nat.le_of_lt (small1000 (by omega)), _, rfl, M2.trans L3, wz.app wy (by decide)⟩
      · refine ⟨_, rfl, p, 12, rfl, M2.pot, by decide, by decide, fun y G3 L3 yl wy => ?_⟩
        exact ⟨_, rfl, M2.trans L3, wy.mono (by decide)⟩
    · rintro _ J ⟨y, rfl, L, W⟩
      exact k y J L W
end
end Gu
namespace Gu
open PySem PySem.Spec PyProof.Rows L2
/-! ### _law_numbered -/
def ending (n : Int) : Str := (("~" : String) : Str) ++ ((toString n : String) : Str)
def nbase (w : Int) (t : Str) : Str := cutS t none (some w)
def numbered (so : Str) (w : Int) (t : Str) (n : Int) : Str :=
  if decide (so = ("tight" : String)) && decide (w < ((nbase w t).length : Int) + ((ending n).length : Int)) then cutS (nbase w t) none (some (w - (ending n).length)) ++ ending n else nbase w t ++ ending n
theorem ending_len {n : Int} (h0 : 0 ≤ n) (h1 : n < 10) : (ending n).length ≤ 2 := by
  have a := (wd_digit h0 h1).len
  have e : (ending n).length = 1 + ((toString n : String) : Str).length := by
    show (ending n).cps.toList.length = _
    unfold ending
    rw [str_app, List.length_append]
    rfl
  rw [e]
  show 1 + ((toString n : String) : Str).cps.toList.length ≤ 2
  omega
theorem str_eq_iff {a b : Str} : decide (V.str a = V.str b) = decide (a = b) := by
  by_cases e : a = b
  · rw [decide_eq_true e, decide_eq_true (by rw [e])]
  · rw [decide_eq_false e, decide_eq_false (fun h => e (V.str.inj h))]
end Gu
namespace Gu
open PySem PySem.Spec PyProof.Rows L2
/-! ### names, as the laws tell them -/
/-- the first of f a, f (a + 1), .. that is not taken, f (a + k) at the latest -/
def seek (f : Nat → Str) (ys : List Str) : Nat → Nat → Str
  | 0, a => f a
  | k + 1, a => if f a ∈ ys then seek f ys k (a + 1) else f a
theorem seek_at {f : Nat → Str} {ys : List Str} : ∀ (d k a : Nat), d ≤ k → (∀ j, j < d → f (a + j) ∈ ys) → f (a + d) ∉ ys → seek f ys k a = f (a + d)
  | 0, 0, a, _, _, _ => rfl
  | 0, k + 1, a, _, _, n => by
    unfold seek
    rw [if_neg (show f a ∉ ys from n)]
    rfl
  | d + 1, 0, _, h, _, _ => absurd h (by omega)
  | d + 1, k + 1, a, h, t, n => by
    unfold seek
    rw [if_pos (show f a ∈ ys from t 0 (by omega)), seek_at d k (a + 1) (by omega) (fun j hj => by
      have := t (j + 1) (by omega)
      rw [show a + 1 + j = a + (j + 1) by omega]
      exact this) (by
      rw [show a + 1 + d = a + (d + 1) by omega]
      exact n), show a + 1 + d = a + (d + 1) by omega]
theorem fewer : ∀ (xs ys : List Str), xs.Nodup → (∀ x ∈ xs, x ∈ ys) → xs.length ≤ ys.length
  | [], _, _, _ => Nat.zero_le _
  | x :: xs, ys, hn, h => by
    have hx := h x (List.mem_cons_self ..)
    have hc := List.nodup_cons.mp hn
    have ne : ∀ y ∈ xs, y ≠ x := fun y hy e => by
      subst e
      exact hc.1 hy
    have := fewer xs (ys.erase x) hc.2 fun y hy => (List.mem_erase_of_ne (ne y hy)).mpr (h y (List.mem_cons_of_mem _ hy))
    rw [List.length_erase_of_mem hx] at this
    have := List.length_pos_of_mem hx
    rw [List.length_cons]
    omega
def cand (so : Str) (w : Int) (t : Str) (i : Nat) : Str := numbered so w t (2 + (i : Int))
theorem last_of (a : Str) {n : Int} (h0 : 0 ≤ n) (h1 : n < 10) : (a ++ ending n).cps.toList.getLast? = some (48 + n.toNat) := by
  obtain ⟨k, rfl⟩ := Int.eq_ofNat_of_zero_le h0
  have e : ∀ k ∈ List.range 10, (ending (Int.ofNat k)).cps.toList.getLast? = some (48 + k) := by decide +kernel
  have b := e k (List.mem_range.mpr (by omega))
  rw [str_app, List.getLast?_append, show (Int.toNat ((k : Nat) : Int)) = k from rfl, show (ending ((k : Nat) : Int)).cps.toList.getLast? = some (48 + k) from b]
  rfl
theorem cand_last (so : Str) (w : Int) (t : Str) {i : Nat} (h : i < 8) : (cand so w t i).cps.toList.getLast? = some (50 + i) := by
  have e : 48 + (2 + (i : Int)).toNat = 50 + i := by omega
  unfold cand numbered
  split
  · rw [last_of _ (by omega) (by omega), e]
  · rw [last_of _ (by omega) (by omega), e]
theorem cands_nodup (so : Str) (w : Int) (t : Str) : ∀ n, n ≤ 8 → ((List.range n).map (cand so w t)).Nodup
  | 0, _ => List.nodup_nil
  | n + 1, h => by
    rw [List.range_succ, List.map_append]
    refine List.nodup_append.mpr ⟨cands_nodup so w t n (by omega), List.nodup_cons.mpr ⟨List.not_mem_nil, List.nodup_nil⟩, fun x hx y hy e => ?_⟩
    obtain ⟨i, hi, rfl⟩ := List.mem_map.mp hx
    have hi := List.mem_range.mp hi
    rw [List.mem_singleton.mp hy] at e
    have a := cand_last so w t (i := i) (by omega)
    rw [e, cand_last so w t (i := n) (by omega)] at a
    have := Option.some.inj a
    omega
/-- not all of them are taken -/
theorem some_free {so : Str} {w : Int} {t : Str} {ys : List Str} (h : ys.length ≤ 6) (a : ∀ j, j < ys.length + 1 → cand so w t j ∈ ys) : False := by
  have := fewer _ ys (cands_nodup so w t (ys.length + 1) (by omega)) fun x hx => by
    obtain ⟨i, hi, rfl⟩ := List.mem_map.mp hx
    exact a i (List.mem_range.mp hi)
  rw [List.length_map, List.length_range] at this
  omega
def mates (w : Int) (t : Str) (ps : List (Str × Str)) : List (Str × Str) := ps.filter fun q => decide (nbase w q.1 = nbase w t)
def nameOf (so : Str) (w : Int) (t : Str) (ps : List (Str × Str)) : Str :=
  if so = ("count" : String) then (if (mates w t ps).length = 0 then nbase w t else numbered so w t (((mates w t ps).length : Int) + 1))
  else if nbase w t ∈ ps.map (·.2) then seek (cand so w t) (ps.map (·.2)) (ps.map (·.2)).length 0 else nbase w t
theorem wd_base {n : Nat} {t : Str} (h : Wd n t) (w : Int) : Wd n (nbase w t) := h.cut _ _
theorem wd_numbered {n : Nat} {t : Str} {so : Str} {w k : Int} (h : Wd n t) (h0 : 0 ≤ k) (h1 : k < 10) : Wd (n + 2) (numbered so w t k) := by
  have a : Wd 2 (ending k) := (wd_lit (z := ("~" : String)) (n := 1) (by decide +kernel)).app (wd_digit h0 h1) (by decide)
  unfold numbered
  split
  · exact ((wd_base h w).cut _ _).app a (Nat.le_refl _)
  · exact (wd_base h w).app a (Nat.le_refl _)
theorem wd_seek {n : Nat} {so : Str} {w : Int} {t : Str} {ys : List Str} (h : Wd n t) : ∀ (k a : Nat), a + k < 8 → Wd (n + 2) (seek (cand so w t) ys k a)
  | 0, a, l => wd_numbered h (by omega) (by omega)
  | k + 1, a, l => by
    unfold seek
    split
    · exact wd_seek h k (a + 1) (by omega)
    · exact wd_numbered h (by omega) (by omega)
theorem wd_name {n : Nat} {so : Str} {w : Int} {t : Str} {ps : List (Str × Str)} (h : Wd n t) (l : ps.length ≤ 6) : Wd (n + 2) (nameOf so w t ps) := by
  have m : (mates w t ps).length ≤ ps.length := List.length_filter_le ..
  unfold nameOf
  split
  · split
    · exact (wd_base h w).mono (by omega)
    · exact wd_numbered h (by omega) (by omega)
  · split
    · exact wd_seek h _ _ (by rw [List.length_map]; omega)
    · exact (wd_base h w).mono (by omega)
/-! lists that == looks into -/
theorem shaped_of {ds : List PyData} (h : ∀ d ∈ ds, d.canLay0 = true ∧ d.depth ≤ 10) : SeqAt.shaped (.list ds) = true := by
  have a : ∀ ds : List PyData, (∀ d ∈ ds, d.canLay0 = true ∧ d.depth ≤ 10) → PyData.canLayAll0 ds = true ∧ PyData.depthAll ds ≤ 10 := by
    intro ds
    induction ds with
    | nil => exact fun _ => ⟨rfl, Nat.zero_le _⟩
    | cons d ds ih =>
      intro h
      have b := ih fun e he => h e (List.mem_cons_of_mem _ he)
      have c := h d (List.mem_cons_self ..)
      refine ⟨?_, Nat.max_le.mpr ⟨c.2, b.2⟩⟩
      show (d.canLay0 && PyData.canLayAll0 ds) = true
      rw [c.1, b.1]
      rfl
  have b := a ds h
  unfold SeqAt.shaped
  rw [Bool.and_eq_true]
  refine ⟨b.1, decide_eq_true ?_⟩
  show PyData.depthAll ds + 1 ≤ 64
  omega
theorem wd_lay {n : Nat} {y : Str} (h : Wd n y) : (PyData.str y).canLay0 = true := by
  have a : ∀ c ∈ abc.cps.toList, c < 0x110000 := by decide +kernel
  show y.cps.all _ = true
  rw [← Array.all_toList, List.all_eq_true]
  exact fun c hc => decide_eq_true (a c (h.sgn c hc))
def pdat (q : Str × Str) : PyData := .tuple [.str q.1, .str q.2]
theorem pdat_ok {n : Nat} {q : Str × Str} (a : Wd n q.1) (b : Wd n q.2) : (pdat q).canLay0 = true ∧ (pdat q).depth ≤ 10 := by
  refine ⟨?_, by show 1 ≤ 10; decide⟩
  show ((PyData.str q.1).canLay0 && ((PyData.str q.2).canLay0 && true)) = true
  rw [wd_lay a, wd_lay b]
  rfl
theorem eqv_nil (ds : List PyData) : PyData.eqv (.list ds) (.list []) = decide (ds.length = 0) := by
  cases ds with
  | nil => rfl
  | cons d ds => rfl
end Gu
namespace Gu
open PySem PySem.Spec PyProof.Rows L2
/-! ### _law_name -/
/-- a list of pairs of texts -/
structure PairsAt (H : Hp) (a : Addr) (qs : List (Addr × Str × Str)) : Prop where
  ls : H a = some (.lst (qs.map fun q => V.ref q.1))
  tp : ∀ q ∈ qs, H q.1 = some (.tup [.str q.2.1, .str q.2.2])
theorem PairsAt.same {H G : Hp} {a : Addr} {qs : List (Addr × Str × Str)} (s : Same H G) (h : PairsAt H a qs) : PairsAt G a qs := ⟨s _ _ h.ls, fun q hq => s _ _ (h.tp q hq)⟩
theorem ref_at {qs : List (Addr × Str × Str)} {i : Nat} {v : V} (hi : (qs.map fun q => V.ref q.1)[i]? = some v) : ∃ q, qs[i]? = some q ∧ v = .ref q.1 ∧ q ∈ qs := by
  rw [List.getElem?_map] at hi
  cases e : qs[i]? with
  | none =>
    rw [e] at hi
    cases hi
  | some q =>
    rw [e] at hi
    exact ⟨q, rfl, (Option.some.inj hi).symm, List.mem_of_getElem? e⟩
theorem same_off {H J : Hp} {M : Addr} {o : HO} (s : Same H J) (n : H M = none) : Same H (upd J M o) := fun b x e => by
  rw [upd_ne (ne_of_none e n)]
  exact s b x e
theorem dp_pairs {K : PySem.W.Frag} {H : Hp} : ∀ {qs : List (Addr × Str × Str)}, (∀ q ∈ qs, H q.1 = some (.tup [.str q.2.1, .str q.2.2])) → DpAll K H (qs.map fun q => V.ref q.1) (qs.map fun q => pdat q.2)
  | [], _ => .nil
  | q :: qs, h => .cons (.tup (.inl (.inl (h q (List.mem_cons_self ..)))) (.cons (.str _) (.cons (.str _) .nil))) (dp_pairs fun r hr => h r (List.mem_cons_of_mem _ hr))
theorem mates_len (w : Int) (t : Str) (qs : List (Addr × Str × Str)) : (mates w t (qs.map (·.2))).length = (qs.filter fun q => decide (nbase w q.2.1 = nbase w t)).length := by
  unfold mates
  rw [List.filter_map, List.length_map]
  rfl
theorem in_strs (x : Str) (ys : List Str) : inV (.str x) (ys.map V.str) = decide (x ∈ ys) := by
  unfold inV
  rw [List.any_map]
  by_cases e : x ∈ ys
  · rw [decide_eq_true e, List.any_eq_true]
    exact ⟨x, e, beq_self_eq_true x⟩
  · rw [decide_eq_false e, List.any_eq_false]
    intro y hy h
    have h := eq_of_beq (show (y == x) = true from h)
    exact e (h ▸ hy)
theorem flat_strs (ys : List Str) : (ys.map V.str).all flatV = true := by
  rw [List.all_map, List.all_eq_true]
  exact fun _ _ => rfl
theorem take_next {α : Type} {qs : List α} {i : Nat} {q : α} (h : qs[i]? = some q) : qs.take (i + 1) = qs.take i ++ [q] := by
  rw [List.take_add_one, h]
  rfl
end Gu
namespace Gu
open PySem PySem.Spec PyProof.Rows L2
/-! ### _law_names -/
def pairsOf (so : Str) (w : Int) (ts : List Str) : List (Str × Str) := ts.foldl (fun ps t => ps ++ [(t, nameOf so w t ps)]) []
def namesOf (so : Str) (w : Int) (ts : List Str) : List Str := (pairsOf so w ts).map (·.2)
theorem pairsOf_snoc (so : Str) (w : Int) (ts : List Str) (t : Str) : pairsOf so w (ts ++ [t]) = pairsOf so w ts ++ [(t, nameOf so w t (pairsOf so w ts))] := by
  unfold pairsOf
  rw [List.foldl_append]
  rfl
theorem pairsOf_len (so : Str) (w : Int) (ts : List Str) : (pairsOf so w ts).length = ts.length := by
  have a : ∀ (ts : List Str) (acc : List (Str × Str)), (ts.foldl (fun ps t => ps ++ [(t, nameOf so w t ps)]) acc).length = acc.length + ts.length := by
    intro ts
    induction ts with
    | nil => exact fun _ => rfl
    | cons t ts ih =>
      intro acc
      rw [List.foldl_cons, ih, List.length_append, List.length_cons]
      show acc.length + 1 + ts.length = acc.length + (ts.length + 1)
      omega
  have b := a ts []
  rw [List.length_nil, Nat.zero_add] at b
  exact b
theorem st_same {K : PySem.W.Frag} {H G : Hp} {l : Addr} {xs : List V} (a : Same H G) (h : SqT K H l xs) : SqT K G l xs := by
  rcases h with (h | ⟨o, h⟩) | h
  · exact .inl (.inl (a _ _ h))
  · exact .inl (.inr ⟨o, a _ _ h⟩)
  · exact .inr h
theorem pairs_wd {so : Str} {w : Int} (ts : List Str) (l : ts.length ≤ 7) (h : ∀ t ∈ ts, Wd 200 t) : ∀ q ∈ pairsOf so w ts, Wd 200 q.1 ∧ Wd 202 q.2 := by
  have a : ∀ (ts : List Str) (acc : List (Str × Str)), acc.length + ts.length ≤ 7 → (∀ t ∈ ts, Wd 200 t) → (∀ q ∈ acc, Wd 200 q.1 ∧ Wd 202 q.2) → ∀ q ∈ ts.foldl (fun ps t => ps ++ [(t, nameOf so w t ps)]) acc, Wd 200 q.1 ∧ Wd 202 q.2 := by
    intro ts
    induction ts with
    | nil => exact fun _ _ _ h => h
    | cons t ts ih =>
      intro acc l ht ha
      rw [List.length_cons] at l
      rw [List.foldl_cons]
      refine ih _ (by rw [List.length_append, List.length_singleton]; omega) (fun x hx => ht x (List.mem_cons_of_mem _ hx)) fun q hq => ?_
      rcases List.mem_append.mp hq with hq | hq
      · exact ha q hq
      · rw [List.mem_singleton.mp hq]
        exact ⟨ht t (List.mem_cons_self ..), wd_name (ht t (List.mem_cons_self ..)) (by omega)⟩
  exact a ts [] (by rw [List.length_nil]; omega) h fun q hq => by cases hq
end Gu
namespace Gu
open PySem PySem.Spec PyProof.Rows L2
/-! ### things made by their class -/
structure Mak (P : Program) (w : World) (K : PySem.W.Frag) (mg : Str → Option Value) (base : Heap) (k : Nat) (x : Str) (C : Addr) (sp : Sp) : Prop where
  ex : ∃ (f : Addr) (fd : FuncData) (ps : List Str), Mk K C f ∧ FnOk P w K mg base CX0 k f fd ps sp ∧ mg x = some (.ref C) ∧ Binds K fd ps []
section
variable {X : Cx} {k j : Nat} {x : Str} {C : Addr} {sp : Sp} {p pos : Pos} {e : Expr} {es : List Expr} {t : TA}
theorem pe_new (c : Mak X.prog X.w X.K X.mg X.base k x C sp) (hr : Room j X.A) (hk : k + 1 ≤ j) (hg : Gl X x) (ha : PA X (e :: es) t)
    (hdb : (x == ("__debug__" : Str)) = false := by decide) (he : starEach (e :: es) X.env = (false, eval e X.env) :: starEach es X.env := by rfl) (hpl : (backTo pos (starEach es X.env)).any (·.1) = false := by rfl) :
    PE X (.Call (.Name x p) (e :: es) [] pos) (tMake C sp [] E0 t) := by
  obtain ⟨f, fd, ps, M, F, hm, b⟩ := c.ex
  exact pe_make M F (hr.mono hk) hg hm b .nil pass0 ha hdb he hpl
end
end Gu
namespace Gu
open PySem PySem.Spec PyProof.Rows L2
/-! ### calls by keywords alone -/
structure CalK (P : Program) (w : World) (K : PySem.W.Frag) (mg : Str → Option Value) (base : Heap) (k : Nat) (x : Str) (ks : List Str) (gV : List V → List V) (sp : Sp) : Prop where
  ex : ∃ (f : Addr) (fd : FuncData) (ps : List Str) (g : List Value → List Value), FnOk P w K mg base CX0 k f fd ps sp ∧ mg x = some (.ref f) ∧ PySem.W.keepIn K (.ref f) = true ∧ KBn K fd ps 0 ks (fun _ ws => g ws) (fun _ zs => gV zs)
theorem Cal.kw {P : Program} {w : World} {K : PySem.W.Frag} {mg : Str → Option Value} {base : Heap} {k : Nat} {x : Str} {st : Stmt} {ps ks : List Str} {sp : Sp} (g : {α : Type} → List α → List α) (c : Cal P w K mg base k x ps sp) (D : At K mg x st ps)
    (hv : ∀ {zs : List V} {ws : List Value}, Vals zs ws → Vals (g zs) (g ws))
    (hb : ∀ (kV doc pm : Value) (an : Option Addr) (cdv ct : Value) (ws : List Value), ws.length = ks.length → bindArgs (PySem.W.fnOf x x (defArgs st) (defBody st) (defScope st) .none kV doc pm an cdv ct) ⟨[], ks.zip ws⟩ = pure (ps.zip (g ws))) : CalK P w K mg base k x ks g sp := by
  obtain ⟨f, fd, F, hm, kp, b, oc, od, sl, lk⟩ := c.ex
  obtain ⟨f2, fd2, F2, b2, hm2⟩ := D.ex
  cases hm.symm.trans hm2
  obtain ⟨oc2, od2, kV, doc, pm, an, cdv, ct, sl2, e, lk2, hcd⟩ := F2.ex
  cases lk.symm.trans lk2
  refine ⟨f, fd, ps, g, F, hm, kp, ⟨fun s us ws I l1 l2 => ?_, fun _ r => hv r⟩⟩
  cases us with
  | nil =>
    rw [e]
    exact BindsTo.of_eq (hb kV doc pm an cdv ct ws l2)
  | cons u r => cases l1
def tKw (m : Nat) (gV : List V → List V) (sp : Sp) (tk : TA) : TE := fun σ H Q => tk σ H fun zs G => zs.length = m ∧ sp (gV zs) G Q E0
section
variable {X : Cx} {k j : Nat} {x : Str} {ks : List Str} {gV : List V → List V} {sp : Sp} {p pos : Pos} {kws : List Keyword} {tk : TA}
theorem pe_kw (c : CalK X.prog X.w X.K X.mg X.base k x ks gV sp) (hr : Room j X.A) (hk : k ≤ j) (hg : Gl X x) (hkw : PK X kws tk) (hall : (backToKw pos (keywordEach kws X.env)).all (·.1.isSome) = true := by rfl)
    (hks : (backToKw pos (keywordEach kws X.env)).filterMap (·.1) = ks := by rfl) (hdb : (x == ("__debug__" : Str)) = false := by decide)
    (hpl : ((backTo pos (starEach [] X.env)).any (·.1) || (backToKw pos (keywordEach kws X.env)).any (·.1.isNone)) = false := by rfl) : PE X (.Call (.Name x p) [] kws pos) (tKw ks.length gV sp tk) := by
  obtain ⟨f, fd, ps, g, F, hm, kp, b⟩ := c.ex
  refine ⟨fun pins s σ H Q I h => ?_⟩
  refine wpAny_Call_Name_kw (ld_glob I hg hm ?_ hdb)
  refine PySem.W.callWith_KW0 (h₀ := X.base) I.ok.mod.kin kp hall ?_ hpl
  refine thn (hkw.run pos pins s σ H _ I h) fun ws s2 ⟨zs, G, I2, rz, l2, q2⟩ => ⟨I2.kIn, ?_⟩
  rw [hks]
  exact run_fnN (us := []) (vs := []) F (hr.mono hk) b pass0 I2 .nil rz rfl l2 q2
end
def swap2 {α : Type} : List α → List α
  | [a, b] => [b, a]
  | l => l
theorem swap2_vals {zs : List V} {ws : List Value} (r : Vals zs ws) : Vals (swap2 zs) (swap2 ws) := by
  cases r with
  | nil => exact .nil
  | cons a r =>
    cases r with
    | nil => exact .cons a .nil
    | cons b r =>
      cases r with
      | nil => exact .cons b (.cons a .nil)
      | cons c r => exact .cons a (.cons b (.cons c r))
theorem str_ext {a b : Str} (h : a.cps.toList = b.cps.toList) : a = b := by
  cases a
  cases b
  exact congrArg Str.mk (Array.ext' h)
end Gu
namespace Gu
open PySem PySem.Spec PyProof.Rows L2
/-! ### defs that are called where no container is being written out -/
structure FnG (P : Program) (w : World) (K : PySem.W.Frag) (mg : Str → Option Value) (base : Heap) (k : Nat) (f : Addr) (fd : FuncData) (ps : List Str) (sp : Sp) : Prop where
  len : ∀ vs H Q E, sp vs H Q E → vs.length = ps.length
  run : ∀ (A : Around) (outer : List Env) (s : Shared) (H : Hp) (args : Args) (us : List Value) (vs : List V) (Q : VK) (E : XK), Room k A → A.guards = some [] → Env0 P w K mg base A outer s H → BindsTo s fd args (ps.zip us) → Vals vs us → sp vs H Q E →
    codeAny (model P w) A (.call (.ref f) args) (CR CX0 outer P w H s Q E) s
section
variable {P : Program} {w : World} {K : PySem.W.Frag} {mg : Str → Option Value} {base : Heap}
theorem okG {x qual : Str} {st : Stmt} {f : Addr} {fd : FuncData} {N ps : List Str} {k : Nat} {sp : Sp} (F : Fun K x qual st f fd) (S : FnScope N ps (defScope st)) (len : ∀ vs H Q E, sp vs H Q E → vs.length = ps.length)
    (body : ∀ (cdv : Value) (A : Around) (outer : List Env) (s : Shared) (H : Hp) (vs : List V) (Q : VK) (E : XK), Room k (A.deeper (envOfC qual (defScope st) s.heap.objs.size f cdv)) → A.guards = some [] → sp vs H Q E →
      ∃ t, PSs (cxOf CX0 P w K mg base N qual (defScope st) f cdv A outer s H E).nox (defBody st) t ∧ t { nx := fun _ G => Q .non G, rt := Q } (start N vs) H) : FnG P w K mg base (k + 1) f fd ps sp := by
  obtain ⟨oc, od, kV, doc, pm, an, cdv, ct, osl, rfl, lk, hcd⟩ := F.ex
  refine ⟨len, fun A outer s H args us vs Q E room quiet env binds rel want => ?_⟩
  have stays : ∀ b o, base.get? b = some o → s.heap.get? b = some o := fun b o e => (env.bs b o e).1
  have inK : K.In s.heap := env.mod.kin.keeps stays
  have free : s.heap.NoLimit := env.mod.nolimit.keeps stays
  refine codeAny_call_function room.depth (inK _ _ lk) rfl S.co S.gen rfl (PySem.W.codeRec_of inK hcd) (binds _ _ _ _ ?_)
  refine wpAny_newFunctionEnv_cells S.kind (fun ⟨n, v⟩ hy => (S.par n (List.of_mem_zip hy).1).imp id fun q => ⟨q, PySem.W.cellsFrom_some _ _ _ (.inl q)⟩) fun env1 e1 s1 c1 => ?_
  subst e1
  refine ⟨free.keeps c1.toInCall.keep, codeAny_func ?_⟩
  obtain ⟨t, d, q⟩ := body cdv A outer s H vs Q E (room.deeper _) quiet want
  refine wpAny_mono (d.nox.run [] s1 (start N vs) H _ (inv_start S room.hd env (len _ _ _ _ want) rel c1) q) (fun fl s2 h2 => ?_) fun e s2 h2 => h2
  cases fl with
  | ret u =>
    obtain ⟨v, σ2, G, J, rv, r⟩ := h2
    exact ⟨v, G, J.os, J.bare, J.base, J.hok, rv, r⟩
  | next =>
    obtain ⟨σ2, G, J, r⟩ := h2
    exact ⟨V.non, G, J.os, J.bare, J.base, J.hok, rfl, r⟩
  | brk => exact (h2.choose_spec.choose_spec.2 : False).elim
  | cont => exact (h2.choose_spec.choose_spec.2 : False).elim
structure CalG (P : Program) (w : World) (K : PySem.W.Frag) (mg : Str → Option Value) (base : Heap) (k : Nat) (x : Str) (ps : List Str) (sp : Sp) : Prop where
  ex : ∃ (f : Addr) (fd : FuncData), FnG P w K mg base k f fd ps sp ∧ mg x = some (.ref f) ∧ PySem.W.keepIn K (.ref f) = true ∧ Binds K fd ps []
theorem At.calG {x : Str} {st : Stmt} {N ps : List Str} {k : Nat} {sp : Sp} (D : At K mg x st ps) (S : FnScope N ps (defScope st)) (len : ∀ vs H Q E, sp vs H Q E → vs.length = ps.length)
    (body : ∀ (f : Addr) (cdv : Value) (A : Around) (outer : List Env) (s : Shared) (H : Hp) (vs : List V) (Q : VK) (E : XK), Room k (A.deeper (envOfC x (defScope st) s.heap.objs.size f cdv)) → A.guards = some [] → sp vs H Q E →
      ∃ t, PSs (cxOf CX0 P w K mg base N x (defScope st) f cdv A outer s H E).nox (defBody st) t ∧ t { nx := fun _ G => Q .non G, rt := Q } (start N vs) H) : CalG P w K mg base (k + 1) x ps sp := by
  obtain ⟨f, fd, F, b, g⟩ := D.ex
  exact ⟨f, fd, okG F S len (body f), g, F.kp, b⟩
end
def tCallG (sp : Sp) (t : TA) : TE := fun σ H Q => t σ H fun vs G => sp vs G Q E0
section
variable {X : Cx} {k j : Nat} {x : Str} {ps : List Str} {sp : Sp} {p pos : Pos} {e : Expr} {es : List Expr} {t : TA}
theorem pe_ownG (c : CalG X.prog X.w X.K X.mg X.base k x ps sp) (hr : Room j X.A) (hk : k ≤ j) (quiet : X.A.guards = some []) (hg : Gl X x) (ha : PA X (e :: es) t)
    (hdb : (x == ("__debug__" : Str)) = false := by decide) (he : starEach (e :: es) X.env = (false, eval e X.env) :: starEach es X.env := by rfl) (hpl : (backTo pos (starEach es X.env)).any (·.1) = false := by rfl) :
    PE X (.Call (.Name x p) (e :: es) [] pos) (tCallG sp t) := by
  obtain ⟨f, fd, F, hm, kp, b⟩ := c.ex
  refine ⟨fun pins s σ H Q I h => wpAny_Call_Name_kw (ld_glob I hg hm (PySem.W.callWith_K (h₀ := X.base) I.ok.mod.kin kp (thn (ha.run pos pins s σ H _ I h) fun us s1 ⟨vs, G, I1, r, q⟩ => ⟨I1.kIn, ?_⟩) he hpl) hdb)⟩
  have ll : (us ++ []).length = ps.length := by
    rw [List.append_nil, ← r.length]
    exact F.len _ _ _ _ q
  have bt := b s1 us I1.kIn ll
  rw [List.append_nil] at bt
  refine wpAny_call (codeAny_mono (F.run X.A X.stack s1 G ⟨us, []⟩ us vs Q E0 (hr.mono hk) quiet I1.env0 bt r q) fun rr s2 h2 => ?_)
  cases rr with
  | error e => exact (h2 : False).elim
  | ok fl =>
    cases fl with
    | ret u => exact I1.after h2
    | next => exact (h2 : False).elim
    | brk => exact (h2 : False).elim
    | cont => exact (h2 : False).elim
end
end Gu
namespace Gu
open PySem PySem.Spec PyProof.Rows L2
/-- a heap in which nothing is tracked but, at most, the script at a, which stands still there -/
theorem quiet_end {P : Program} {w : World} {K : PySem.W.Frag} {mg mb : Str → Option Value} {k : Nat} {fa a : Addr} {fd : FuncData} {x : Str} {sp : Sp} {s : Shared} {us : List Value} {H : Hp} (inK : K.In s.heap) (nsG : s.heap.Ns mainGlobals mg) (nsB : s.heap.Ns builtinsNs mb)
    (bb : ∀ x : Str, x ≠ "__name__" → mb x = bootBuiltins x) (nl : s.heap.NoLimit) (ng : s.gens = #[]) (at_a : s.heap.get? a = some { cls := .type "list", data := .seq us.toArray }) (room : Room k callerA)
    (F : ∀ base : Heap, K.In base → base.Ns mainGlobals mg → FnG P w K mg base k fa fd [x] sp) (bind : ∀ (s : Shared) (u : Value), BindsTo s fd ⟨[u], []⟩ [(x, u)]) (want : sp [.ref a] H (fun v _ => v = .bl true) fun _ _ _ => False)
    (only : Only H) (ok : HOk P w H s.heap) (one : ∀ b, H b ≠ none → b = a ∧ K.lookup a = none) :
    codeAny (model P w) callerA (.call (.ref fa) ⟨[.ref a], []⟩) (fun r s2 => r = .ok (.ret (.bool true)) ∧ OldK s.heap s2.heap ∧ s2.os = s.os ∧ AllBare s2.gens) s := by
  have dictFree : ∀ (b : Addr) (o : Obj) (es : Array DictEntry) (ep : Nat), s.heap.get? b = some o → o.data = .dict es ep → H b = none := fun b o es ep e d =>
    Classical.byContradiction fun z => by
      have hb := (one b z).1
      rw [hb, at_a] at e
      cases e
      exact Data.noConfusion d
  have hiddenNs : ∀ (b : Addr) (m : Str → Option Value), s.heap.Ns b m → (hidT s.heap H).Ns b m := fun b m h => by
    obtain ⟨o, es, ep, e, d, r⟩ := h
    exact ⟨o, es, ep, hidT_get e (dictFree b o es ep e d), d, r⟩
  have hiddenK : K.In (hidT s.heap H) := fun b o e => hidT_get (inK b o e) (Classical.byContradiction fun z => by
    obtain ⟨h1, h2⟩ := one b z
    rw [h1, h2] at e
    cases e)
  have env : Env0 P w K mg (hidT s.heap H) callerA [] s H := by
    refine ⟨rfl, ⟨hiddenK, hiddenNs _ _ nsG, ⟨mb, hiddenNs _ _ nsB, bb⟩, ?_⟩, fun b o e => of_hidT e, Nat.le_of_eq (hidT_size _ _), trivial, fun b hb => absurd (show b ∈ ([] : List Addr) from hb) List.not_mem_nil, ok, .of_eq ng⟩
    obtain ⟨mc, h1, h2⟩ := nl
    exact ⟨mc, hiddenNs _ _ h1, h2⟩
  refine codeAny_mono ((F _ hiddenK (hiddenNs _ _ nsG)).run callerA [] s H ⟨[.ref a], []⟩ [.ref a] [.ref a] _ _ room rfl env (bind s (.ref a)) (.cons rfl .nil) want) fun r s2 h2 => ?_
  cases r with
  | error e => exact (h2 : False).elim
  | ok fl =>
    cases fl with
    | next => exact (h2 : False).elim
    | brk => exact (h2 : False).elim
    | cont => exact (h2 : False).elim
    | ret u =>
      obtain ⟨v, G, os, bare, un, ok2, rv, hv⟩ := h2
      cases (show v = .bl true from hv)
      cases (show u = Value.bool true from rv)
      refine ⟨rfl, OldK.of_keep fun b o e => ?_, os, bare⟩
      rcases only b with z | ⟨ob, xs, z⟩
      · exact un.keep b o e z (fun y => absurd (show b ∈ ([] : List Addr) from y) List.not_mem_nil) (by simp)
      · have e1 := (ok b _ z).1
        have e2 := (ok2 b _ (un.frzs b ob _ z)).1
        rw [e] at e1
        cases e1
        exact e2
/-- the law's call, by its promise -/
theorem quiet_call {P : Program} {w : World} {K : PySem.W.Frag} {mg mb : Str → Option Value} {k : Nat} {fa a : Addr} {fd : FuncData} {x : Str} {sp : Sp} {s : Shared} {us : List Value} {ns : List Int} (inK : K.In s.heap) (nsG : s.heap.Ns mainGlobals mg) (nsB : s.heap.Ns builtinsNs mb)
    (bb : ∀ x : Str, x ≠ "__name__" → mb x = bootBuiltins x) (nl : s.heap.NoLimit) (ng : s.gens = #[]) (at_a : s.heap.get? a = some { cls := .type "list", data := .seq us.toArray }) (nums : IntsAre us ns) (small : ns.length ≤ sizeLine) (room : Room k callerA)
    (F : ∀ base : Heap, K.In base → base.Ns mainGlobals mg → FnG P w K mg base k fa fd [x] sp) (bind : ∀ (s : Shared) (u : Value), BindsTo s fd ⟨[u], []⟩ [(x, u)])
    (want : ∀ H : Hp, SqL K H a (ns.map V.int) → sp [.ref a] H (fun v _ => v = .bl true) fun _ _ _ => False) :
    codeAny (model P w) callerA (.call (.ref fa) ⟨[.ref a], []⟩) (fun r s2 => r = .ok (.ret (.bool true)) ∧ OldK s.heap s2.heap ∧ s2.os = s.os ∧ AllBare s2.gens) s := by
  have rel := vals_ints nums
  cases hk : K.lookup a with
  | some o =>
    have e := inK a o hk
    rw [at_a] at e
    cases e
    refine quiet_end (H := fun _ => none) inK nsG nsB bb nl ng at_a room F bind (want _ (.inr ⟨_, us.toArray, _, hk, rfl, rfl, rfl, ?_, rel⟩)) (fun _ => .inl rfl) (fun b u z => nomatch (show (none : Option HO) = some u from z)) fun b z => absurd rfl z
    rw [List.size_toArray, nums.length]
    exact small
  | none =>
    refine quiet_end (H := upd (fun _ => none) a (.frz { cls := .type "list", data := .seq us.toArray } (.lst (ns.map V.int)))) inK nsG nsB bb nl ng at_a room F bind (want _ (.inl (.inr ⟨_, upd_same⟩))) (fun b => ?_) (fun b u z => ?_) fun b z => ?_
    · by_cases hb : b = a
      · exact .inr ⟨_, _, by rw [hb]; exact upd_same⟩
      · exact .inl (upd_ne hb)
    · by_cases hb : b = a
      · subst hb
        rw [upd_same] at z
        cases z
        exact ⟨at_a, by rw [List.length_map]; exact small, us, _, rel, at_a⟩
      · rw [upd_ne hb] at z
        cases z
    · by_cases hb : b = a
      · exact ⟨hb, hk⟩
      · exact absurd (upd_ne hb) z
theorem walkG {l : PySem.W.OpenLaw} {n k : Nat} {q : Program} {loose : List Str} {XP : (Str → Option Value) → Heap → Prop} {YP : World → Heap → Prop} {d : DefRec} {K : Params → PySem.W.Frag} {x : Str} {sp : PySem.W.Frag → Sp} (most : l.most = some n) (small : n ≤ sizeLine) (plain : d.params.defaults = []) (room : Room k callerA)
    (left : ∀ (w : World) (h : Heap), YP w h → (K w.params).In h)
    (F : ∀ (w : World) (mg : Str → Option Value) (fa : Addr) (h : Heap), (K w.params).In h → h.Ns mainGlobals mg → mg d.name = some (.ref fa) → ∃ fd : FuncData, (∀ (s : Shared) (u : Value), BindsTo s fd ⟨[u], []⟩ [(x, u)]) ∧
      ∀ base : Heap, (K w.params).In base → base.Ns mainGlobals mg → FnG l.prog w (K w.params) mg base k fa fd [x] (sp (K w.params)))
    (want : ∀ (w : World) (H : Hp) (a : Addr) (ns : List Int), ns.length ≤ n → SqL (K w.params) H a (ns.map V.int) → sp (K w.params) [.ref a] H (fun v _ => v = .bl true) fun _ _ _ => False) :
    PySem.W.WalkO q loose XP YP l.row.toRowW d [] (fun f vs => PySem.call f vs) := by
  refine Att.attach_call most plain fun w s0 s mg mb fa o pm cd doc a us ns G Y ho hd hcd hmg at_a nums le ng => ?_
  obtain ⟨fd, bind, fn⟩ := F w mg fa _ (left w _ Y) G.T.g hmg
  exact quiet_call (left w _ Y) G.T.g G.T.b G.T.builtins G.T.nolimit ng at_a nums (Nat.le_trans le small) room fn bind fun H hS => want w H a ns le hS
end Gu
namespace Gu
open PySem PySem.Spec PyProof.Rows L2
/-! ### what can be written out -/
structure Fine (n W : Nat) (d : PyData) : Prop where
  nd : d.hasDict = false
  sh : d.showable = true
  ls : d.leavesShort 80 = true
  dp : d.depth ≤ n
  wt : d.weight ≤ W
structure FineAll (n W : Nat) (ds : List PyData) : Prop where
  nd : PyData.hasDictAll ds = false
  sh : PyData.showableAll ds = true
  ls : PyData.leavesShortAll 80 ds = true
  dp : PyData.depthAll ds ≤ n
  wt : PyData.weightAll ds ≤ ds.length * (W + 1)
theorem FineAll.of {n W : Nat} : ∀ {ds : List PyData}, (∀ d ∈ ds, Fine n W d) → FineAll n W ds
  | [], _ => ⟨rfl, rfl, rfl, Nat.zero_le _, Nat.zero_le _⟩
  | d :: ds, h => by
    have a := h d (List.mem_cons_self ..)
    have b := FineAll.of (ds := ds) fun e he => h e (List.mem_cons_of_mem _ he)
    refine ⟨?_, ?_, ?_, Nat.max_le.mpr ⟨a.dp, b.dp⟩, ?_⟩
    · show (d.hasDict || PyData.hasDictAll ds) = false
      rw [a.nd, b.nd]
      rfl
    · show (d.showable && PyData.showableAll ds) = true
      rw [a.sh, b.sh]
      rfl
    · show (d.leavesShort 80 && PyData.leavesShortAll 80 ds) = true
      rw [a.ls, b.ls]
      rfl
    · show d.weight + 1 + PyData.weightAll ds ≤ (ds.length + 1) * (W + 1)
      have := a.wt
      have := b.wt
      rw [Nat.succ_mul]
      omega
theorem FineAll.list {n W : Nat} {ds : List PyData} (a : FineAll n W ds) : Fine (n + 1) (ds.length * (W + 1)) (.list ds) := ⟨a.nd, a.sh, a.ls, Nat.succ_le_succ a.dp, a.wt⟩
theorem FineAll.tup {n W : Nat} {ds : List PyData} (a : FineAll n W ds) : Fine (n + 1) (ds.length * (W + 1)) (.tuple ds) := ⟨a.nd, a.sh, a.ls, Nat.succ_le_succ a.dp, a.wt⟩
theorem Fine.mono {n m W Z : Nat} {d : PyData} (h : Fine n W d) (a : n ≤ m) (b : W ≤ Z) : Fine m Z d := ⟨h.nd, h.sh, h.ls, Nat.le_trans h.dp a, Nat.le_trans h.wt b⟩
theorem Fine.bool (b : Bool) : Fine 0 0 (.bool b) := ⟨rfl, rfl, rfl, Nat.le_refl _, Nat.le_refl _⟩
theorem Fine.none : Fine 0 0 .none := ⟨rfl, rfl, rfl, Nat.le_refl _, Nat.le_refl _⟩
theorem Fine.int {i : Int} (h : i.natAbs < 2 ^ 70) : Fine 0 70 (.int i) := by
  have l : i.natAbs.log2 < 70 := PySem.Flt.log2_lt_of (by decide) h
  refine ⟨rfl, decide_eq_true (by omega), decide_eq_true ?_, Nat.le_refl _, ?_⟩
  · have e := int_text_length_le (a := i) (k := 70) (by decide) l
    show (Str.ofString (toString i)).length ≤ 80
    rw [PySem.ofString_length]
    omega
  · show (if i == 0 then 0 else i.natAbs.log2 + 1) ≤ 70
    split <;> omega
theorem Fine.str {z : Str} {W : Nat} (h : ∀ c ∈ z.cps.toList, c < 16 ^ 8) (w : z.cps.toList.length ≤ W) : Fine 0 W (.str z) := by
  refine ⟨rfl, rfl, ?_, Nat.le_refl _, w⟩
  show (z.cps.toList.all fun c => decide (c < 16 ^ 8)) = true
  rw [List.all_eq_true]
  exact fun c hc => decide_eq_true (h c hc)
theorem Fine.fits {d : PyData} (h : Fine 60 100000 d) : d.shown.length ≤ sizeLine := by
  have a := PyData.shown_le 80 (by decide) d h.ls
  have b := h.wt
  have c : (80 + 2) * d.weight ≤ 82 * 100000 := Nat.mul_le_mul_left _ b
  have e : sizeLine = 16777216 := by decide
  omega
section
variable {X : Cx}
/-- repr of a list or tuple, where none is being written out -/
theorem call_reprD (quiet : X.A.guards = some []) (hu : X.A.units + 64 < cLine) : CallR X (.builtin "repr") (fun xs H Q => ∃ (a : Addr) (d : PyData), xs = [.ref a] ∧ Dp X.K H (.ref a) d ∧ Fine 60 100000 d ∧ Q (.str d.shown) H) := by
  intro pins s σ H xs us Q I r h
  obtain ⟨a, d, rfl, hd, fine, q⟩ := h
  cases r with
  | cons r rr =>
    cases rr
    cases (show _ = Value.ref a from r)
    obtain ⟨as, rd⟩ := Dp.reads I d (.ref a) (.ref a) hd rfl
    have dp := fine.dp
    exact repr_of_reads' rd fine.sh (PyData.noDict_hsm fine.nd) quiet (by omega) (fun _ _ e => e) (fun g u tk keep => ⟨.str d.shown, H, I.kept (t' := tk) keep, ⟨_, rfl⟩, q⟩) fine.fits
end
end Gu
namespace Gu
open PySem PySem.Spec PyProof.Rows L2 HT
/-! ### t[::-1] of a tuple -/
theorem fm_congr {α β : Type} {f g : α → Option β} : ∀ {l : List α}, (∀ m ∈ l, f m = g m) → l.filterMap f = l.filterMap g
  | [], _ => rfl
  | a :: l, h => by
    rw [List.filterMap_cons, List.filterMap_cons, h a (List.mem_cons_self ..), fm_congr fun m hm => h m (List.mem_cons_of_mem _ hm)]
/-- the places, from the last one down -/
theorem back_pick (xs : Array Value) : ((List.range xs.size).filterMap fun (m : Nat) => xs[(((xs.size : Nat) : Int) - 1 + (m : Int) * -1).toNat]?).toArray = xs.toList.reverse.toArray := by
  have e : ∀ m ∈ List.range xs.size, (fun (m : Nat) => xs[(((xs.size : Nat) : Int) - 1 + (m : Int) * -1).toNat]?) m = ((xs[·]?) ∘ fun k => xs.size - 1 - k) m := fun m hm => by
    have := List.mem_range.mp hm
    have e2 : (((xs.size : Nat) : Int) - 1 + (m : Int) * -1).toNat = xs.size - 1 - m := by omega
    exact congrArg (xs[·]?) e2
  rw [fm_congr e, ← List.filterMap_map, PySem.W.krv_range, List.filterMap_reverse, PySem.W.krv_all]
theorem back_places (n : Nat) : Builtin.Slice.slicePlaces ((n : Int) - 1) (-1) (-1) = n := by
  have down : ¬ (-1 : Int) > 0 := by omega
  have one : (- -1 : Int) = 1 := by omega
  simp only [Builtin.Slice.slicePlaces, down, if_false, one, Int.ediv_one]
  split <;> omega
section
variable {prog : Program} {w : World} {A : Around} {E : Value → Shared → Prop} {z : Shared} {t c : Addr} {its : Array Value} {v1 v2 v3 : Value} {R : Value → Shared → Prop}
/-- a slice without bounds and with the step -1, over n places -/
theorem back_applied {n : Nat} {R : Int × Int × Nat → Shared → Prop} (at_c : z.heap.IsSliceOf c v1 v2 v3) (a1 : IsPart v1 none) (a2 : IsPart v2 none) (a3 : IsPart v3 (some (-1))) (k : R ((n : Int) - 1, -1, n) z) : wpAny (model prog w) A (Builtin.Slice.sliceApplied (.ref c) (pure (n : Int))) R E z := by
  obtain ⟨o, g, _, d⟩ := id at_c
  have last : wpAny (model prog w) A (pure ((n : Int) - 1, (-1 : Int), Builtin.Slice.slicePlaces ((n : Int) - 1) (-1) (-1))) R E z := wpAny_pure (by rw [back_places]; exact k)
  have parts : wpAny (model prog w) A (Builtin.Slice.sliceFields (.ref c)) (fun f y => f = (v1, v2, v3) ∧ y = z) E z := wpAny_bind (wpAny_field g d (x := v1) rfl (wpAny_bind (wpAny_field g d (x := v2) rfl (wpAny_bind (wpAny_field g d (x := v3) rfl (wpAny_pure ⟨rfl, rfl⟩))))))
  refine wpAny_bind (wpAny_mono parts (fun f y ⟨ef, ey⟩ => ?_) fun _ _ x => x)
  subst ef ey
  exact wpAny_bind (slicePart_ a3 (wpAny_bind (slicePart_ a1 (wpAny_bind (slicePart_ a2 (wpAny_bind (wpAny_pure last)))))))
theorem back_item (at_t : IsTup z.heap t its) (at_c : z.heap.IsSliceOf c v1 v2 v3) (a1 : IsPart v1 none) (a2 : IsPart v2 none) (a3 : IsPart v3 (some (-1))) (small : its.size ≤ sizeLine)
    (k : R (.ref z.heap.objs.size) { z with heap := z.heap.push { cls := .type "tuple", data := .seq its.toList.reverse.toArray } }) : wpAny (model prog w) A (getItem (.ref t) (.ref c)) R E z := by
  have fits : sizeOk (.seq its.toList.reverse.toArray) := by
    rw [sizeOk, List.size_toArray, List.length_reverse, Array.length_toList]
    exact small
  obtain ⟨o, g, cl, _⟩ := id at_c
  have other : ((its.size : Int) - 1 == 0 && (-1 : Int) == 1 && its.size == its.size) = false := by
    rw [show ((-1 : Int) == 1) = false from rfl, Bool.and_false]
    rfl
  refine wpAny_getItem_slot at_t.typeIs (by decide) PyProof.Rows.slot_tuple_getitem (wpAny_call_entry PyProof.Rows.slot_tuple_getitem at_t.typeIs entry_tuple_getitem ?_ (args_tuple_getitem _ _))
  refine wpAny_bind (m := Builtin.Tuple.tupleItemsOf (.ref t)) (tupleItemsOf_ at_t (wpAny_bind (wpAny_typeOf (T := "slice") ⟨o, g, cl⟩ ?_)))
  rw [if_pos (by decide)]
  refine wpAny_bind (back_applied at_c a1 a2 a3 ?_)
  show wpAny _ _ (if ((its.size : Int) - 1 == 0 && (-1 : Int) == 1 && its.size == its.size) = true then _ else _) _ _ z
  rw [other, if_neg (by decide), back_pick]
  have made : wpAny (model prog w) A.in1 (Builtin.Tuple.tupleExact its.toList.reverse.toArray) (fun v y => v = .ref z.heap.objs.size ∧ y = { z with heap := z.heap.push { cls := .type "tuple", data := .seq its.toList.reverse.toArray } }) E z := wpAny_newObj_type ⟨rfl, rfl⟩ fits
  refine wpAny_bind (wpAny_mono made (fun v y ⟨ev, ey⟩ => ?_) fun _ _ x => x)
  subst ev ey
  exact wpAny_pure ⟨_, rfl, k⟩
end
section
variable {X : Cx}
def tRevT (K : PySem.W.Frag) (te : TE) : TE := fun σ H Q => te σ H fun x G => ∃ a xs, x = .ref a ∧ SqT K G a xs ∧ ∀ p, G p = none → Q (.ref p) (upd G p (.tup xs.reverse))
theorem pe_revT {e : Expr} {te : TE} {k : Nat} {p1 p2 p3 pos : Pos} (he : PE X e te) : PE X (.Subscript e (.Slice none none (some (.UnaryOp .USub (.Constant (.int 1) k p1) p2)) p3) pos) (tRevT X.K te) := by
  have step : PO X (some (.UnaryOp .USub (.Constant (.int 1) k p1) p2)) (tPart (tUn (rU fun i => .int (-i)) (tC (.int 1)))) := po_some (pe_un un_neg pe_int)
  refine ⟨fun pn z0 st H0 R inv want => Subscript_ (thn (he.run pn z0 st H0 _ inv want) fun v z1 ⟨y, H1, inv1, rel, a, xs, ey, sq, go⟩ => ?_)⟩
  subst ey
  cases rel
  refine wpAny_Slice (thn (po_none.run pn z1 st H1 (fun o G => o = none ∧ G = H1) inv1 ⟨rfl, rfl⟩) fun v1 z2 ⟨o1, H2, inv2, a1, b1, c1⟩ => thn (po_none.run pn z2 st H2 (fun o G => o = none ∧ G = H1) inv2 ⟨rfl, c1⟩) fun v2 z3 ⟨o2, H3, inv3, a2, b2, c2⟩ => thn (step.run pn z3 st H3 (fun o G => o = some (-1) ∧ G = H1) inv3 ⟨1, rfl, -1, rfl, rfl, c2⟩) fun v3 z4 ⟨o3, H4, inv4, a3, b3, c3⟩ => ?_)
  subst b1 c1 b2 b3
  subst c2
  subst c3
  have inv5 := inv4.kept (t' := z4.toks) (h' := z4.heap.push { cls := .type "slice", data := .fields #[v1, v2, v3] }) fun b ob g => Heap.get?_push_of_some _ g
  obtain ⟨its, r, tup, small⟩ := inv5.tuple sq
  have len : its.toArray.size ≤ sizeLine := by
    have := r.length
    rw [List.size_toArray]
    omega
  refine tail_any (ops := [.ref a, .ref z4.heap.objs.size]) tup.typeIs PyProof.Rows.slot_tuple_getitem.lookup (back_item tup (Heap.IsSliceOf.new _ v1 v2 v3) a1 a2 a3 len ?_) (by with_unfolding_all rfl)
  exact ⟨.ref _, _, inv5.laid (t' := z4.toks) (o := .tup xs.reverse) (fun b ob g => Heap.get?_push_of_some _ g) (Nat.le_refl _) ⟨by rw [List.length_reverse]; exact small, _, r.reverse, _, Heap.get?_push_size _ rfl, rfl, _, rfl⟩, rfl, go _ (inv5.hok.fresh (Nat.le_refl _))⟩
end
end Gu
namespace Gu
open PySem PySem.Spec PyProof.Rows L2
def spRight : Sp := fun vs H Q _ => ∃ (p : Addr), vs = [.ref p] ∧ Pot H p ∧ ∀ G, Ladled p H G → Q (.bl true) G
end Gu
namespace Gu
open PySem PySem.Spec PyProof.Rows L2
def sorts : List Str := ["count", "free", "tight"]
section
variable {P : Program} {w : World} {K : PySem.W.Frag} {mg : Str → Option Value} {base : Heap} {C : Addr}
/-- Namer.__init__, Nm: what stands at a namer -/
def spNInit (C : Addr) (Nm : Hp → Addr → Str → Int → Prop) : Sp := fun vs H Q _ => ∃ (x dx : Addr) (so : Str) (w : Int), vs = [.ref x, .str so, .int w] ∧ H x = some (.ins C dx []) ∧ so ∈ sorts ∧ 6 ≤ w ∧ w ≤ 40 ∧
  ∀ (G : Hp), Nm G x so w → (∀ c o, H c = some o → c ≠ x → G c = some o) → Q .non G
def spNamesP (K : PySem.W.Frag) (Nm : Hp → Addr → Str → Int → Prop) : Sp := fun vs H Q _ => ∃ (x l : Addr) (so : Str) (w : Int) (ts : List Str), vs = [.ref x, .ref l] ∧ Nm H x so w ∧ so ∈ sorts ∧ 6 ≤ w ∧ w ≤ 40 ∧ SqT K H l (ts.map V.str) ∧ ts.length ≤ 6 ∧ (∀ t ∈ ts, Wd 200 t) ∧
  ∀ (p : Addr) (G : Hp), SqT K G p ((namesOf so w ts).map V.str) → Same H G → Q (.ref p) G
theorem names_wd {so : Str} {w : Int} {ts : List Str} (l : ts.length ≤ 6) (h : ∀ t ∈ ts, Wd 200 t) : ∀ y ∈ namesOf so w ts, Wd 202 y := fun y hy => by
  obtain ⟨q, hq, rfl⟩ := List.mem_map.mp hy
  exact (pairs_wd ts (by omega) h q hq).2
theorem names_len (so : Str) (w : Int) (ts : List Str) : (namesOf so w ts).length = ts.length := by
  unfold namesOf
  rw [List.length_map, pairsOf_len]
theorem dp_strs {K : PySem.W.Frag} {H : Hp} : ∀ ys : List Str, DpAll K H (ys.map V.str) (ys.map PyData.str)
  | [] => .nil
  | y :: ys => .cons (.str y) (dp_strs ys)
theorem fine_strs {ys : List Str} (l : ys.length ≤ 100) (h : ∀ y ∈ ys, Wd 300 y) : Fine 60 100000 (.tuple (ys.map PyData.str)) := by
  have a : ∀ c ∈ abc.cps.toList, c < 16 ^ 8 := by decide +kernel
  have b : FineAll 0 300 (ys.map PyData.str) := FineAll.of fun d hd => by
    obtain ⟨y, hy, rfl⟩ := List.mem_map.mp hd
    exact Fine.str (fun c hc => a c ((h y hy).sgn c hc)) (h y hy).len
  refine b.tup.mono (by decide) ?_
  rw [List.length_map]
  have := Nat.mul_le_mul_right (300 + 1) l
  omega
/-! names are short -/
theorem wd_num {m : Nat} {so t : Str} {w k : Int} (h : Wd m (nbase w t)) (h0 : 0 ≤ k) (h1 : k < 10) : Wd (m + 2) (numbered so w t k) := by
  have a : Wd 2 (ending k) := (wd_lit (z := ("~" : String)) (n := 1) (by decide +kernel)).app (wd_digit h0 h1) (by decide)
  unfold numbered
  split
  · exact (h.cut _ _).app a (Nat.le_refl _)
  · exact h.app a (Nat.le_refl _)
theorem short_seek {m : Nat} {so t : Str} {w : Int} {ys : List Str} (h : Wd m (nbase w t)) : ∀ (k a : Nat), a + k < 8 → Wd (m + 2) (seek (cand so w t) ys k a)
  | 0, a, l => wd_num h (by omega) (by omega)
  | k + 1, a, l => by
    unfold seek
    split
    · exact short_seek h k (a + 1) (by omega)
    · exact wd_num h (by omega) (by omega)
theorem short_name {n : Nat} {so t : Str} {w : Int} {ps : List (Str × Str)} (h : Wd n t) (w0 : 0 ≤ w) (w1 : w ≤ 40) (l : ps.length ≤ 6) : Wd 42 (nameOf so w t ps) := by
  have b : Wd 40 (nbase w t) := wd_head h.sgn w0 (by omega)
  have m : (mates w t ps).length ≤ ps.length := List.length_filter_le ..
  unfold nameOf
  split
  · split
    · exact b.mono (by decide)
    · exact wd_num b (by omega) (by omega)
  · split
    · exact short_seek b _ _ (by rw [List.length_map]; omega)
    · exact b.mono (by decide)
theorem pairs_are {so : Str} {w : Int} (ts : List Str) (l : ts.length ≤ 7) : ∀ q ∈ pairsOf so w ts, ∃ ps : List (Str × Str), q.1 ∈ ts ∧ ps.length ≤ 6 ∧ q.2 = nameOf so w q.1 ps := by
  have a : ∀ (ts : List Str) (acc : List (Str × Str)) (all : List Str), acc.length + ts.length ≤ 7 → (∀ t ∈ ts, t ∈ all) → (∀ q ∈ acc, ∃ ps : List (Str × Str), q.1 ∈ all ∧ ps.length ≤ 6 ∧ q.2 = nameOf so w q.1 ps) → ∀ q ∈ ts.foldl (fun ps t => ps ++ [(t, nameOf so w t ps)]) acc, ∃ ps : List (Str × Str), q.1 ∈ all ∧ ps.length ≤ 6 ∧ q.2 = nameOf so w q.1 ps := by
    intro ts
    induction ts with
    | nil => exact fun _ _ _ _ h => h
    | cons t ts ih =>
      intro acc all l ht ha
      rw [List.length_cons] at l
      rw [List.foldl_cons]
      refine ih _ all (by rw [List.length_append, List.length_singleton]; omega) (fun x hx => ht x (List.mem_cons_of_mem _ hx)) fun q hq => ?_
      rcases List.mem_append.mp hq with hq | hq
      · exact ha q hq
      · rw [List.mem_singleton.mp hq]
        exact ⟨acc, ht t (List.mem_cons_self ..), by omega, rfl⟩
  exact a ts [] ts (by rw [List.length_nil]; omega) (fun _ h => h) fun q hq => by cases hq
theorem names_short {so : Str} {w : Int} {ts : List Str} (l : ts.length ≤ 6) (h : ∀ t ∈ ts, Wd 200 t) (w0 : 0 ≤ w) (w1 : w ≤ 40) : ∀ y ∈ namesOf so w ts, Wd 42 y := fun y hy => by
  obtain ⟨q, hq, rfl⟩ := List.mem_map.mp hy
  obtain ⟨ps, h1, h2, h3⟩ := pairs_are ts (by omega) q hq
  rw [h3]
  exact short_name (h _ h1) w0 w1 h2
end
end Gu
namespace Gu
open PySem PySem.Spec PyProof.Rows L2
/-! ### names judged -/
theorem cutS_all (b : Str) : cutS b none (some (b.length : Int)) = b := by
  have e : (cutS b none (some (b.length : Int))).cps.toList = b.cps.toList := by
    rw [cutS_head b (by omega), Int.toNat_natCast]
    exact List.take_length
  cases b
  exact congrArg Str.mk (Array.ext' e)
theorem seek_free {f : Nat → Str} {ys : List Str} : ∀ (k a : Nat), (∃ d, d ≤ k ∧ f (a + d) ∉ ys) → seek f ys k a ∉ ys
  | 0, a, ⟨d, h, n⟩ => by
    have e : d = 0 := by omega
    subst e
    exact n
  | k + 1, a, ⟨d, h, n⟩ => by
    unfold seek
    split
    · rename_i hin
      cases d with
      | zero => exact absurd hin n
      | succ d => exact seek_free k (a + 1) ⟨d, by omega, by rw [show a + 1 + d = a + (d + 1) by omega]; exact n⟩
    · assumption
theorem cutS_short {y : Str} {h : Int} (h0 : 0 ≤ h) : ((cutS y none (some h)).length : Int) ≤ h := by
  show ((cutS y none (some h)).cps.toList.length : Int) ≤ h
  rw [cutS_head y h0, List.length_take]
  omega
theorem str_len (a b : Str) : (a ++ b).length = a.length + b.length := by
  show (a ++ b).cps.toList.length = _
  rw [str_app, List.length_append]
  rfl
theorem tight_len {so t : Str} {w n : Int} (hs : so = ("tight" : String)) (w0 : 6 ≤ w) (h0 : 0 ≤ n) (h1 : n < 10) : ((numbered so w t n).length : Int) ≤ w := by
  have el := ending_len h0 h1
  unfold numbered
  rw [decide_eq_true hs, Bool.true_and]
  split
  · rw [str_len]
    have := cutS_short (y := nbase w t) (h := w - (ending n).length) (by omega)
    omega
  · rename_i h
    rw [str_len]
    have := of_decide_eq_false (Bool.eq_false_iff.mpr h)
    omega
/-- what free and tight give for t where ys are taken -/
def freeOf (so : Str) (w : Int) (t : Str) (ys : List Str) : Str := if nbase w t ∈ ys then seek (cand so w t) ys ys.length 0 else nbase w t
theorem freeOf_new {so : Str} {w : Int} {t : Str} {ys : List Str} (h : ys.length ≤ 6) : freeOf so w t ys ∉ ys := by
  unfold freeOf
  split
  · refine seek_free _ _ (Classical.byContradiction fun h2 => some_free (so := so) (w := w) (t := t) h fun j hj => Classical.byContradiction fun h3 => h2 ⟨j, by omega, by rw [Nat.zero_add]; exact h3⟩)
  · assumption
theorem seek_tight {so t : Str} {w : Int} {ys : List Str} (hs : so = ("tight" : String)) (w0 : 6 ≤ w) : ∀ (k a : Nat), a + k < 8 → ((seek (cand so w t) ys k a).length : Int) ≤ w
  | 0, a, l => tight_len hs w0 (by omega) (by omega)
  | k + 1, a, l => by
    unfold seek
    split
    · exact seek_tight hs w0 k (a + 1) (by omega)
    · exact tight_len hs w0 (by omega) (by omega)
theorem freeOf_tight {so : Str} {w : Int} {t : Str} {ys : List Str} (hs : so = ("tight" : String)) (w0 : 6 ≤ w) (h : ys.length ≤ 6) : ((freeOf so w t ys).length : Int) ≤ w := by
  unfold freeOf
  split
  · exact seek_tight hs w0 _ _ (by omega)
  · exact cutS_short (by omega)
section
variable {P : Program} {w : World} {K : PySem.W.Frag} {mg : Str → Option Value} {base : Heap}
def spMade44 : Sp := fun vs H Q _ => ∃ (so t : Str) (w n : Int), vs = [.str (nbase w t), .int n, .str so, .int w] ∧ t.length ≤ 900 ∧ 0 ≤ n ∧ n < 10 ∧ Q (.str (if n = 1 then nbase w t else numbered so w t n)) H
theorem cal_made44 (B : Bi mg) (D : At K mg "_law_made" s_law_made ps_law_made) : Cal P w K mg base 1 "_law_made" ps_law_made spMade44 := by
  refine D.cal sc_law_made (fun vs H Q E h => ?_) (fun f cdv A outer s H vs Q E hr h => ?_)
  · obtain ⟨so, t, w, n, rfl, _⟩ := h
    rfl
  · obtain ⟨so, t, w, n, rfl, tl, n0, n1, k⟩ := h
    have el := ending_len n0 n1
    have bl : (nbase w t).length ≤ 900 := Nat.le_trans (cutS_length t none (some w)) tl
    refine ⟨_, (pss_cons (ps_if (pt_cmpR op_eq (pv 1) pe_int (nomark _)) (pss_one (ps_ret (pv 0))) pss_nil)
      (pss_cons (ps_set (i := 4) sc_law_made.nd rfl (.inl rfl) (pe_op op_add_str pe_str (pe_callTy call_str_int (by rfl) B.str (by decide +kernel) (pa_cons (pv 1) pa_nil))))
      (pss_cons (ps_set (i := 5) sc_law_made.nd rfl (.inl rfl) (pe_mid (pe_ifExp (pt_cmpR op_eq (pv 2) pe_str (nomark _)) (pe_callB (call_max2 rfl) (by rfl) B.max (by decide +kernel) (pa_cons pe_int (pa_cons (pe_op op_sub (pe_op op_add (pe_callB call_len (by rfl) B.len (by decide +kernel) (pa_cons (pv 0) pa_nil)) (pe_callB call_len (by rfl) B.len (by decide +kernel) (pa_cons (pv 4) pa_nil))) (pv 3)) pa_nil))) pe_int)))
      (pss_one (ps_ret (pe_op op_add_str (pe_slice sl_str (pv 0) po_none (po_some (pe_op op_sub (pe_callB call_len (by rfl) B.len (by decide +kernel) (pa_cons (pv 0) pa_nil)) (pv 5)))) (pv 4))))))), ?_⟩
    refine ⟨_, rfl, rfl, _, rfl, ite2 (fun h1 => ?_) (fun h1 => ?_)⟩
    · have h1 : n = 1 := V.int.inj (of_decide_eq_true h1)
      rw [if_pos h1] at k
      exact ⟨_, rfl, k⟩
    · have h1 : n ≠ 1 := fun h => of_decide_eq_false (Bool.eq_false_iff.mpr h1) (by rw [h])
      rw [if_neg h1] at k
      refine ⟨_, rfl, _, rfl, log_small n0 (by omega), _, _, rfl, rfl, ?_, ?_⟩
      · have := (wd_digit n0 n1).len
        exact Nat.le_of_lt (small1000 (Nat.le_trans (Nat.add_le_add (Nat.le_refl _) this) (by decide)))
      rw [show (("~" : String) : Str) ++ ((toString n : String) : Str) = ending n from rfl]
      refine ⟨fun v G => v = .int (if so = ("tight" : String) then (if ((nbase w t).length : Int) + (ending n).length - w > 0 then ((nbase w t).length : Int) + (ending n).length - w else 0) else 0) ∧ G = H, ?_, ?_⟩
      · refine ⟨_, rfl, rfl, _, rfl, ite2 (fun h2 => ?_) (fun h2 => ?_)⟩
        · rw [str_eq_iff] at h2
          rw [if_pos (of_decide_eq_true h2)]
          refine ⟨_, rfl, _, _, rfl, ⟨Nat.le_of_lt (small1000 (by omega)), rfl⟩, _, rfl, _, _, rfl, ⟨Nat.le_of_lt (small1000 (by omega)), rfl⟩, _, _, rfl, rfl, _, rfl, _, _, rfl, rfl, _, _, rfl, rfl, rfl⟩
        · rw [str_eq_iff] at h2
          rw [if_neg (of_decide_eq_false (Bool.eq_false_iff.mpr h2))]
          exact ⟨rfl, rfl⟩
      · rintro _ _ ⟨rfl, rfl⟩
        refine ⟨_, rfl, _, rfl, _, _, rfl, ⟨Nat.le_of_lt (small1000 (by omega)), rfl⟩, _, rfl, _, _, rfl, rfl, _, rfl, _, rfl, Nat.le_of_lt (small1000 (by omega)), _, rfl, _, _, rfl, rfl, ?_, ?_⟩
        · have := cutS_length (nbase w t) none (some (((nbase w t).length : Int) - (if so = ("tight" : String) then (if ((nbase w t).length : Int) + (ending n).length - w > 0 then ((nbase w t).length : Int) + (ending n).length - w else 0) else 0)))
          exact Nat.le_of_lt (small1000 (Nat.le_trans (Nat.add_le_add this el) (by omega)))
        · refine cast (congrArg (fun y => Q (.str y) _) ?_) k
          unfold numbered
          by_cases h2 : so = ("tight" : String)
          · rw [if_pos h2, decide_eq_true h2, Bool.true_and]
            by_cases h3 : w < ((nbase w t).length : Int) + (ending n).length
            · rw [if_pos (decide_eq_true h3), if_pos (by omega), show ((nbase w t).length : Int) - (((nbase w t).length : Int) + (ending n).length - w) = w - (ending n).length by omega]
            · rw [if_neg (by rw [decide_eq_false h3]; exact Bool.false_ne_true), if_neg (by omega), Int.sub_zero, cutS_all]
          · rw [if_neg h2, decide_eq_false h2, Bool.false_and, if_neg Bool.false_ne_true, Int.sub_zero, cutS_all]
def spIsFree (K : PySem.W.Frag) : Sp := fun vs H Q _ => ∃ (so t : Str) (w : Int) (l : Addr) (ys : List Str), vs = [.str (nbase w t), .str (freeOf so w t ys), .ref l, .str so, .int w] ∧ SqL K H l (ys.map V.str) ∧ Wd 200 t ∧ ys.length ≤ 6 ∧ 6 ≤ w ∧ w ≤ 40 ∧ Q (.bl true) H
theorem cal_isFree (B : Bi mg) (D : At K mg "_law_is_free" s_law_is_free ps_law_is_free) (C_law_made : Cal P w K mg base 1 "_law_made" ps_law_made spMade44) : Cal P w K mg base 2 "_law_is_free" ps_law_is_free (spIsFree K) := by
  refine D.cal sc_law_is_free (fun vs H Q E h => ?_) (fun f cdv A outer s H vs Q E hr h => ?_)
  · obtain ⟨so, t, w, l, ys, rfl, _⟩ := h
    rfl
  · obtain ⟨so, t, w, l, ys, rfl, hl, wt, y6, w0, w1, k⟩ := h
    have tl : t.length ≤ 200 := wt.len
    have fl : (freeOf so w t ys).length ≤ 42 := by
      have b : Wd 40 (nbase w t) := wd_head wt.sgn (by omega) (by omega)
      have a : Wd 42 (freeOf so w t ys) := by
        unfold freeOf
        split
        · exact short_seek b _ _ (by omega)
        · exact b.mono (by decide)
      exact a.len
    have mul : ∀ i : Nat, (∀ j, j < i → cand so w t j ∈ ys) → i ≤ ys.length := fun i h => Classical.byContradiction fun hn => some_free y6 fun j hj => h j (by omega)
    refine ⟨_, (pss_cons (ps_if (PW.pt (pw_or (pt_cmpR op_in_seq (pv 1) (pv 2) (by rfl)) (pw_or1 (PW.pt (pw_and (pt_cmpR op_eq (pv 3) pe_str (nomark _)) (pw_and1 (pt_cmpR op_gt (pe_callB call_len (by rfl) B.len (by decide +kernel) (pa_cons (pv 1) pa_nil)) (pv 4) (nomark _)))))))) (pss_one (ps_ret pe_bl)) pss_nil)
      (pss_cons (ps_for PassesOwn.never rfl (pi_range2 (by rfl) B.range (pa_cons pe_int (pa_cons pe_int pa_nil))) (pg_name (i := 5) sc_law_is_free.nd rfl (.inl rfl))
      (pss_cons (ps_set (i := 6) sc_law_is_free.nd rfl (.inl rfl) (pe_own C_law_made hr (by decide) (by rfl) (pa_cons (pv 0) (pa_cons (pv 5) (pa_cons (pv 3) (pa_cons (pv 4) pa_nil))))))
      (pss_one (ps_if (pt_cmpR op_notIn_seq (pv 6) (pv 2) (by rfl)) (pss_one (ps_ret (pe_cmpR op_eq (pv 1) (pv 6) (nomark _)))) pss_nil))))
      (pss_one (ps_ret pe_bl)))), ?_⟩
    refine ⟨_, rfl, _, rfl, l, _, rfl, .inl hl, rfl, flat_strs ys, _, rfl, ?_⟩
    rw [in_strs, decide_eq_false (freeOf_new y6)]
    refine iteF ⟨_, rfl, rfl, _, rfl, ?_⟩
    rw [str_eq_iff]
    refine ite2 (fun h1 => ⟨_, rfl, _, _, rfl, ⟨Nat.le_of_lt (small1000 (by omega)), rfl⟩, _, rfl, _, _, rfl, rfl, _, rfl, ?_⟩) (fun h1 => ?_)
    · rw [decide_eq_false (show ¬ w < ((freeOf so w t ys).length : Int) by have := freeOf_tight (t := t) (ys := ys) (of_decide_eq_true h1) w0 y6; omega)]
      refine iteF ?_
      refine ⟨1, 9, rfl, ⟨by decide, by decide, by decide, by decide⟩, for_range (lo := 1) (n := 8) (fun i σ J => ∃ u v, σ = [some (.str (nbase w t)), some (.str (freeOf so w t ys)), some (.ref l), some (.str so), some (.int w), u, v] ∧ J = H ∧ (0 < i → nbase w t ∈ ys) ∧ ∀ j, j + 1 < i → cand so w t j ∈ ys) ⟨none, none, rfl, rfl, fun h => absurd h (by omega), fun j h => absurd h (by omega)⟩ ?_ ?_⟩
      · rintro i σ J hi ⟨u, v, rfl, rfl, hb, hj⟩
        refine ⟨_, rfl, _, rfl, _, rfl, _, rfl, so, t, w, 1 + (i : Int), rfl, by omega, by omega, by omega, ?_⟩
        refine ⟨_, rfl, _, rfl, l, _, rfl, .inl hl, rfl, flat_strs ys, _, rfl, ?_⟩
        rw [in_strs]
        cases i with
        | zero =>
          rw [if_pos (show 1 + ((0 : Nat) : Int) = 1 from rfl)]
          refine ite2 (fun h3 => ?_) (fun h3 => ?_)
          · have h3 : nbase w t ∉ ys := fun h => by
              rw [decide_eq_true h] at h3
              cases h3
            have e : freeOf so w t ys = nbase w t := by
              unfold freeOf
              rw [if_neg h3]
            refine ⟨_, rfl, _, rfl, rfl, ?_⟩
            rw [decide_eq_true (by rw [e])]
            exact k
          · have h3 : nbase w t ∈ ys := Decidable.byContradiction fun h => h3 (by
              rw [decide_eq_false h]
              rfl)
            exact ⟨_, _, rfl, rfl, fun _ => h3, fun j h => absurd h (by omega)⟩
        | succ i =>
          have hb := hb (by omega)
          rw [if_neg (show ¬ 1 + ((i + 1 : Nat) : Int) = 1 by omega), show 1 + ((i + 1 : Nat) : Int) = 2 + (i : Int) by omega, show numbered so w t (2 + (i : Int)) = cand so w t i from rfl]
          refine ite2 (fun h3 => ?_) (fun h3 => ?_)
          · have h3 : cand so w t i ∉ ys := fun h => by
              rw [decide_eq_true h] at h3
              cases h3
            have il := mul i fun j h => hj j (by omega)
            have e : freeOf so w t ys = cand so w t i := by
              unfold freeOf
              rw [if_pos hb, seek_at i ys.length 0 il (fun j h => by rw [Nat.zero_add]; exact hj j (by omega)) (by rw [Nat.zero_add]; exact h3), Nat.zero_add]
            refine ⟨_, rfl, _, rfl, rfl, ?_⟩
            rw [decide_eq_true (by rw [e])]
            exact k
          · have h3 : cand so w t i ∈ ys := Decidable.byContradiction fun h => h3 (by
              rw [decide_eq_false h]
              rfl)
            refine ⟨_, _, rfl, rfl, fun _ => hb, fun j h => ?_⟩
            rcases Nat.lt_or_ge j i with h | h
            · exact hj j (by omega)
            · rw [show j = i by omega]
              exact h3
      · rintro σ J ⟨u, v, rfl, rfl, hb, hj⟩
        have := mul 7 fun j h => hj j (by omega)
        omega
    · refine iteF ?_
      refine ⟨1, 9, rfl, ⟨by decide, by decide, by decide, by decide⟩, for_range (lo := 1) (n := 8) (fun i σ J => ∃ u v, σ = [some (.str (nbase w t)), some (.str (freeOf so w t ys)), some (.ref l), some (.str so), some (.int w), u, v] ∧ J = H ∧ (0 < i → nbase w t ∈ ys) ∧ ∀ j, j + 1 < i → cand so w t j ∈ ys) ⟨none, none, rfl, rfl, fun h => absurd h (by omega), fun j h => absurd h (by omega)⟩ ?_ ?_⟩
      · rintro i σ J hi ⟨u, v, rfl, rfl, hb, hj⟩
        refine ⟨_, rfl, _, rfl, _, rfl, _, rfl, so, t, w, 1 + (i : Int), rfl, by omega, by omega, by omega, ?_⟩
        refine ⟨_, rfl, _, rfl, l, _, rfl, .inl hl, rfl, flat_strs ys, _, rfl, ?_⟩
        rw [in_strs]
        cases i with
        | zero =>
          rw [if_pos (show 1 + ((0 : Nat) : Int) = 1 from rfl)]
          refine ite2 (fun h3 => ?_) (fun h3 => ?_)
          · have h3 : nbase w t ∉ ys := fun h => by
              rw [decide_eq_true h] at h3
              cases h3
            have e : freeOf so w t ys = nbase w t := by
              unfold freeOf
              rw [if_neg h3]
            refine ⟨_, rfl, _, rfl, rfl, ?_⟩
            rw [decide_eq_true (by rw [e])]
            exact k
          · have h3 : nbase w t ∈ ys := Decidable.byContradiction fun h => h3 (by
              rw [decide_eq_false h]
              rfl)
            exact ⟨_, _, rfl, rfl, fun _ => h3, fun j h => absurd h (by omega)⟩
        | succ i =>
          have hb := hb (by omega)
          rw [if_neg (show ¬ 1 + ((i + 1 : Nat) : Int) = 1 by omega), show 1 + ((i + 1 : Nat) : Int) = 2 + (i : Int) by omega, show numbered so w t (2 + (i : Int)) = cand so w t i from rfl]
          refine ite2 (fun h3 => ?_) (fun h3 => ?_)
          · have h3 : cand so w t i ∉ ys := fun h => by
              rw [decide_eq_true h] at h3
              cases h3
            have il := mul i fun j h => hj j (by omega)
            have e : freeOf so w t ys = cand so w t i := by
              unfold freeOf
              rw [if_pos hb, seek_at i ys.length 0 il (fun j h => by rw [Nat.zero_add]; exact hj j (by omega)) (by rw [Nat.zero_add]; exact h3), Nat.zero_add]
            refine ⟨_, rfl, _, rfl, rfl, ?_⟩
            rw [decide_eq_true (by rw [e])]
            exact k
          · have h3 : cand so w t i ∈ ys := Decidable.byContradiction fun h => h3 (by
              rw [decide_eq_false h]
              rfl)
            refine ⟨_, _, rfl, rfl, fun _ => hb, fun j h => ?_⟩
            rcases Nat.lt_or_ge j i with h | h
            · exact hj j (by omega)
            · rw [show j = i by omega]
              exact h3
      · rintro σ J ⟨u, v, rfl, rfl, hb, hj⟩
        have := mul 7 fun j h => hj j (by omega)
        omega
end
end Gu
namespace Gu
open PySem PySem.Spec PyProof.Rows L2
section
variable {P : Program} {w : World} {K : PySem.W.Frag} {mg : Str → Option Value} {base : Heap} {C : Addr}
theorem sl_okS {H : Hp} {a : Addr} {xs : List V} {Q : VK} {lo hi : Option Int} (ha : SqT K H a xs) (q : ∀ U G, Same H G → SqT K G U (cutV xs lo hi) → Q (.ref U) G) : rSlA K (.ref a) lo hi H Q := by
  refine ⟨a, xs, rfl, ha, fun ⟨e1, e2⟩ => q a H (fun _ _ h => h) ?_, fun _ p np => q p _ (same_new np) (.inl (.inl upd_same))⟩
  unfold cutV
  rw [e1, e2, List.drop_zero, Nat.sub_zero, List.take_length]
  exact ha
theorem isa_tup {H : Hp} {a : Addr} {xs : List V} (h : SqT K H a xs) : ∃ t, TyX K H (.ref a) t ∧ PySem.W.kitOne K t (.type "tuple") = some true := by
  refine ⟨.type "tuple", ?_, kit_ty (by decide +kernel)⟩
  rcases h with (h | ⟨o, h⟩) | ⟨o, its, n, h1, h2, _⟩
  · exact .base (.tup h)
  · exact .fTuple h
  · exact .kTuple h1 h2
theorem cutV_head (ys : List Str) (k : Nat) : cutV (ys.map V.str) none (some (k : Int)) = (ys.take k).map V.str := by
  unfold cutV
  rw [HT.sIx_none, HT.sIx_nat, List.drop_zero, Nat.sub_zero, List.map_take, List.take_eq_take_iff]
  omega
theorem at_of0 {α : Type} {xs : List α} {j : Nat} {v : α} (h : xs[j]? = some v) : atI xs (0 + (j : Int)) = some v := by
  rw [Int.zero_add]
  exact atI_nat h
theorem fold_pre {so : Str} {w : Int} : ∀ (b : List Str) (acc : List (Str × Str)), (b.foldl (fun ps t => ps ++ [(t, nameOf so w t ps)]) acc).take acc.length = acc
  | [], acc => List.take_length
  | t :: b, acc => by
    rw [List.foldl_cons]
    have e := congrArg (List.take acc.length) (fold_pre (so := so) (w := w) b (acc ++ [(t, nameOf so w t acc)]))
    rw [List.take_take, List.length_append, Nat.min_eq_left (by omega), List.take_left'  rfl] at e
    exact e
theorem pairs_take {so : Str} {w : Int} (ts : List Str) (i : Nat) : pairsOf so w (ts.take i) = (pairsOf so w ts).take i := by
  have e : pairsOf so w ts = (ts.drop i).foldl (fun ps t => ps ++ [(t, nameOf so w t ps)]) (pairsOf so w (ts.take i)) := by
    unfold pairsOf
    rw [← List.foldl_append, List.take_append_drop]
  have f := fold_pre (so := so) (w := w) (ts.drop i) (pairsOf so w (ts.take i))
  rw [← e, pairsOf_len, List.length_take] at f
  rw [← f]
  rw [List.take_eq_take_iff, pairsOf_len]
  omega
theorem names_take {so : Str} {w : Int} (ts : List Str) (i : Nat) : namesOf so w (ts.take i) = (namesOf so w ts).take i := by
  unfold namesOf
  rw [pairs_take, List.map_take]
theorem names_at {so : Str} {w : Int} {ts : List Str} {i : Nat} {t : Str} (h : ts[i]? = some t) : (namesOf so w ts)[i]? = some (nameOf so w t (pairsOf so w (ts.take i))) := by
  have a := pairs_take (so := so) (w := w) ts (i + 1)
  rw [take_next h, pairsOf_snoc] at a
  have il : i < ts.length := (List.getElem?_eq_some_iff.mp h).1
  have b := congrArg (fun l => l[i]?) a
  rw [List.getElem?_take_of_lt (by omega), List.getElem?_append_right (by rw [pairsOf_len, List.length_take]; omega), pairsOf_len, List.length_take, Nat.min_eq_left (by omega), Nat.sub_self] at b
  unfold namesOf
  rw [List.getElem?_map, ← b]
  rfl
theorem shapedT {n : Nat} {ys : List Str} (h : ∀ y ∈ ys, Wd n y) : SeqAt.shaped (.tuple (ys.map PyData.str)) = true := shaped_of (ds := ys.map PyData.str) fun d hd => by
  obtain ⟨y, hy, rfl⟩ := List.mem_map.mp hd
  exact ⟨wd_lay (h y hy), Nat.zero_le _⟩
theorem pairs_fst {so : Str} {w : Int} (ts : List Str) : (pairsOf so w ts).map (·.1) = ts := by
  have a : ∀ (ts : List Str) (acc : List (Str × Str)), (ts.foldl (fun ps t => ps ++ [(t, nameOf so w t ps)]) acc).map (·.1) = acc.map (·.1) ++ ts := by
    intro ts
    induction ts with
    | nil => exact fun acc => (List.append_nil _).symm
    | cons t ts ih =>
      intro acc
      rw [List.foldl_cons, ih, List.map_append, List.append_assoc]
      rfl
  exact a ts []
theorem mates_of {so : Str} {w : Int} {t : Str} (ts : List Str) : (mates w t (pairsOf so w ts)).length = (ts.filter fun y => decide (nbase w y = nbase w t)).length := by
  have e := congrArg (fun l => (l.filter fun y => decide (nbase w y = nbase w t)).length) (pairs_fst (so := so) (w := w) ts)
  rw [← e]
  show _ = (((pairsOf so w ts).map (·.1)).filter fun y => decide (nbase w y = nbase w t)).length
  rw [List.filter_map, List.length_map]
  rfl
theorem cal_right (B : Bi mg) (D : At K mg "_law_right" s_law_right ps_law_right) {Nm : Hp → Addr → Str → Int → Prop} (nmS : ∀ {H G : Hp} {x : Addr} {so : Str} {w : Int}, Same H G → Nm H x so w → Nm G x so w) (C_law_draw : Cal P w K mg base 1 "_law_draw" ps_law_draw spLadle) (C_law_one : Cal P w K mg base 2 "_law_one" ps_law_one (spOneOf K)) (C_law_stem : Cal P w K mg base 2 "_law_stem" ps_law_stem spStem) (C_law_word : Cal P w K mg base 3 "_law_word" ps_law_word (spWord K)) (C_law_is_free : Cal P w K mg base 2 "_law_is_free" ps_law_is_free (spIsFree K))
    (M_nm : Mak P w K mg base 2 "Namer" C (spNInit C Nm)) (C_names : Cal P w K mg base 5 "names" ["namer", "texts"] (spNamesP K Nm)) : CalG P w K mg base 7 "_law_right" ps_law_right spRight := by
  refine D.calG sc_law_right (fun vs H Q E h => ?_) (fun f cdv A outer s H vs Q E hr quiet h => ?_)
  · obtain ⟨p, rfl, _⟩ := h
    rfl
  · obtain ⟨p, rfl, hp, k⟩ := h
    refine ⟨_, (pss_cons (ps_for PassesOwn.never rfl (pi_range1 (by rfl) B.range (pa_cons pe_int pa_nil)) (pg_name (i := 1) sc_law_right.nd rfl (.inl rfl))
      (pss_cons (ps_set (i := 2) sc_law_right.nd rfl (.inr rfl) (pe_lst (pa_cons (pe_own C_law_stem hr (by decide) (by rfl) (pa_cons (pv 0) (pa_cons pe_int pa_nil))) (pa_cons (pe_own C_law_stem hr (by decide) (by rfl) (pa_cons (pv 0) (pa_cons pe_int pa_nil))) pa_nil))))
      (pss_cons (ps_set (i := 3) sc_law_right.nd rfl (.inr rfl) (pe_op op_add pe_int (pe_own C_law_draw hr (by decide) (by rfl) (pa_cons (pv 0) (pa_cons (pe_own C_law_one hr (by decide) (by rfl) (pa_cons (pv 0) (pa_cons (pe_lst (pa_cons pe_int (pa_cons pe_int (pa_cons pe_int pa_nil)))) pa_nil))) pa_nil)))))
      (pss_cons (ps_set (i := 4) sc_law_right.nd rfl (.inl rfl) (pe_callTy call_tuple_of (by rfl) B.tuple (by decide +kernel) (pa_cons (pe_lc (own := [("_law_k", 7)]) (by rfl) sc_law_right.nd (pi_range1 (by rfl) B.range (pa_cons (pe_own C_law_draw hr (by decide) (by rfl) (pa_cons (pv 0) (pa_cons pe_int pa_nil))) pa_nil)) (blkOk_by (own := [("_law_k", 7)]) (N := ["_law_source_here", "_law_turn", "_law_stems", "_law_size", "_law_line", "_law_sort", "_law_told", "_law_k", "_law_base", "_law_before", "_law_mates", "_law_due", "_law_each"]) (sc := defScope s_law_right) (by decide +kernel)) (fun _ _ _ _ _ => pg_name (i := 7) sc_law_right.nd rfl (.inl rfl)) (fun _ _ _ _ _ => pts_nil) (fun _ _ _ _ _ => (pe_own C_law_word hr (by decide) (by rfl) (pa_cons (pv 0) (pa_cons (pv 2) pa_nil))))) pa_nil)))
      (pss_one (ps_for PassesOwn.never rfl (pi_list (pe_lst (pa_cons pe_str (pa_cons pe_str (pa_cons pe_str pa_nil))))) (pg_name (i := 5) sc_law_right.nd rfl (.inl rfl))
      (pss_cons (ps_set (i := 6) sc_law_right.nd rfl (.inl rfl) (pe_own C_names hr (by decide) (by rfl) (pa_cons (pe_new M_nm hr (by decide) (by rfl) (pa_cons (pv 5) (pa_cons (pv 3) pa_nil))) (pa_cons (pv 4) pa_nil))))
      (pss_cons (ps_if (PW.pt (pw_or (pt_not (pt_val (pe_callB call_isi (by rfl) B.isinstance (by decide +kernel) (pa_cons (pv 6) (pa_cons (pe_bltn (v := .ty "tuple") (by rfl) B.tuple (by decide +kernel) rfl) pa_nil))))) (pw_or1 (pt_cmpR op_ne (pe_callB call_len (by rfl) B.len (by decide +kernel) (pa_cons (pv 6) pa_nil)) (pe_callB call_len (by rfl) B.len (by decide +kernel) (pa_cons (pv 4) pa_nil)) (nomark _))))) (pss_one (ps_ret pe_bl)) pss_nil)
      (pss_one (ps_for PassesOwn.never rfl (pi_range1 (by rfl) B.range (pa_cons (pe_callB call_len (by rfl) B.len (by decide +kernel) (pa_cons (pv 4) pa_nil)) pa_nil)) (pg_name (i := 7) sc_law_right.nd rfl (.inl rfl))
      (pss_cons (ps_asg (pe_tup (pa_cons (pe_slice sl_str (pe_ix ix_tup (pv 4) (pv 7) (fun _ _ => rfl)) po_none (po_some (pv 3))) (pa_cons (pe_callTy call_list_of (by rfl) B.list (by decide +kernel) (pa_cons (pe_slice sl_tupA (pv 6) po_none (po_some (pv 7))) pa_nil)) pa_nil))) (pg_tup rfl (pgs_cons (pg_name (i := 8) sc_law_right.nd rfl (.inr rfl)) (pgs_cons (pg_name (i := 9) sc_law_right.nd rfl (.inl rfl)) pgs_nil))))
      (pss_cons (ps_if (pt_cmpR (op_neD hr.units) (pe_own C_names hr (by decide) (by rfl) (pa_cons (pe_new M_nm hr (by decide) (by rfl) (pa_cons (pv 5) (pa_cons (pv 3) pa_nil))) (pa_cons (pe_slice sl_tupA (pv 4) po_none (po_some (pv 7))) pa_nil))) (pe_slice sl_tupA (pv 6) po_none (po_some (pv 7))) (nomark _)) (pss_one (ps_ret pe_bl)) pss_nil)
      (pss_one (ps_if (pt_cmpR op_eq (pv 5) pe_str (nomark _)) (pss_cons (ps_setLc (i := 10) (own := [("_law_each", 12)]) (by rfl) sc_law_right.nd rfl rfl (sw_true rfl rfl rfl (by decide +kernel)) (pi_tup (pe_slice sl_tupA (pv 4) po_none (po_some (pv 7)))) (blkOk_by (own := [("_law_each", 12)]) (N := ["_law_source_here", "_law_turn", "_law_stems", "_law_size", "_law_line", "_law_sort", "_law_told", "_law_k", "_law_base", "_law_before", "_law_mates", "_law_due", "_law_each"]) (sc := defScope s_law_right) (by decide +kernel)) (fun _ _ _ _ _ => pg_name (i := 12) sc_law_right.nd rfl (.inl rfl)) (fun _ _ _ _ _ => (pts_one (pt_cmpR op_eq (pe_slice sl_str (pv 12) po_none (po_some (pv 3))) (pv 8) (nomark _)))) (fun _ _ _ _ _ => (pv 12)))
      (pss_cons (ps_set (i := 11) sc_law_right.nd rfl (.inl rfl) (pe_mid (pe_ifExp (pt_cmpR (op_eqD hr.units) (pv 10) (pe_lst pa_nil) (nomark _)) (pv 8) (pe_op op_add_str (pe_op op_add_str (pv 8) pe_str) (pe_callTy call_str_int (by rfl) B.str (by decide +kernel) (pa_cons (pe_op op_add (pe_callB call_len (by rfl) B.len (by decide +kernel) (pa_cons (pv 10) pa_nil)) pe_int) pa_nil))))))
      (pss_one (ps_if (pt_cmpR op_ne (pe_ix ix_tup (pv 6) (pv 7) (fun _ _ => rfl)) (pv 11) (nomark _)) (pss_one (ps_ret pe_bl)) pss_nil)))) (pss_one (ps_if (pt_not (pt_val (pe_own C_law_is_free hr (by decide) (by rfl) (pa_cons (pv 8) (pa_cons (pe_ix ix_tup (pv 6) (pv 7) (fun _ _ => rfl)) (pa_cons (pv 9) (pa_cons (pv 5) (pa_cons (pv 3) pa_nil)))))))) (pss_one (ps_ret pe_bl)) pss_nil))))))))))))))))
      (pss_one (ps_ret pe_bl))), ?_⟩
    refine ⟨3, rfl, by decide, by decide, for_range (lo := 0) (n := 3) (fun i σ J => ∃ a b c d e f g h j k l m, σ = [some (.ref p), a, b, c, d, e, f, g, h, j, k, l, m] ∧ Ladled p H J) ⟨none, none, none, none, none, none, none, none, none, none, none, none, rfl, .refl hp⟩ ?_ ?_⟩
    · rintro i σ J hi ⟨a, b, c, d, e, f, g, h, j, k', l', m', rfl, M⟩
      refine ⟨_, rfl, p, 10, rfl, M.pot, by decide, by decide, fun y1 G1 L1 z1 w1 => ?_⟩
      have M1 := M.trans L1
      refine ⟨_, rfl, p, 7, rfl, M1.pot, by decide, by decide, fun y2 G2 L2 z2 w2 => ?_⟩
      have M2 := M1.trans L2
      refine ⟨by show 2 ≤ sizeLine; decide, fun q nq => ?_⟩
      have M3 := M2.new (o := .lst [.str y1, .str y2]) nq
      have nqp : q ≠ p := M2.pot.off nq
      have eq : upd G2 q (.lst [.str y1, .str y2]) q = some (.lst [.str y1, .str y2]) := upd_same
      generalize upd G2 q (.lst [.str y1, .str y2]) = G3 at M3 eq
      refine ⟨_, rfl, _, rfl, by show 3 ≤ sizeLine; decide, fun q1 n1 => ?_⟩
      refine ⟨p, M3.pot.same (same_new n1), q1, _, rfl, .inl (.inl upd_same), M3.pot.off n1, by decide, by decide, fun v G4 hv L4 => ?_⟩
      obtain ⟨b, b0, b1, rfl⟩ : ∃ b : Int, 0 < b ∧ b ≤ 35 ∧ v = .int b := by
        rcases List.mem_cons.mp hv with rfl | hv
        · exact ⟨1, by decide, by decide, rfl⟩
        rcases List.mem_cons.mp hv with rfl | hv
        · exact ⟨5, by decide, by decide, rfl⟩
        rcases List.mem_cons.mp hv with rfl | hv
        · exact ⟨35, by decide, by decide, rfl⟩
        cases hv
      have M4 := (M3.new (o := .lst [.int 1, .int 5, .int 35]) n1).trans L4
      have eq4 : G4 q = some (.lst [.str y1, .str y2]) := L4.keep _ _ (same_new n1 _ _ eq) nqp
      refine ⟨p, b, rfl, M4.pot, b0, by omega, fun d2 G5 d0 d1 L5 => ⟨_, _, rfl, rfl, ?_⟩⟩
      have M5 := M4.trans L5
      have eq5 := L5.keep _ _ eq4 nqp
      have sz0 : 6 ≤ 6 + d2 := by omega
      have sz1 : 6 + d2 ≤ 40 := by omega
      -- the line
      refine ⟨_, rfl, p, 7, rfl, M5.pot, by decide, by decide, fun n G6 n0 n2 L6 => ?_⟩
      have M6 := M5.trans L6
      have eq6 := L6.keep _ _ eq5 nqp
      refine ⟨_, rfl, by omega, by omega, fun X nX => lc_range (lo := 0) (n := n.toNat) (fun i J => ∃ ts : List Str, ts.length = i ∧ (∀ t ∈ ts, Wd 200 t) ∧ J X = some (.lst (ts.map V.str)) ∧ Ladled p H J ∧ J q = some (.lst [.str y1, .str y2]))
        ⟨[], rfl, (fun t ht => by cases ht), upd_same, M6.mut (M6.free nX) (M6.pot.off nX), by rw [upd_ne (ne_of_none eq6 nX)]; exact eq6⟩ ?_ ?_⟩
      · rintro j2 J1 hj ⟨ts, rfl, wt, eX, LJ, eqJ⟩
        have nXp : X ≠ p := M6.pot.off nX
        have nXq : q ≠ X := ne_of_none eq6 nX
        refine ⟨rfl, yesT (iteT ⟨_, rfl, _, rfl, p, q, [y1, y2], rfl, LJ.pot, .inl (.inl eqJ), nqp, by show 0 < 2; decide, by show 2 < 1000; decide, fun y hy => ?_, fun y GJ Ly wy => ?_⟩)⟩
        · rcases List.mem_cons.mp hy with rfl | hy
          · exact ⟨z1, w1.mono (by decide)⟩
          rcases List.mem_cons.mp hy with rfl | hy
          · exact ⟨z2, w2.mono (by decide)⟩
          cases hy
        · have gX := Ly.keep _ _ eX nXp
          refine ⟨_, gX, small1000 (by rw [List.length_map]; omega), ts ++ [y], by rw [List.length_append]; rfl, fun t ht => ?_, ?_, (LJ.trans Ly).mut (M6.free nX) nXp, ?_⟩
          · rcases List.mem_append.mp ht with ht | ht
            · exact wt t ht
            · rw [List.mem_singleton.mp ht]
              exact wy
          · rw [upd_same, List.map_append]
            rfl
          · rw [upd_ne nXq]
            exact Ly.keep _ _ eqJ nqp
      · rintro J1 ⟨ts, tl, wt, eX, LJ, eqJ⟩
        have t6 : ts.length ≤ 6 := by omega
        refine ⟨X, _, rfl, .inl ⟨.inl (.inl eX), fun l nl => ?_⟩⟩
        have LK := LJ.new (o := .tup (ts.map V.str)) nl
        have el : SqT K (upd J1 l (.tup (ts.map V.str))) l (ts.map V.str) := .inl (.inl upd_same)
        generalize upd J1 l (.tup (ts.map V.str)) = J2 at LK el
        -- the three rules
        refine ⟨by show 3 ≤ sizeLine; decide, fun F nF => ?_⟩
        have sF : Same J2 (upd J2 F (.lst [.str "count", .str "free", .str "tight"])) := same_new nF
        have eF : upd J2 F (.lst [.str "count", .str "free", .str "tight"]) F = some (.lst [.str "count", .str "free", .str "tight"]) := upd_same
        generalize upd J2 F (.lst [.str "count", .str "free", .str "tight"]) = JF at sF eF
        refine ⟨F, rfl, ⟨_, .inl (.inl eF)⟩, for_list (K := K) (a := F) (xs := [.str "count", .str "free", .str "tight"]) (fun i2 σ J => ∃ a b c d e f g h j, σ = [some (.ref p), a, some (.ref q), some (.int (6 + d2)), some (.ref l), b, c, d, e, f, g, h, j] ∧ Same JF J) ⟨_, _, _, _, _, _, _, _, _, rfl, fun _ _ h => h⟩ (fun i2 σ J _ ⟨_, _, _, _, _, _, _, _, _, _, sJ⟩ => .inl (.inl (sJ _ _ eF))) ?_ ?_⟩
        · rintro i2 v2 σ2 J3 hi2 ⟨a, b, c, d, e, f, g, h, j, rfl, sJ⟩
          obtain ⟨so, rfl, hso⟩ : ∃ so : Str, v2 = .str so ∧ so ∈ sorts := by
            have hv := List.mem_of_getElem? hi2
            rcases List.mem_cons.mp hv with rfl | hv
            · exact ⟨_, rfl, by decide⟩
            rcases List.mem_cons.mp hv with rfl | hv
            · exact ⟨_, rfl, by decide⟩
            rcases List.mem_cons.mp hv with rfl | hv
            · exact ⟨_, rfl, by decide⟩
            cases hv
          have el3 := st_same (sF.trans sJ) el
          refine ⟨_, rfl, _, rfl, fun x dx nx ndx nex => ⟨x, dx, so, 6 + d2, rfl, upd_same, hso, sz0, sz1, fun G7 hN keep => ⟨rfl, ?_⟩⟩⟩
          have s7 : Same J3 G7 := fun c o e => keep c o (by rw [upd_ne (ne_of_none e nx), upd_ne (ne_of_none e ndx)]; exact e) (ne_of_none e nx)
          refine ⟨_, rfl, x, l, so, 6 + d2, ts, rfl, hN, hso, sz0, sz1, st_same s7 el3, t6, wt, fun t1 G8 e8 s8 => ?_⟩
          have el8 := st_same (s7.trans s8) el3
          have nl6 : (namesOf so (6 + d2) ts).length = ts.length := names_len ..
          obtain ⟨ty, i1, i3⟩ := isa_tup e8
          refine ⟨_, rfl, _, _, ty, _, true, rfl, .ty _, i1, i3, _, rfl, iteF ?_⟩
          refine ⟨_, rfl, _, _, rfl, .inr ⟨_, e8, rfl⟩, _, rfl, _, _, rfl, .inr ⟨_, el8, rfl⟩, rfl, _, rfl, ?_⟩
          rw [List.length_map, List.length_map, nl6]
          refine iteNS rfl ?_
          refine ⟨_, rfl, _, _, rfl, .inr ⟨_, el8, rfl⟩, _, rfl, by omega, by rw [List.length_map]; omega, ?_⟩
          rw [List.length_map, Int.toNat_natCast]
          refine for_range (lo := 0) (n := ts.length) (fun i3 σ J => ∃ a d e f g h j, σ = [some (.ref p), a, some (.ref q), some (.int (6 + d2)), some (.ref l), some (.str so), some (.ref t1), d, e, f, g, h, j] ∧ Same G8 J) ⟨_, _, _, _, _, _, _, rfl, fun _ _ h => h⟩ ?_ ?_
          · rintro i3 σ3 JA hi3 ⟨a, d, e, f, g, h, j, rfl, sA⟩
            obtain ⟨t, ht⟩ : ∃ t, ts[i3]? = some t := ⟨_, List.getElem?_eq_getElem hi3⟩
            have mt : t ∈ ts := List.mem_of_getElem? ht
            have tl2 : t.length ≤ 200 := (wt t mt).len
            have elA := st_same sA el8
            have e8A := st_same sA e8
            -- the base, the names before
            refine ⟨_, rfl, _, rfl, l, _, _, _, rfl, rfl, elA, at_of0 (v := .str t) (by rw [List.getElem?_map, ht]; rfl), _, rfl, 6 + d2, rfl, t, rfl, Nat.le_of_lt (small1000 (by omega)), ?_⟩
            rw [show cutS t none (some (6 + d2)) = nbase (6 + d2) t from rfl]
            refine ⟨_, rfl, _, rfl, _, rfl, sl_okS e8A fun U1 GA sU eU => ?_⟩
            rw [Int.zero_add, cutV_head] at eU
            refine ⟨U1, _, rfl, .inr eU, fun B1 nB => ⟨by show 2 ≤ sizeLine; decide, fun tp ntp => ?_⟩⟩
            have sB : Same JA (upd (upd GA B1 (.lst (((namesOf so (6 + d2) ts).take i3).map V.str))) tp (.tup [.str (nbase (6 + d2) t), .ref B1])) := sU.trans ((same_new nB).trans (same_new ntp))
            have eB : upd (upd GA B1 (.lst (((namesOf so (6 + d2) ts).take i3).map V.str))) tp (.tup [.str (nbase (6 + d2) t), .ref B1]) B1 = some (.lst (((namesOf so (6 + d2) ts).take i3).map V.str)) := same_new ntp _ _ upd_same
            refine ⟨tp, _, rfl, .inl (.inl upd_same), rfl, _, _, rfl, _, _, rfl, rfl, ?_⟩
            generalize upd (upd GA B1 (.lst (((namesOf so (6 + d2) ts).take i3).map V.str))) tp (.tup [.str (nbase (6 + d2) t), .ref B1]) = GB at sB eB
            have lk : (ts.take i3).length ≤ 6 := by
              rw [List.length_take]
              omega
            have wk : ∀ y ∈ ts.take i3, Wd 200 y := fun y hy => wt y (List.mem_of_mem_take hy)
            have wn : ∀ y ∈ namesOf so (6 + d2) (ts.take i3), Wd 202 y := names_wd lk wk
            -- the first names again
            refine ⟨_, rfl, _, rfl, fun x2 dx2 nx2 ndx2 nex2 => ⟨x2, dx2, so, 6 + d2, rfl, upd_same, hso, sz0, sz1, fun GC hC keepC => ⟨rfl, ?_⟩⟩⟩
            have sC : Same GB GC := fun c o e => keepC c o (by rw [upd_ne (ne_of_none e nx2), upd_ne (ne_of_none e ndx2)]; exact e) (ne_of_none e nx2)
            refine ⟨_, rfl, _, rfl, _, rfl, sl_okS (st_same (sB.trans sC) elA) fun U2 GD sD eD => ?_⟩
            rw [Int.zero_add, cutV_head] at eD
            refine ⟨x2, U2, so, 6 + d2, ts.take i3, rfl, nmS sD hC, hso, sz0, sz1, eD, lk, wk, fun t2 GE eE sE => ?_⟩
            refine ⟨_, rfl, _, rfl, _, rfl, sl_okS (st_same (sB.trans (sC.trans (sD.trans sE))) e8A) fun U3 GF sG eG => ?_⟩
            rw [Int.zero_add, cutV_head, ← names_take] at eG
            refine ⟨_, _, .tup (st_same sG eE) (dp_strs _), .tup eG (dp_strs _), shapedT wn, shapedT wn, _, rfl, ?_⟩
            rw [SeqAt.eqv_refl _ (SeqAt.canLay_of_shaped (shapedT wn))]
            refine iteF ?_
            have sH : Same JA GF := sB.trans (sC.trans (sD.trans (sE.trans sG)))
            have eBH : GF B1 = some (.lst ((namesOf so (6 + d2) (ts.take i3)).map V.str)) := by
              rw [names_take]
              exact sG _ _ (sE _ _ (sD _ _ (sC _ _ eB)))
            have nat := names_at (so := so) (w := 6 + d2) ht
            have toldAt : ∀ {G : Hp}, Same GF G → SqT K G t1 ((namesOf so (6 + d2) ts).map V.str) := fun s => st_same (sH.trans s) e8A
            have at1 : atI ((namesOf so (6 + d2) ts).map V.str) (0 + (i3 : Int)) = some (.str (nameOf so (6 + d2) t (pairsOf so (6 + d2) (ts.take i3)))) := at_of0 (by rw [List.getElem?_map, nat]; rfl)
            refine ⟨_, rfl, rfl, _, rfl, ?_⟩
            rw [str_eq_iff]
            refine ite2 (fun h1 => ?_) (fun h1 => ?_)
            · have h1 := of_decide_eq_true h1
              refine ⟨_, rfl, _, rfl, _, rfl, sl_okS (st_same sH elA) fun U4 GH sI eI => ?_⟩
              rw [Int.zero_add, cutV_head] at eI
              refine ⟨U4, rfl, ⟨_, eI⟩, fun MM nMM => lc_tup (K := K) (a := U4) (xs := (ts.take i3).map V.str) (fun i J => J MM = some (.lst ((((ts.take i3).take i).filter fun y => decide (nbase (6 + d2) y = nbase (6 + d2) t)).map V.str)) ∧ Same GH J)
                ⟨upd_same, same_new nMM⟩ (fun i J _ ⟨_, sJ⟩ => st_same sJ eI) ?_ ?_⟩
              · rintro i4 v4 J4 hi4 ⟨eM, sM⟩
                rw [List.getElem?_map] at hi4
                cases e : (ts.take i3)[i4]? with
                | none =>
                  rw [e] at hi4
                  cases hi4
                | some y =>
                  rw [e] at hi4
                  cases hi4
                  have yl : y.length ≤ 200 := (wk y (List.mem_of_getElem? e)).len
                  refine ⟨rfl, _, rfl, _, rfl, 6 + d2, rfl, y, rfl, Nat.le_of_lt (small1000 (by omega)), _, rfl, rfl, _, rfl, ?_⟩
                  rw [show cutS y none (some (6 + d2)) = nbase (6 + d2) y from rfl, str_eq_iff]
                  refine ite2 (fun hb => ?_) (fun hb => ?_)
                  · refine ⟨_, rfl, _, eM, small1000 ?_, ?_, same_off sM nMM⟩
                    · rw [List.length_map]
                      refine Nat.le_trans (List.length_filter_le ..) ?_
                      rw [List.length_take]
                      omega
                    · rw [upd_same, take_next e, List.filter_append, List.map_append, List.filter_cons, hb]
                      rfl
                  · refine ⟨?_, sM⟩
                    rw [eM, take_next e, List.filter_append, List.filter_cons, Bool.eq_false_iff.mpr hb]
                    simp only [Bool.false_eq_true, if_false, List.filter_nil, List.append_nil]
              · rintro J4 ⟨eM, sM⟩
                rw [List.length_map, List.take_length] at eM
                have ml := mates_of (so := so) (w := 6 + d2) (t := t) (ts.take i3)
                have fm : ∀ y ∈ (ts.take i3).filter (fun y => decide (nbase (6 + d2) y = nbase (6 + d2) t)), Wd 200 y := fun y hy => wk y (List.mem_filter.mp hy).1
                have fl : ((ts.take i3).filter fun y => decide (nbase (6 + d2) y = nbase (6 + d2) t)).length ≤ 6 := Nat.le_trans (List.length_filter_le ..) lk
                have nd : nameOf so (6 + d2) t (pairsOf so (6 + d2) (ts.take i3)) = if ((ts.take i3).filter fun y => decide (nbase (6 + d2) y = nbase (6 + d2) t)).length = 0 then nbase (6 + d2) t else numbered so (6 + d2) t ((((ts.take i3).filter fun y => decide (nbase (6 + d2) y = nbase (6 + d2) t)).length : Int) + 1) := by
                  unfold nameOf
                  rw [if_pos h1, ml]
                generalize (ts.take i3).filter (fun y => decide (nbase (6 + d2) y = nbase (6 + d2) t)) = fs at eM fm fl nd
                have bl : (nbase (6 + d2) t).length ≤ 200 := Nat.le_trans (cutS_length ..) tl2
                refine ⟨fun v J => v = .str (nameOf so (6 + d2) t (pairsOf so (6 + d2) (ts.take i3))) ∧ Same GH J, ?_, ?_⟩
                · refine ⟨_, rfl, Nat.zero_le _, fun z nz => ?_⟩
                  have sz : Same J4 (upd J4 z (.lst [])) := same_new nz
                  refine ⟨_, _, .lst (.inl (.inl (sz _ _ eM))) (dp_strs fs), .lst (.inl (.inl upd_same)) .nil, shaped_of fun d hd => ?_, by decide +kernel, ?_⟩
                  · obtain ⟨y, hy, rfl⟩ := List.mem_map.mp hd
                    exact ⟨wd_lay (fm y hy), Nat.zero_le _⟩
                  rw [eqv_nil, List.length_map]
                  refine ⟨_, rfl, ite2 (fun h2 => ?_) (fun h2 => ?_)⟩
                  · refine ⟨_, rfl, ?_, sM.trans sz⟩
                    rw [nd, if_pos (of_decide_eq_true h2)]
                  · have h2 := of_decide_eq_false (Bool.eq_false_iff.mpr h2)
                    have e1 : (("~" : String) : Str).length = 1 := by decide +kernel
                    have dl := (wd_digit (i := (fs.length : Int) + 1) (by omega) (by omega)).len
                    refine ⟨_, rfl, _, _, rfl, rfl, Nat.le_of_lt (small1000 (by omega)), _, rfl, _, _, rfl, .inl ⟨_, .inl (.inl (sz _ _ eM)), rfl⟩, _, _, rfl, rfl, _, rfl, ?_, ?_⟩
                    · rw [List.length_map]
                      exact log_small (by omega) (by omega)
                    rw [List.length_map]
                    refine ⟨_, _, rfl, rfl, ?_, ?_, sM.trans sz⟩
                    · rw [str_len, e1]
                      refine Nat.le_of_lt (small1000 (Nat.le_trans (Nat.add_le_add (Nat.le_refl _) dl) (by omega)))
                    · rw [nd, if_neg h2]
                      unfold numbered
                      rw [decide_eq_false (show ¬ so = (("tight" : String) : Str) by rw [h1]; decide), Bool.false_and, if_neg Bool.false_ne_true]
                      unfold ending
                      rw [Str.append_assoc]
                · rintro _ J5 ⟨rfl, s5⟩
                  refine ⟨_, rfl, _, rfl, t1, _, _, _, rfl, rfl, toldAt (sI.trans s5), at1, _, rfl, rfl, _, rfl, iteNS rfl ?_⟩
                  exact ⟨_, _, _, _, _, _, _, rfl, sA.trans (sH.trans (sI.trans s5))⟩
            · have h1 := of_decide_eq_false (Bool.eq_false_iff.mpr h1)
              have en : nameOf so (6 + d2) t (pairsOf so (6 + d2) (ts.take i3)) = freeOf so (6 + d2) t (namesOf so (6 + d2) (ts.take i3)) := by
                unfold nameOf
                rw [if_neg h1]
                rfl
              rw [en] at at1
              refine ⟨_, rfl, _, rfl, _, rfl, t1, _, _, _, rfl, rfl, toldAt (fun _ _ h => h), at1, _, rfl, _, rfl, _, rfl, so, t, 6 + d2, B1, _, rfl, .inl (.inl eBH), wt t mt, by rw [names_len]; exact lk, sz0, sz1, _, rfl, ?_⟩
              refine iteF ?_
              exact ⟨_, _, _, _, _, _, _, rfl, sA.trans sH⟩
          · rintro σ3 JA ⟨a, d, e, f, g, h, j, rfl, sA⟩
            exact ⟨_, _, _, _, _, _, _, _, _, rfl, sJ.trans (s7.trans (s8.trans sA))⟩
        · rintro σ2 J3 ⟨a, b, c, d, e, f, g, h, j, rfl, sJ⟩
          exact ⟨_, _, _, _, _, _, _, _, _, _, _, _, rfl, LK.same (sF.trans sJ)⟩
    · rintro σ J ⟨a, b, c, d, e, f, g, h, j, k', l', m', rfl, M⟩
      exact k J M
end
end Gu
namespace Gu
open PySem PySem.Spec PyProof.Rows L2
section
variable {P : Program} {w : World} {K : PySem.W.Frag} {mg : Str → Option Value} {base : Heap} {C : Addr}
/-! ### law -/
def spLaw (K : PySem.W.Frag) : Sp := fun vs H Q _ => ∃ (a : Addr) (ns : List Int), vs = [.ref a] ∧ SqL K H a (ns.map V.int) ∧ ns.length ≤ 63 ∧ ∀ G, Q (.bl true) G
theorem cal_law (B : Bi mg) {f : Addr} {fd : FuncData} (F : Fun K "law" "law" s_law f fd) (C_law_source : Cal P w K mg base 1 "_law_source" ps_law_source (spPot K)) (C_law_right : CalG P w K mg base 7 "_law_right" ps_law_right spRight) : FnG P w K mg base 8 f fd ps_law (spLaw K) := by
  refine okG F sc_law (fun vs H Q E h => ?_) (fun cdv A outer s H vs Q E hr quiet h => ?_)
  · obtain ⟨a, ns, rfl, _⟩ := h
    rfl
  · obtain ⟨a, ns, rfl, hS, hl, k⟩ := h
    refine ⟨_, (pss_one (ps_ret (pe_callB (cr_all rfl) (by rfl) B.all (by decide +kernel) (pa_cons (pe_lc (own := [("_law_k", 1)]) (by rfl) sc_law.nd (pi_range1 (by rfl) B.range (pa_cons (pe_callB (call_max2 rfl) (by rfl) B.max (by decide +kernel) (pa_cons pe_int (pa_cons (pe_callB (call_min2 rfl) (by rfl) B.min (by decide +kernel) (pa_cons (pe_callB call_len_seq (by rfl) B.len (by decide +kernel) (pa_cons (pv 0) pa_nil)) (pa_cons pe_int pa_nil))) pa_nil))) pa_nil)) (blkOk_by (own := [("_law_k", 1)]) (N := ["_law_script", "_law_k"]) (sc := defScope s_law) (by decide +kernel)) (fun _ _ _ _ _ => pg_name (i := 1) sc_law.nd rfl (.inl rfl)) (fun _ _ _ _ _ => pts_nil) (fun _ _ _ _ _ => (pe_ownG C_law_right hr (Nat.le_refl _) quiet (by rfl) (pa_cons (pe_own C_law_source hr (by decide) (by rfl) (pa_cons (pv 0) (pa_cons (pv 1) pa_nil))) pa_nil)))) pa_nil)))), ?_⟩
    have hS2 := hS
    have s0 : Same H H := fun _ _ h => h
    -- the numbers
    refine ⟨_, rfl, a, _, rfl, .inl hS2, _, _, rfl, _, _, rfl, ?_⟩
    rw [List.length_map]
    generalize hm : (if (6 : Int) < (ns.length : Int) then (6 : Int) else (ns.length : Int)) = m
    have m1 : m ≤ 6 := by rw [← hm]; split <;> omega
    refine ⟨_, rfl, by split <;> omega, by split <;> omega, fun D nD => ?_⟩
    refine lc_range (lo := 0) (n := (if m > (2 : Int) then m else 2).toNat) (fun i J => ∃ bs : List Bool, bs.length = i ∧ bs.all id = true ∧ J D = some (.lst (bs.map V.bl)) ∧ Same H J) ⟨[], rfl, rfl, upd_same, same_new nD⟩ ?_ ?_
    · rintro i J hi ⟨bs, rfl, ha, eD, sJ⟩
      have i5 : bs.length < 6 := by
        revert hi
        split <;> omega
      refine ⟨rfl, yesT (iteT ⟨_, rfl, _, rfl, a, bs.length, ns, ?_, sq_same sJ hS2, by omega, fun p G np hp sG => ?_⟩)⟩
      · rw [Int.zero_add]
        rfl
      · refine ⟨p, rfl, hp, fun G2 L => ?_⟩
        have nDp : D ≠ p := ne_of_none eD np
        have gD : G2 D = some (.lst (bs.map V.bl)) := L.keep _ _ (sG _ _ eD) nDp
        refine ⟨_, gD, small1000 (by rw [List.length_map]; omega), bs ++ [true], by rw [List.length_append]; rfl, by rw [List.all_append, ha]; rfl, ?_, fun b o e => ?_⟩
        · rw [upd_same, List.map_append]
          rfl
        · rw [upd_ne (ne_of_none e nD)]
          exact L.keep _ _ (sG _ _ (sJ _ _ e)) (ne_of_none (sJ _ _ e) np)
    · rintro J ⟨bs, el, ha, eD, sJ⟩
      refine ⟨D, bs, rfl, .inl (.inl eD), ?_⟩
      rw [ha]
      exact k J
end
end Gu
namespace Gu
open PySem PySem.Spec PyProof.Rows L2
theorem yes {σ : L2.St} {H : Hp} {Q : Bool → Hp → Prop} (h : Q true H) : tYes σ H Q := h
end Gu
namespace Gu
open PySem PySem.Spec PyProof.Rows L2
/-! ### is_integer, is_text -/
/-- isinstance(x, T) is b -/
def Isa (K : PySem.W.Frag) (H : Hp) (x : V) (T : String) (b : Bool) : Prop := ∃ t, TyX K H x t ∧ PySem.W.kitOne K t (.type T) = some b
def signs : Str := ".0123456789abcdefghijklmnopqrstuvwxyz~"
def isTxt (z : Str) (m : Int) : Bool := decide ((z.length : Int) ≤ m) && z.cps.toList.all fun c => decide (c ∈ signs.cps.toList)
section
variable {P : Program} {w : World} {K : PySem.W.Frag} {mg : Str → Option Value} {base : Heap}
theorem Isa.int_int {H : Hp} {i : Int} : Isa K H (.int i) "int" true := ⟨_, .base (.int i), kit_ty (by decide +kernel)⟩
theorem Isa.int_bool {H : Hp} {i : Int} : Isa K H (.int i) "bool" false := ⟨_, .base (.int i), kit_ty (by decide +kernel)⟩
theorem Isa.str_str {H : Hp} {z : Str} : Isa K H (.str z) "str" true := ⟨_, .base (.str z), kit_ty (by decide +kernel)⟩
def spIsInteger (K : PySem.W.Frag) : Sp := fun vs H Q _ => ∃ (x : V) (a b : Int), vs = [x, .int a, .int b] ∧
  ((∃ v, x = .int v ∧ Q (.bl (decide (a ≤ v ∧ v ≤ b))) H) ∨ (Isa K H x "int" false ∧ Q (.bl false) H) ∨ (Isa K H x "int" true ∧ Isa K H x "bool" true ∧ Q (.bl false) H))
theorem cal_isInteger (B : Bi mg) (D : At K mg "is_integer" s_is_integer ps_is_integer) : Cal P w K mg base 1 "is_integer" ps_is_integer (spIsInteger K) := by
  refine D.cal sc_is_integer (fun vs H Q E h => ?_) (fun f cdv A outer s H vs Q E hr h => ?_)
  · obtain ⟨x, a, b, rfl, _⟩ := h
    rfl
  · obtain ⟨x, a, b, rfl, h⟩ := h
    refine ⟨_, (pss_cons (ps_if (PW.pt (pw_or (pt_not (pt_val (pe_callB call_isi (by rfl) B.isinstance (by decide +kernel) (pa_cons (pv 0) (pa_cons (pe_bltn (v := .ty "int") (by rfl) B.int (by decide +kernel) rfl) pa_nil))))) (pw_or1 (pt_val (pe_callB call_isi (by rfl) B.isinstance (by decide +kernel) (pa_cons (pv 0) (pa_cons (pe_bltn (v := .ty "bool") (by rfl) B.bool (by decide +kernel) rfl) pa_nil))))))) (pss_one (ps_ret pe_bl)) pss_nil)
      (pss_one (ps_ret (pe_chain op_le op_le (pv 1) (pv 0) (pv 2))))), ?_⟩
    rcases h with ⟨v, rfl, k⟩ | ⟨⟨t, i1, i2⟩, k⟩ | ⟨⟨t, i1, i2⟩, ⟨t', j1, j2⟩, k⟩
    · obtain ⟨t, i1, i2⟩ := Isa.int_int (K := K) (H := H) (i := v)
      obtain ⟨t', j1, j2⟩ := Isa.int_bool (K := K) (H := H) (i := v)
      refine ⟨_, rfl, _, _, t, _, true, rfl, .ty _, i1, i2, _, rfl, iteF ⟨_, rfl, _, _, t', _, false, rfl, .ty _, j1, j2, _, rfl, iteF ?_⟩⟩
      refine ⟨_, rfl, _, rfl, _, _, rfl, rfl, _, rfl, ?_⟩
      by_cases e1 : a ≤ v
      · rw [decide_eq_true e1]
        refine iteT ⟨_, rfl, _, _, rfl, rfl, ?_⟩
        have e : decide (a ≤ v ∧ v ≤ b) = decide (v ≤ b) := by simp only [e1, true_and]
        rw [e] at k
        exact k
      · rw [decide_eq_false e1]
        refine iteF ?_
        have e : decide (a ≤ v ∧ v ≤ b) = false := by simp only [e1, false_and, decide_false]
        rw [e] at k
        exact k
    · refine ⟨_, rfl, _, _, t, _, false, rfl, .ty _, i1, i2, _, rfl, iteT (iteT k)⟩
    · refine ⟨_, rfl, _, _, t, _, true, rfl, .ty _, i1, i2, _, rfl, iteF ⟨_, rfl, _, _, t', _, true, rfl, .ty _, j1, j2, _, rfl, iteT k⟩⟩
def spIsText (K : PySem.W.Frag) : Sp := fun vs H Q _ => ∃ (x : V) (m : Int), vs = [x, .int m] ∧
  ((∃ z : Str, x = .str z ∧ z.length ≤ 1000 ∧ ∀ G, Same H G → Q (.bl (isTxt z m)) G) ∨ (Isa K H x "str" false ∧ Q (.bl false) H))
theorem cal_isText (B : Bi mg) (D : At K mg "is_text" s_is_text ps_is_text) : Cal P w K mg base 1 "is_text" ps_is_text (spIsText K) := by
  refine D.cal sc_is_text (fun vs H Q E h => ?_) (fun f cdv A outer s H vs Q E hr h => ?_)
  · obtain ⟨x, m, rfl, _⟩ := h
    rfl
  · obtain ⟨x, m, rfl, h⟩ := h
    refine ⟨_, (pss_cons (ps_if (PW.pt (pw_or (pt_not (pt_val (pe_callB call_isi (by rfl) B.isinstance (by decide +kernel) (pa_cons (pv 0) (pa_cons (pe_bltn (v := .ty "str") (by rfl) B.str (by decide +kernel) rfl) pa_nil))))) (pw_or1 (pt_cmpR op_gt (pe_callB call_len (by rfl) B.len (by decide +kernel) (pa_cons (pv 0) pa_nil)) (pv 1) (nomark _))))) (pss_one (ps_ret pe_bl)) pss_nil)
      (pss_one (ps_ret (pe_callB (cr_all rfl) (by rfl) B.all (by decide +kernel) (pa_cons (pe_lc (own := [("character", 2)]) (by rfl) sc_is_text.nd (pi_str (pv 0)) (blkOk_by (own := [("character", 2)]) (N := ["value", "most", "character"]) (sc := defScope s_is_text) (by decide +kernel)) (fun _ _ _ _ _ => pg_name (i := 2) sc_is_text.nd rfl (.inl rfl)) (fun _ _ _ _ _ => pts_nil) (fun _ _ _ _ _ => (pe_cmpR op_in_sign (pv 2) (pe_cst B.SIGNS (by rfl)) (by rfl)))) pa_nil))))), ?_⟩
    rcases h with ⟨z, rfl, zl, k⟩ | ⟨⟨t, i1, i2⟩, k⟩
    · obtain ⟨t, i1, i2⟩ := Isa.str_str (K := K) (H := H) (z := z)
      refine ⟨_, rfl, _, _, t, _, true, rfl, .ty _, i1, i2, _, rfl, iteF ⟨_, rfl, _, _, rfl, ⟨Nat.le_of_lt (small1000 zl), rfl⟩, _, rfl, _, _, rfl, rfl, _, rfl, ite2 (fun e => ?_) (fun e => ?_)⟩⟩
      · have e1 : ¬ (z.length : Int) ≤ m := by
          have := of_decide_eq_true e
          omega
        have e2 : isTxt z m = false := by
          unfold isTxt
          rw [decide_eq_false e1, Bool.false_and]
        rw [e2] at k
        exact k H (Same.refl H)
      · have e1 : (z.length : Int) ≤ m := by
          have h2 : ¬ m < (z.length : Int) := fun h3 => e (decide_eq_true h3)
          omega
        refine ⟨_, rfl, z, rfl, fun D nD => lc_it walk_str (fun i J => Same H J ∧ J D = some (.lst (((z.cps.toList.take i).map fun c => decide (c ∈ signs.cps.toList)).map V.bl)))
          ⟨same_new nD, by rw [upd_same]; rfl⟩ (fun _ _ _ _ => trivial) ?_ ?_⟩
        · rintro i v J _ hi ⟨sJ, eJ⟩ ⟨rfl, c, hc, rfl⟩
          refine ⟨rfl, yes (iteT ?_)⟩
          refine ⟨_, rfl, c, signs, rfl, rfl, _, eJ, small1000 ?_, ?_, ?_⟩
          · rw [List.length_map, List.length_map, List.length_take]
            have : z.length = z.cps.toList.length := rfl
            omega
          · exact fun b o e => by
              rw [upd_ne (ne_of_none e nD)]
              exact sJ b o e
          · rw [upd_same]
            have hc' : z.cps.toList[i]? = some c := by
              rw [← Array.getElem?_toList] at hc
              exact hc
            rw [List.take_add_one, hc', List.map_append, List.map_append]
            rfl
        · rintro J ⟨sJ, eJ⟩
          refine ⟨D, ((z.cps.toList.take z.cps.size).map fun c => decide (c ∈ signs.cps.toList)), rfl, .inl (.inl eJ), ?_⟩
          have e2 : ((z.cps.toList.take z.cps.size).map fun c => decide (c ∈ signs.cps.toList)).all id = isTxt z m := by
            unfold isTxt
            rw [decide_eq_true e1, Bool.true_and, List.take_of_length_le (show z.cps.toList.length ≤ z.cps.size from Nat.le_refl _), List.all_map]
            rfl
          rw [e2]
          exact k J sJ
    · refine ⟨_, rfl, _, _, t, _, false, rfl, .ty _, i1, i2, _, rfl, iteT (iteT k)⟩
end
end Gu
namespace Gu
open PySem PySem.Spec PyProof.Rows L2
/-! ### is_tuple -/
theorem isaTupP {K : PySem.W.Frag} {H : Hp} {l : Addr} {xs : List V} (h : SqT K H l xs) : Isa K H (.ref l) "tuple" true := by
  rcases h with (h | ⟨o, h⟩) | ⟨o, its, n, e, c, _⟩
  · exact ⟨_, .base (.tup h), kit_ty (by decide +kernel)⟩
  · exact ⟨_, .fTuple h, kit_ty (by decide +kernel)⟩
  · exact ⟨_, .kTuple e c, kit_ty (by decide +kernel)⟩
section
variable {P : Program} {w : World} {K : PySem.W.Frag} {mg : Str → Option Value} {base : Heap} {C : Addr}
def spIsTuple (K : PySem.W.Frag) : Sp := fun vs H Q _ => ∃ (x : V) (a b : Int), vs = [x, .int a, .int b] ∧
  ((∃ (l : Addr) (xs : List V), x = .ref l ∧ SqT K H l xs ∧ Q (.bl (decide (a ≤ (xs.length : Int) ∧ (xs.length : Int) ≤ b))) H) ∨ (Isa K H x "tuple" false ∧ Q (.bl false) H))
theorem cal_isTuple (B : Bi mg) (D : At K mg "is_tuple" s_is_tuple ps_is_tuple) : Cal P w K mg base 1 "is_tuple" ps_is_tuple (spIsTuple K) := by
  refine D.cal sc_is_tuple (fun vs H Q E h => ?_) (fun f cdv A outer s H vs Q E hr h => ?_)
  · obtain ⟨x, a, b, rfl, _⟩ := h
    rfl
  · obtain ⟨x, a, b, rfl, h⟩ := h
    refine ⟨_, (pss_one (ps_ret (pe_and (pe_callB call_isi (by rfl) B.isinstance (by decide +kernel) (pa_cons (pv 0) (pa_cons (pe_bltn (v := .ty "tuple") (by rfl) B.tuple (by decide +kernel) rfl) pa_nil))) (pe_one (pe_chain op_le op_le (pv 1) (pe_callB call_len (by rfl) B.len (by decide +kernel) (pa_cons (pv 0) pa_nil)) (pv 2)))))), ?_⟩
    rcases h with ⟨l, xs, rfl, hT, k⟩ | ⟨⟨t, i1, i2⟩, k⟩
    · obtain ⟨t, i1, i2⟩ := isaTupP hT
      refine ⟨_, rfl, _, _, t, _, true, rfl, .ty _, i1, i2, _, rfl, iteT ?_⟩
      refine ⟨_, rfl, _, rfl, _, _, rfl, .inr ⟨_, hT, rfl⟩, _, _, rfl, rfl, _, rfl, ?_⟩
      by_cases e1 : a ≤ (xs.length : Int)
      · rw [decide_eq_true e1]
        refine iteT ⟨_, rfl, _, _, rfl, rfl, ?_⟩
        have e : decide (a ≤ (xs.length : Int) ∧ (xs.length : Int) ≤ b) = decide ((xs.length : Int) ≤ b) := by simp only [e1, true_and]
        rw [e] at k
        exact k
      · rw [decide_eq_false e1]
        refine iteF ?_
        have e : decide (a ≤ (xs.length : Int) ∧ (xs.length : Int) ≤ b) = false := by simp only [e1, false_and, decide_false]
        rw [e] at k
        exact k
    · exact ⟨_, rfl, _, _, t, _, false, rfl, .ty _, i1, i2, _, rfl, iteF k⟩
end
end Gu
namespace PySem
open Sem (wp)
open AutoSeq1 (wpAny_loadPart')
theorem gu_new_enum (a : Addr) (vs : Array Value) (n : Nat) (dt : Option Addr) (sl : Array (Option Value)) : Meets (Builtin.«enumerate.__new__» ⟨[.type "enumerate", .ref a], []⟩) (fun _ R s =>
    s.heap.get? a = some ⟨.type "tuple", dt, .seq vs n, sl⟩ ∧ R (.ok (.ret (.ref (s.heap.push { cls := .type "tuple_iterator", data := .fields #[.ref a, .int 0 0] }).objs.size))) { s with heap := (s.heap.push { cls := .type "tuple_iterator", data := .fields #[.ref a, .int 0 0] }).push { cls := .type "enumerate", data := .fields #[.none, .bool false, .ref s.heap.objs.size, rawInt 0, .none, .none] } }) :=
  .of_wp fun prog w A R s h => by
    obtain ⟨s1, s2, s3, s4, s5⟩ := s
    obtain ⟨ha, h⟩ := h
    have sb := sub_enumerate
    have hT : Heap.IsTuple (Shared.heap ⟨s1, s2, s3, s4, s5⟩) a vs := ⟨_, ha, rfl, n, rfl⟩
    wp_walk using wpAny_loadPart' ha
    refine wpAny_stack_any fun fr => wpAny_pure ?_
    split
    · next c _ _ _ _ _ =>
      cases (c == Value.type "enumerate") <;> (wp_walk using wpAny_loadPart' ha, wpAny_pyIter_tuple hT; exact ⟨_, rfl, h⟩)
    · wp_walk using wpAny_loadPart' ha, wpAny_pyIter_tuple hT
      exact ⟨_, rfl, h⟩
section
variable {prog : Program} {w : World} {A : Around} {E : Value → Shared → Prop} {s : Shared}
theorem gu_call_enum {a : Addr} {vs : Array Value} {Q : Value → Shared → Prop} (hT : s.heap.IsTuple a vs)
    (h : ∀ g, IsEnum g (s.heap.objs.size + 1) s.heap.objs.size 0 .none → g.IsTupleIter s.heap.objs.size a 0 → (∀ b o, s.heap.get? b = some o → g.get? b = some o) → Q (.ref (s.heap.objs.size + 1)) { s with heap := g }) :
    wpAny (model prog w) A (call (.type "enumerate") [.ref a]) Q E s := by
  obtain ⟨⟨oc, od, dd, sl⟩, ha, hc, n, hd⟩ := hT
  cases (show oc = .type "tuple" from hc)
  cases (show dd = .seq vs n from hd)
  refine callType_new F.called_enumerate (by decide) (F.typeCall_enumerate_1 _) (F.newCall_enumerate_1 _) (fun o => F.args_object_init_2 o _) F.entry_enumerate_new (gu_new_enum a vs n od sl) ⟨ha, ?_⟩
  have z1 : (s.heap.push { cls := .type "tuple_iterator", data := .fields #[.ref a, .int 0 0] }).objs.size = s.heap.objs.size + 1 := Heap.size_push ..
  show _ ∧ _
  rw [z1]
  have en : IsEnum ((s.heap.push { cls := .type "tuple_iterator", data := .fields #[.ref a, .int 0 0] }).push { cls := .type "enumerate", data := .fields #[.none, .bool false, .ref s.heap.objs.size, rawInt 0, .none, .none] }) (s.heap.objs.size + 1) s.heap.objs.size 0 .none := by
    have q := Heap.get?_push_size (s.heap.push { cls := .type "tuple_iterator", data := .fields #[.ref a, .int 0 0] }) (o := { cls := .type "enumerate", data := .fields #[.none, .bool false, .ref s.heap.objs.size, rawInt 0, .none, .none] }) rfl
    rw [z1] at q
    exact q
  exact ⟨⟨_, en, rfl⟩, h _ en ⟨_, Heap.get?_push_of_some _ (Heap.get?_push_size _ rfl), rfl, rfl⟩ fun b o x => Heap.get?_push_of_some _ (Heap.get?_push_of_some _ x)⟩
end
end PySem
namespace Gu
open PySem PySem.Spec PyProof.Rows L2
/-- the tuple at a, each item in a new pair with its place -/
def EnT (K : PySem.W.Frag) (a : Addr) : It where
  go := fun i H => ∃ (xs : List V) (x : V), SqT K H a xs ∧ xs[i]? = some x
  yld := fun i H v G => ∃ T x, v = .ref T ∧ H T = none ∧ G = upd H T (.tup [.int (i : Nat), x]) ∧ ∀ xs, SqT K H a xs → xs[i]? = some x
  stop := fun i H => ∃ xs : List V, SqT K H a xs ∧ xs.length = i
theorem turn_enT {P : Program} {w : World} {K : PySem.W.Frag} {es : List Expr} {kk : Nat} {tp : Pos} (a e it : Addr) :
    Turn P w K (.Tuple es kk tp) (EnT K a) [e, it] e (fun i h => (∃ old, IsEnum h e it ((i : Nat) : Int) old) ∧ h.IsTupleIter it a i ∧ e ≠ it) where
  mem := List.mem_cons_self ..
  obj := fun i h st b hb => by
    obtain ⟨⟨old, he⟩, ⟨o, ho, hc, hd⟩, _⟩ := st
    simp only [List.mem_cons, List.not_mem_nil, or_false] at hb
    rcases hb with rfl | rfl
    · exact ⟨_, he, fun v q => nomatch q⟩
    · exact ⟨o, ho, fun v q => by rw [hd] at q; cases q⟩
  keep := fun i h g st k => by
    obtain ⟨⟨old, he⟩, hi, ne⟩ := st
    exact ⟨⟨old, k e (by simp) _ he⟩, hi.at fun o q => k it (by simp) o q, ne⟩
  item := by
    intro X hP hw hK hc i pins s σ H E I hf st hg
    subst hP hw hK
    obtain ⟨⟨old, he⟩, hit, ne⟩ := st
    obtain ⟨xs, x, hq, hx⟩ := hg
    obtain ⟨its, rv, tp, hz⟩ := I.tuple hq
    obtain ⟨u, hu, ru⟩ := rv.get hx
    have el : e < s.heap.objs.size := Heap.lt_size he
    have il : it < s.heap.objs.size := by
      obtain ⟨_, q, _⟩ := hit
      exact Heap.lt_size q
    have tp' : s.heap.IsTuple a its.toArray := tp
    have nai : a ≠ it := fun z => by
      obtain ⟨o1, g1, c1, _⟩ := tp'
      obtain ⟨o2, g2, c2, _⟩ := hit
      rw [z] at g1
      cases g1.symm.trans g2
      exact absurd (Value.type.inj (c1.symm.trans c2)) (by decide)
    have nea : e ≠ a := fun z => by
      obtain ⟨o1, g1, c1, _⟩ := tp'
      have g2 := he
      rw [z] at g2
      cases g1.symm.trans g2
      exact absurd (Value.type.inj c1) (by decide)
    have hd : X.A.in1.handled = none := I.ok.hd hc
    refine wpAny_pyNext_enum_itemD (Draws.tuple hd it a nai its.toArray) he ⟨hit, tp'⟩ (i := i) (by
      have := (List.getElem?_eq_some_iff.mp hu).1
      simpa using this) ne (by simp [ne, nea]) fun y g tk hy ho st' hT hsz hk => ?_
    have ey : y = u := by
      have : its[i]? = some y := by simpa using hy
      rw [hu] at this
      exact (Option.some.inj this).symm
    subst ey
    refine ⟨_, rfl, wpAny_letOwnedTupleGo_enum (s := { s with heap := g, toks := tk + 1 }) ho fun g2 he' sb => ?_⟩
    have hT2 : g2.get? s.heap.objs.size = some { cls := .type "tuple", data := .seq #[.int i tk, y] } := (sb.2 _ (Nat.ne_of_gt el)).trans hT
    have nw : ObjOk X.prog X.w (upd H s.heap.objs.size (.tup [.int (i : Nat), x])) g2 s.heap.objs.size (.tup [.int (i : Nat), x]) := ⟨by show 2 ≤ sizeLine; decide, [.int i tk, y], .cons ⟨_, rfl⟩ (.cons ru .nil), ⟨_, hT2, rfl, _, rfl⟩⟩
    have I1 : Inv X pins σ (upd H s.heap.objs.size (.tup [.int (i : Nat), x])) { s with heap := g2, toks := tk + 1 } :=
      I.turnedNew (ch := [e, it]) (fun b ob hb q => (sb.2 b (fun z => hb (by simp [z]))).trans (hk b ob (fun z => hb (by simp [z])) (fun z => hb (by simp [z])) q)) hf (Nat.le_refl _) nw
    refine ⟨.ref s.heap.objs.size, _, I1, rfl, ⟨_, x, rfl, I.hok.fresh (Nat.le_refl _), rfl, fun ys hy => by rw [I.tuple_inj hy hq]; exact hx⟩, ⟨⟨y, ?_⟩, st'.1.at fun o q => (sb.2 it (Ne.symm ne)).trans q, ne⟩, fun b hb => ?_⟩
    · rw [show ((i + 1 : Nat) : Int) = (i : Int) + 1 by omega]
      exact he'
    · have hb' : b < s.heap.objs.size := by
        simp only [List.mem_cons, List.not_mem_nil, or_false] at hb
        rcases hb with rfl | rfl
        · exact el
        · exact il
      rw [upd_ne (Nat.ne_of_lt hb')]
      exact (hf b hb).1
  done := by
    intro X hP hw hK hc i pins s σ H E I hf st hg
    subst hP hw hK
    obtain ⟨⟨old, he⟩, hit, ne⟩ := st
    obtain ⟨xs, hq, hx⟩ := hg
    obtain ⟨its, rv, tp, hz⟩ := I.tuple hq
    have tp' : s.heap.IsTuple a its.toArray := tp
    have nai : a ≠ it := fun z => by
      obtain ⟨o1, g1, c1, _⟩ := tp'
      obtain ⟨o2, g2, c2, _⟩ := hit
      rw [z] at g1
      cases g1.symm.trans g2
      exact absurd (Value.type.inj (c1.symm.trans c2)) (by decide)
    have hd : X.A.in1.handled = none := I.ok.hd hc
    have en : its.toArray.size = i := by
      have := rv.length
      simp only [List.size_toArray]
      omega
    obtain ⟨f0, f1, f2, f3, f4, f5⟩ := hf it (by simp)
    exact wpAny_pyNext_enum_endD (Draws.tuple hd it a nai its.toArray) he ⟨by rw [en]; exact hit, tp'⟩ fun g eb => ⟨rfl, I.turned (t' := s.toks) (fun b o hb q => eb b o hb q) f0 f1 f3 f4 f5⟩
  self := fun A i s Q E st h => by
    obtain ⟨⟨_, he⟩, _⟩ := st
    exact wpAny_pyIter_enum he h
def iEnT (K : PySem.W.Frag) (ta : TA) : TI := fun σ H R => ta σ H fun vs G => ∃ a xs, vs = [.ref a] ∧ SqT K G a xs ∧ R (EnT K a) G
theorem pi_enT {X : Cx} {e : Expr} {ta : TA} {p pos tp : Pos} {es : List Expr} {kk : Nat} (hg : Gl X "enumerate") (hm : X.mg "enumerate" = none) (ha : PA X [e] ta) (hs : starEach [e] X.env = [(false, eval e X.env)] := by rfl) :
    PI X (.Tuple es kk tp) (.Call (.Name "enumerate" p) [e] [] pos) (iEnT X.K ta) := by
  refine ⟨fun pins s σ H R I h => ?_⟩
  refine Call_ (ld_blt I hg hm boot_enumerate (PyProof.Rows.callWith_type1 (thn (ha.run pos pins s σ H _ I h) fun us s1 ⟨vs, G, I1, r1, q1⟩ => ?_) hs rfl))
  obtain ⟨a, xs, ex, hq, q⟩ := q1
  subst ex
  cases r1 with
  | cons r rr =>
    cases rr
    cases r
    obtain ⟨its, rv, tq, hz⟩ := I1.tuple hq
    refine gu_call_enum (show s1.heap.IsTuple a its.toArray from tq) fun g he hit hk => wpAny_pyIter_enum he ?_
    have I2 : Inv X pins σ G { s1 with heap := g } := I1.kept (t' := s1.toks) hk
    refine ⟨s1.heap.objs.size + 1, [s1.heap.objs.size + 1, s1.heap.objs.size], _, _, G, rfl, I2, turn_enT a (s1.heap.objs.size + 1) s1.heap.objs.size, ⟨⟨.none, he⟩, hit, Nat.succ_ne_self _⟩, fun b hb => ?_, q⟩
    have le : s1.heap.objs.size ≤ b := by
      simp only [List.mem_cons, List.not_mem_nil, or_false] at hb
      rcases hb with rfl | rfl
      · exact Nat.le_add_right _ _
      · exact Nat.le_refl _
    exact I1.fpOk le (I1.hok.fresh le)
/-- the walk of such a loop: a new pair each turn -/
theorem walk_enT {K : PySem.W.Frag} {a : Addr} {xs : List V} : Walk (EnT K a) xs.length (fun H => SqT K H a xs) (fun i H v G => ∃ T x, xs[i]? = some x ∧ v = .ref T ∧ H T = none ∧ G = upd H T (.tup [.int (i : Nat), x])) where
  goes := fun i H hi h => ⟨xs, xs[i], h, List.getElem?_eq_getElem hi⟩
  stops := fun H h => ⟨xs, h, rfl⟩
  yields := fun i H v G hi h ⟨T, x, e1, e2, e3, e4⟩ => ⟨T, x, e4 xs h, e1, e2, e3⟩
end Gu
namespace Gu
open PySem PySem.Spec PyProof.Rows L2
/-! ### the class Namer, its __init__ -/
def nflds (so : Str) (w : Int) : List (Str × V) := putF "width" (.int w) (putF "rule" (.str so) [])
theorem nflds_rule (so : Str) (w : Int) : (nflds so w).lookup ("rule" : Str) = some (.str so) := by
  unfold nflds
  rw [lookup_putF, if_neg (by decide +kernel), lookup_putF, if_pos rfl]
theorem nflds_width (so : Str) (w : Int) : (nflds so w).lookup ("width" : Str) = some (.int w) := by
  unfold nflds
  rw [lookup_putF, if_pos rfl]
/-- what stands at a namer -/
def NmAt (C : Addr) (H : Hp) (x : Addr) (so : Str) (w : Int) : Prop := ∃ dx, H x = some (.ins C dx (nflds so w))
theorem NmAt.same {C : Addr} {H G : Hp} {x : Addr} {so : Str} {w : Int} (s : Same H G) (h : NmAt C H x so w) : NmAt C G x so w := by
  obtain ⟨dx, e⟩ := h
  exact ⟨dx, s _ _ e⟩
structure NmC (K : PySem.W.Frag) (mg : Str → Option Value) (C : Addr) : Prop where
  cl : Cls K C
  nR : NoAttr K C "rule"
  nW : NoAttr K C "width"
  g : mg "Namer" = some (.ref C)
  ha : PySem.W.findIn K (.ref C) "__class__" = some (some (.builtin "object.__class__"))
  hn : PySem.W.specialIn K (.builtin "object.__class__") "__get__" = some (some (.builtin "getset_descriptor.__get__"))
  ht : PySem.W.takesIn K (.builtin "object.__class__") = some true
  hm : PySem.W.mroIn K C (.type "object") = some true
  kk : PySem.W.kitOne K (.ref C) (.ref C) = some true
  rules : ∃ T, mg "RULES" = some (.ref T) ∧ ∀ H : Hp, SqT K H T (sorts.map V.str)
structure NInitAt (K : PySem.W.Frag) (C : Addr) : Prop where
  ex : ∃ (f : Addr) (fd : FuncData), Mk K C f ∧ Fun K "__init__" "Namer.__init__" s_Namer_init f fd ∧ Binds K fd ps_Namer_init []
section
variable {P : Program} {w : World} {K : PySem.W.Frag} {mg : Str → Option Value} {base : Heap} {C : Addr}
theorem ok_ninit {f : Addr} {fd : FuncData} (B : Bi mg) (S : NmC K mg C) (F : Fun K "__init__" "Namer.__init__" s_Namer_init f fd) (C_is_integer : Cal P w K mg base 1 "is_integer" ps_is_integer (spIsInteger K)) : FnOk P w K mg base CX0 2 f fd ps_Namer_init (spNInit C (NmAt C)) := by
  refine F.ok sc_Namer_init (fun vs H Q E h => ?_) (fun cdv A outer s H vs Q E hr h => ?_)
  · obtain ⟨x, dx, so, w, rfl, _⟩ := h
    rfl
  · obtain ⟨x, dx, so, w, rfl, hx, hso, w0, w1, k⟩ := h
    obtain ⟨T, gT, hT⟩ := S.rules
    refine ⟨_, (pss_cons (ps_if (PW.pt (pw_or (pt_not (pt_val (pe_callB call_isi (by rfl) B.isinstance (by decide +kernel) (pa_cons (pv 1) (pa_cons (pe_bltn (v := .ty "str") (by rfl) B.str (by decide +kernel) rfl) pa_nil))))) (pw_or1 (pt_cmpR op_notIn_seq (pv 1) (pe_glob (v := .ref T) (by rfl) gT rfl) (by rfl))))) pss_never pss_nil)
      (pss_cons (ps_if (pt_not (pt_val (pe_own C_is_integer hr (by decide) (by rfl) (pa_cons (pv 2) (pa_cons (pe_cst B.LEAST_WIDTH (by rfl)) (pa_cons (pe_cst B.MOST_SIGNS (by rfl)) pa_nil)))))) pss_never pss_nil)
      (pss_cons (ps_fld (pv 0) (pv 1) rfl)
      (pss_one (ps_fld (pv 0) (pv 2) rfl))))), ?_⟩
    obtain ⟨t, i1, i2⟩ := Isa.str_str (K := K) (H := H) (z := so)
    refine ⟨_, rfl, _, _, t, _, true, rfl, .ty _, i1, i2, _, rfl, iteF ?_⟩
    refine ⟨_, rfl, T, _, rfl, .inr (hT H), rfl, flat_strs sorts, _, rfl, ?_⟩
    rw [in_strs so sorts, decide_eq_true hso]
    refine iteF ?_
    refine ⟨_, rfl, _, _, _, rfl, .inl ⟨_, rfl, _, rfl, ?_⟩⟩
    rw [decide_eq_true ⟨w0, w1⟩]
    refine iteF ?_
    refine ⟨_, rfl, _, rfl, x, C, dx, [], rfl, hx, S.cl, S.nR, by decide, ?_⟩
    refine ⟨_, rfl, _, rfl, x, C, dx, _, rfl, upd_same, S.cl, S.nW, by exact Nat.lt_of_le_of_lt (length_putF _ _ _) (by decide), ?_⟩
    rw [upd_upd]
    refine k _ ⟨dx, upd_same⟩ fun c o e nc => ?_
    rw [upd_ne nc]
    exact e
theorem mak_nm (B : Bi mg) (S : NmC K mg C) (D : NInitAt K C) (C_is_integer : Cal P w K mg base 1 "is_integer" ps_is_integer (spIsInteger K)) : Mak P w K mg base 2 "Namer" C (spNInit C (NmAt C)) := by
  obtain ⟨f, fd, M, F, b⟩ := D.ex
  exact ⟨f, fd, ps_Namer_init, M, ok_ninit B S F C_is_integer, S.g, b⟩
end
end Gu
namespace Gu
open PySem PySem.Spec PyProof.Rows L2
/-! ### the program: names -/
section
variable {P : Program} {w : World} {K : PySem.W.Frag} {mg : Str → Option Value} {base : Heap} {C : Addr}
/-! texts that are as they should be -/
theorem wd_isTxt {n : Nat} {z : Str} (h : Wd n z) : isTxt z n = true := by
  have e : z.length = z.cps.toList.length := rfl
  have l := h.len
  unfold isTxt
  rw [decide_eq_true (by omega), Bool.true_and, List.all_eq_true]
  exact fun c hc => decide_eq_true (h.sgn c hc)
theorem atP_strs {ts : List Str} {i : Nat} {v : V} (hi : (ts.map V.str)[i]? = some v) : ∃ t, ts[i]? = some t ∧ v = .str t ∧ t ∈ ts := by
  rw [List.getElem?_map] at hi
  cases e : ts[i]? with
  | none =>
    rw [e] at hi
    cases hi
  | some t =>
    rw [e] at hi
    exact ⟨t, rfl, (Option.some.inj hi).symm, List.mem_of_getElem? e⟩
def spCheckTexts (K : PySem.W.Frag) : Sp := fun vs H Q _ => ∃ (l : Addr) (ts : List Str) (m : Int), vs = [.ref l, .int m] ∧ SqT K H l (ts.map V.str) ∧ (ts.length : Int) ≤ m ∧ (∀ t ∈ ts, Wd 200 t) ∧ ∀ G, Same H G → Q .non G
theorem cal_checkTexts (B : Bi mg) (D : At K mg "check_texts" s_check_texts ps_check_texts) (C_is_tuple : Cal P w K mg base 1 "is_tuple" ps_is_tuple (spIsTuple K)) (C_is_text : Cal P w K mg base 1 "is_text" ps_is_text (spIsText K)) : Cal P w K mg base 2 "check_texts" ps_check_texts (spCheckTexts K) := by
  refine D.cal sc_check_texts (fun vs H Q E h => ?_) (fun f cdv A outer s H vs Q E hr h => ?_)
  · obtain ⟨l, ts, m, rfl, _⟩ := h
    rfl
  · obtain ⟨l, ts, m, rfl, hl, tm, wt, k⟩ := h
    refine ⟨_, (pss_cons (ps_if (pt_not (pt_val (pe_own C_is_tuple hr (by decide) (by rfl) (pa_cons (pv 0) (pa_cons pe_int (pa_cons (pv 1) pa_nil)))))) pss_never pss_nil)
      (pss_one (ps_for PassesOwn.never rfl (pi_enT (by rfl) B.enumerate (pa_cons (pv 0) pa_nil)) (pg_tup rfl (pgs_cons (pg_name (i := 2) sc_check_texts.nd rfl (.inl rfl)) (pgs_cons (pg_name (i := 3) sc_check_texts.nd rfl (.inl rfl)) pgs_nil)))
      (pss_one (ps_if (pt_not (pt_val (pe_own C_is_text hr (by decide) (by rfl) (pa_cons (pv 3) (pa_cons (pe_cst B.MOST_TEXT (by rfl)) pa_nil))))) pss_never pss_nil))))), ?_⟩
    refine ⟨_, rfl, _, rfl, _, _, _, rfl, .inl ⟨l, _, rfl, hl, _, rfl, ?_⟩⟩
    rw [decide_eq_true (show (0 : Int) ≤ ((ts.map V.str).length : Int) ∧ ((ts.map V.str).length : Int) ≤ m by rw [List.length_map]; omega)]
    refine iteF ⟨_, rfl, l, _, rfl, hl, for_it walk_enT (fun i σ J => ∃ u v, σ = [some (.ref l), some (.int m), u, v] ∧ Same H J) ⟨none, none, rfl, Same.refl H⟩ (fun i σ J _ ⟨_, _, _, sJ⟩ => st_same sJ hl) ?_ ?_⟩
    · rintro i v σ J J1 hi ⟨u, v2, rfl, sJ⟩ ⟨T, x, hx, rfl, nT, rfl⟩
      obtain ⟨t, ht, rfl, mt⟩ := atP_strs hx
      have sT : Same H (upd J T (.tup [.int (i : Nat), .str t])) := sJ.trans (same_new nT)
      have tl : t.length ≤ 200 := (wt t mt).len
      refine ⟨T, _, rfl, .inl (.inl upd_same), rfl, _, _, rfl, _, _, rfl, rfl, ?_⟩
      refine ⟨_, rfl, _, _, rfl, .inl ⟨t, rfl, by omega, fun G sG => ⟨_, rfl, ?_⟩⟩⟩
      rw [show isTxt t 200 = true from wd_isTxt (wt t mt)]
      exact iteF ⟨_, _, rfl, sT.trans sG⟩
    · rintro σ J ⟨u, v, rfl, sJ⟩
      exact k J sJ
def spCheckNamer (C : Addr) : Sp := fun vs H Q _ => ∃ (x : Addr) (so : Str) (w : Int), vs = [.ref x] ∧ NmAt C H x so w ∧ Q .non H
theorem cal_checkNamer (B : Bi mg) (S : NmC K mg C) (D : At K mg "check_namer" s_check_namer ps_check_namer) : Cal P w K mg base 1 "check_namer" ps_check_namer (spCheckNamer C) := by
  refine D.cal sc_check_namer (fun vs H Q E h => ?_) (fun f cdv A outer s H vs Q E hr h => ?_)
  · obtain ⟨x, so, w, rfl, _⟩ := h
    rfl
  · obtain ⟨x, so, w, rfl, ⟨dx, e1⟩, k⟩ := h
    refine ⟨_, (pss_one (ps_if (pt_not (pt_val (pe_callB call_isi (by rfl) B.isinstance (by decide +kernel) (pa_cons (pv 0) (pa_cons (pe_glob (v := .ref C) (by rfl) S.g rfl) pa_nil))))) pss_never pss_nil)), ?_⟩
    exact ⟨_, rfl, _, _, _, _, true, rfl, .own C, .base (.ins e1 S.cl S.ha S.hn S.ht S.hm), S.kk, _, rfl, iteF k⟩
def spBaseOf (C : Addr) : Sp := fun vs H Q _ => ∃ (x : Addr) (so : Str) (w : Int) (t : Str), vs = [.ref x, .str t] ∧ NmAt C H x so w ∧ t.length ≤ 1000 ∧ Q (.str (nbase w t)) H
theorem cal_baseOf (B : Bi mg) (S : NmC K mg C) (D : At K mg "base_of" s_base_of ps_base_of) : Cal P w K mg base 1 "base_of" ps_base_of (spBaseOf C) := by
  refine D.cal sc_base_of (fun vs H Q E h => ?_) (fun f cdv A outer s H vs Q E hr h => ?_)
  · obtain ⟨x, so, w, t, rfl, _⟩ := h
    rfl
  · obtain ⟨x, so, w, t, rfl, ⟨dx, e1⟩, tl, k⟩ := h
    refine ⟨_, (pss_one (ps_ret (pe_slice sl_str (pv 1) po_none (po_some (pe_fld (pv 0) rfl))))), ?_⟩
    exact ⟨_, rfl, _, rfl, x, C, dx, _, _, rfl, e1, S.cl, S.nW, nflds_width _ _, w, rfl, t, rfl, Nat.le_of_lt (small1000 tl), k⟩
theorem cutS_allP {y : Str} {h : Int} (l : (y.length : Int) ≤ h) : cutS y none (some h) = y := by
  refine str_ext ?_
  have e : y.length = y.cps.toList.length := rfl
  rw [cutS_head y (by omega), List.take_of_length_le (by omega)]
/-- the program's way to cut the base -/
theorem numbered_tight {so : Str} {w : Int} {t : Str} {n : Int} (h : so = ("tight" : String)) : numbered so w t n = cutS (nbase w t) none (some (w - (ending n).length)) ++ ending n := by
  unfold numbered
  rw [decide_eq_true h, Bool.true_and]
  split
  · rfl
  · next e =>
    have e := of_decide_eq_false (Bool.eq_false_iff.mpr e)
    rw [cutS_allP (y := nbase w t) (by omega)]
theorem numbered_other {so : Str} {w : Int} {t : Str} {n : Int} (h : ¬ so = ("tight" : String)) : numbered so w t n = nbase w t ++ ending n := by
  unfold numbered
  rw [decide_eq_false h, Bool.false_and]
  rfl
theorem ending_is (n : Int) : Str.empty ++ (("~" : String) : Str) ++ ((toString n : String) : Str) = ending n := by
  have e : Str.empty ++ (("~" : String) : Str) = (("~" : String) : Str) := by decide +kernel
  rw [e]
  rfl
def spNumP (C : Addr) : Sp := fun vs H Q _ => ∃ (x : Addr) (so : Str) (w n : Int) (t : Str), vs = [.ref x, .str (nbase w t), .int n] ∧ NmAt C H x so w ∧ 0 ≤ n ∧ n < 10 ∧ t.length ≤ 1000 ∧ Q (.str (numbered so w t n)) H
theorem cal_numP (B : Bi mg) (S : NmC K mg C) (D : At K mg "numbered" s_numbered ps_numbered) : Cal P w K mg base 1 "numbered" ps_numbered (spNumP C) := by
  refine D.cal sc_numbered (fun vs H Q E h => ?_) (fun f cdv A outer s H vs Q E hr h => ?_)
  · obtain ⟨x, so, w, n, t, rfl, _⟩ := h
    rfl
  · obtain ⟨x, so, w, n, t, rfl, ⟨dx, e1⟩, n0, n1, tl, k⟩ := h
    have el := ending_len n0 n1
    have bl : (nbase w t).length ≤ t.length := cutS_length t none (some w)
    have s1 : (Str.empty ++ (("~" : String) : Str)).length = 1 := by decide +kernel
    refine ⟨_, (pss_cons (ps_set (i := 3) sc_numbered.nd rfl (.inl rfl) (pe_joined (.cons pe_str (.cons (pe_fmt (pv 2)) .nil))))
      (pss_cons (ps_if (pt_cmpR op_eq (pe_fld (pv 0) rfl) pe_str (nomark _)) (pss_one (ps_ret (pe_op op_add_str (pe_slice sl_str (pv 1) po_none (po_some (pe_op op_sub (pe_fld (pv 0) rfl) (pe_callB call_len (by rfl) B.len (by decide +kernel) (pa_cons (pv 3) pa_nil))))) (pv 3)))) pss_nil)
      (pss_one (ps_ret (pe_op op_add_str (pv 1) (pv 3)))))), ?_⟩
    refine ⟨_, rfl, by rw [s1]; decide, _, rfl, .inr ⟨n, rfl, log_small n0 (by omega), _, rfl, ?_, ?_⟩⟩
    · rw [ending_is]
      exact Nat.le_of_lt (small1000 (by omega))
    rw [ending_is]
    refine ⟨_, rfl, x, C, dx, _, _, rfl, e1, S.cl, S.nR, nflds_rule _ _, rfl, _, rfl, ite2 (fun h1 => ?_) (fun h1 => ?_)⟩
    · rw [str_eq_iff] at h1
      rw [numbered_tight (of_decide_eq_true h1)] at k
      refine ⟨_, rfl, _, rfl, x, C, dx, _, _, rfl, e1, S.cl, S.nW, nflds_width _ _, _, rfl, _, _, rfl, ⟨Nat.le_of_lt (small1000 (by omega)), rfl⟩, _, _, rfl, rfl, _, rfl, _, rfl, Nat.le_of_lt (small1000 (by omega)), _, rfl, _, _, rfl, rfl, ?_, k⟩
      have a := cutS_length (nbase w t) none (some (w - ((ending n).length : Int)))
      exact Nat.le_of_lt (Nat.lt_of_le_of_lt (show _ ≤ 2000 by omega) (by decide))
    · rw [str_eq_iff] at h1
      rw [numbered_other (of_decide_eq_false (Bool.eq_false_iff.mpr h1))] at k
      refine ⟨_, rfl, _, rfl, _, _, rfl, rfl, ?_, k⟩
      exact Nat.le_of_lt (Nat.lt_of_le_of_lt (show _ ≤ 2000 by omega) (by decide))
/-- how many of us have the base of t -/
def alike (w : Int) (t : Str) (us : List Str) : List Str := us.filter fun u => decide (nbase w u = nbase w t)
def countedOf (so : Str) (w : Int) (t : Str) (us : List Str) : Str := if (alike w t us).length = 0 then nbase w t else numbered so w t (((alike w t us).length : Int) + 1)
def spCounted (K : PySem.W.Frag) (C : Addr) : Sp := fun vs H Q _ => ∃ (x l : Addr) (so : Str) (w : Int) (t : Str) (us : List Str), vs = [.ref x, .str (nbase w t), .ref l] ∧ NmAt C H x so w ∧ t.length ≤ 1000 ∧ SqT K H l (us.map V.str) ∧ us.length ≤ 6 ∧ (∀ u ∈ us, Wd 200 u) ∧ ∀ G, Same H G → Q (.str (countedOf so w t us)) G
theorem cal_counted (B : Bi mg) (S : NmC K mg C) (D : At K mg "counted_name" s_counted_name ps_counted_name) (C_base_of : Cal P w K mg base 1 "base_of" ps_base_of (spBaseOf C)) (C_numbered : Cal P w K mg base 1 "numbered" ps_numbered (spNumP C)) : Cal P w K mg base 2 "counted_name" ps_counted_name (spCounted K C) := by
  refine D.cal sc_counted_name (fun vs H Q E h => ?_) (fun f cdv A outer s H vs Q E hr h => ?_)
  · obtain ⟨x, l, so, w, t, us, rfl, _⟩ := h
    rfl
  · obtain ⟨x, l, so, w, t, us, rfl, hN, tl, hl, u6, wu, k⟩ := h
    refine ⟨_, (pss_cons (ps_set (i := 3) sc_counted_name.nd rfl (.inl rfl) (pe_op op_add pe_int (pe_callB call_len (by rfl) B.len (by decide +kernel) (pa_cons (pe_lc (own := [("text", 4)]) (by rfl) sc_counted_name.nd (pi_tup (pv 2)) (blkOk_by (own := [("text", 4)]) (N := ["namer", "base", "texts", "number", "text"]) (sc := defScope s_counted_name) (by decide +kernel)) (fun _ _ _ _ _ => pg_name (i := 4) sc_counted_name.nd rfl (.inl rfl)) (fun _ _ _ _ _ => (pts_one (pt_cmpR op_eq (pe_own C_base_of hr (by decide) (by rfl) (pa_cons (pv 0) (pa_cons (pv 4) pa_nil))) (pv 1) (nomark _)))) (fun _ _ _ _ _ => (pv 4))) pa_nil))))
      (pss_one (ps_ret (pe_mid (pe_ifExp (pt_cmpR op_eq (pv 3) pe_int (nomark _)) (pv 1) (pe_own C_numbered hr (by decide) (by rfl) (pa_cons (pv 0) (pa_cons (pv 1) (pa_cons (pv 3) pa_nil))))))))), ?_⟩
    refine ⟨_, rfl, l, rfl, ⟨_, hl⟩, fun M nM => lc_tup (K := K) (a := l) (xs := us.map V.str) (fun i J => J M = some (.lst ((alike w t (us.take i)).map V.str)) ∧ Same H J)
      ⟨upd_same, same_new nM⟩ (fun i J _ ⟨_, sJ⟩ => st_same sJ hl) ?_ ?_⟩
    · rintro i v J hi ⟨eM, sJ⟩
      obtain ⟨u, hu, rfl, mu⟩ := atP_strs hi
      have ul : u.length ≤ 200 := (wu u mu).len
      refine ⟨rfl, _, rfl, _, rfl, x, so, w, u, rfl, hN.same sJ, by omega, _, rfl, rfl, _, rfl, ?_⟩
      rw [str_eq_iff]
      refine ite2 (fun hb => ?_) (fun hb => ?_)
      · refine ⟨_, rfl, _, eM, small1000 ?_, ?_, same_off sJ nM⟩
        · rw [List.length_map]
          refine Nat.le_trans (List.length_filter_le ..) ?_
          rw [List.length_take]
          omega
        · unfold alike
          rw [upd_same, take_next hu, List.filter_append, List.map_append, List.filter_cons, hb]
          rfl
      · refine ⟨?_, sJ⟩
        unfold alike at eM ⊢
        rw [eM, take_next hu, List.filter_append, List.filter_cons, Bool.eq_false_iff.mpr hb]
        simp only [Bool.false_eq_true, if_false, List.filter_nil, List.append_nil]
    · rintro J ⟨eM, sJ⟩
      rw [List.length_map, List.take_length] at eM
      have a6 : (alike w t us).length ≤ us.length := List.length_filter_le ..
      refine ⟨_, _, rfl, .inl ⟨_, .inl (.inl eM), rfl⟩, _, _, rfl, rfl, ?_⟩
      rw [List.length_map]
      refine ⟨fun v J1 => v = .str (countedOf so w t us) ∧ Same H J1, ?_, ?_⟩
      · refine ⟨_, rfl, rfl, _, rfl, ite2 (fun h1 => ?_) (fun h1 => ?_)⟩
        · have h1 : (alike w t us).length = 0 := by
            have := V.int.inj (of_decide_eq_true h1)
            omega
          refine ⟨_, rfl, ?_, sJ⟩
          unfold countedOf
          rw [if_pos h1]
        · have h1 : ¬ (alike w t us).length = 0 := fun h => h1 (decide_eq_true (by rw [h]; rfl))
          refine ⟨_, rfl, _, rfl, _, rfl, x, so, w, _, t, rfl, hN.same sJ, by omega, by omega, tl, ?_, sJ⟩
          unfold countedOf
          rw [if_neg h1, Int.add_comm]
      · rintro _ J1 ⟨rfl, s1⟩
        exact k J1 s1
/-- the names that are triedP -/
def triedP (so : Str) (w : Int) (t : Str) : Nat → Str
  | 0 => nbase w t
  | i + 1 => cand so w t i
def freeP (so : Str) (w : Int) (t : Str) (ys : List Str) : Str := if nbase w t ∈ ys then seek (cand so w t) ys ys.length 0 else nbase w t
theorem triedP_free {so : Str} {w : Int} {t : Str} {ys : List Str} (l : ys.length ≤ 6) {i : Nat} (a : ∀ j, j < i → triedP so w t j ∈ ys) : i ≤ ys.length + 1 := by
  refine Decidable.byContradiction fun h => some_free (so := so) (w := w) (t := t) l fun j hj => ?_
  exact a (j + 1) (by omega)
theorem triedP_is {so : Str} {w : Int} {t : Str} {ys : List Str} (l : ys.length ≤ 6) {i : Nat} (a : ∀ j, j < i → triedP so w t j ∈ ys) (b : triedP so w t i ∉ ys) : freeP so w t ys = triedP so w t i := by
  have h := triedP_free l a
  unfold freeP
  cases i with
  | zero => rw [if_neg (show nbase w t ∉ ys from b)]; rfl
  | succ i =>
    rw [if_pos (show nbase w t ∈ ys from a 0 (by omega))]
    have e := seek_at (f := cand so w t) (ys := ys) i ys.length 0 (by omega) (fun j hj => by
      rw [Nat.zero_add]
      exact a (j + 1) (by omega)) (by
      rw [Nat.zero_add]
      exact b)
    rw [Nat.zero_add] at e
    exact e
def spFree (K : PySem.W.Frag) (C : Addr) : Sp := fun vs H Q _ => ∃ (x l : Addr) (so : Str) (w : Int) (t : Str) (ys : List Str), vs = [.ref x, .str (nbase w t), .ref l] ∧ NmAt C H x so w ∧ t.length ≤ 1000 ∧ SqL K H l (ys.map V.str) ∧ ys.length ≤ 6 ∧ Q (.str (freeP so w t ys)) H
theorem cal_free (B : Bi mg) (D : At K mg "free_name" s_free_name ps_free_name) (C_numbered : Cal P w K mg base 1 "numbered" ps_numbered (spNumP C)) : Cal P w K mg base 2 "free_name" ps_free_name (spFree K C) := by
  refine D.cal sc_free_name (fun vs H Q E h => ?_) (fun f cdv A outer s H vs Q E hr h => ?_)
  · obtain ⟨x, l, so, w, t, ys, rfl, _⟩ := h
    rfl
  · obtain ⟨x, l, so, w, t, ys, rfl, hN, tl, hl, y6, k⟩ := h
    refine ⟨_, (pss_cons (ps_set (i := 3) sc_free_name.nd rfl (.inl rfl) (pv 1))
      (pss_cons (ps_set (i := 4) sc_free_name.nd rfl (.inl rfl) pe_int)
      (pss_cons (ps_while PassesOwn.never (pt_cmpR op_in_seq (pv 3) (pv 2) (by rfl))
      (pss_cons (ps_aug (i := 4) sc_free_name.nd rfl (.inl rfl) pe_int ip_add)
      (pss_one (ps_set (i := 3) sc_free_name.nd rfl (.inl rfl) (pe_own C_numbered hr (by decide) (by rfl) (pa_cons (pv 0) (pa_cons (pv 1) (pa_cons (pv 4) pa_nil))))))))
      (pss_one (ps_ret (pv 3)))))), ?_⟩
    refine ⟨_, rfl, ?_⟩
    refine ⟨fun m σ J => ∃ i : Nat, m = 9 - i ∧ σ = [some (.ref x), some (.str (nbase w t)), some (.ref l), some (.str (triedP so w t i)), some (.int (1 + (i : Int)))] ∧ J = H ∧ ∀ j, j < i → triedP so w t j ∈ ys, ⟨9, 0, rfl, rfl, rfl, fun j hj => absurd hj (by omega)⟩, ?_⟩
    rintro m σ J ⟨i, rfl, rfl, rfl, hj⟩
    have hi := triedP_free y6 hj
    refine ⟨_, rfl, _, rfl, l, _, rfl, .inl hl, rfl, flat_strs ys, _, rfl, ?_⟩
    rw [in_strs]
    refine ite2 (fun h1 => ?_) (fun h1 => ?_)
    · have h1 : triedP so w t i ∈ ys := of_decide_eq_true h1
      have hj2 : ∀ j, j < i + 1 → triedP so w t j ∈ ys := fun j hj3 => by
        rcases Nat.lt_or_ge j i with h | h
        · exact hj j h
        · rw [show j = i by omega]
          exact h1
      have hi2 := triedP_free y6 hj2
      refine ⟨_, fun σ' H' h => h, _, rfl, _, _, rfl, rfl, ?_⟩
      refine ⟨_, rfl, _, rfl, _, rfl, x, so, w, _, t, rfl, hN, by show (0 : Int) ≤ 1 + (i : Int) + 1; omega, by show 1 + (i : Int) + 1 < 10; omega, tl, ?_⟩
      refine ⟨9 - (i + 1), by omega, i + 1, rfl, ?_, rfl, hj2⟩
      have e : (1 + (i : Int) + 1) = 2 + (i : Int) := by omega
      have e2 : (1 + ((i + 1 : Nat) : Int)) = 2 + (i : Int) := by omega
      rw [e2]
      show [_, _, _, some (V.str (numbered so w t (1 + (i : Int) + 1))), some (V.int (1 + (i : Int) + 1))] = _
      rw [e]
      rfl
    · have h1 : triedP so w t i ∉ ys := fun h => h1 (decide_eq_true h)
      rw [triedP_is y6 hj h1] at k
      exact ⟨_, rfl, k⟩
/-- a name by what is there -/
def nextOf (so : Str) (w : Int) (t : Str) (us ys : List Str) : Str := if so = ("count" : String) then countedOf so w t us else freeP so w t ys
def spNext (K : PySem.W.Frag) (C : Addr) : Sp := fun vs H Q _ => ∃ (x a l : Addr) (so : Str) (w : Int) (t : Str) (us ys : List Str), vs = [.ref x, .str t, .ref a, .ref l] ∧ NmAt C H x so w ∧ t.length ≤ 1000 ∧ SqT K H a (us.map V.str) ∧ us.length ≤ 6 ∧ (∀ u ∈ us, Wd 200 u) ∧ SqL K H l (ys.map V.str) ∧ ys.length ≤ 6 ∧ ∀ G, Same H G → Q (.str (nextOf so w t us ys)) G
theorem cal_next (B : Bi mg) (S : NmC K mg C) (D : At K mg "name_of_next" s_name_of_next ps_name_of_next) (C_base_of : Cal P w K mg base 1 "base_of" ps_base_of (spBaseOf C)) (C_counted_name : Cal P w K mg base 2 "counted_name" ps_counted_name (spCounted K C)) (C_free_name : Cal P w K mg base 2 "free_name" ps_free_name (spFree K C)) : Cal P w K mg base 3 "name_of_next" ps_name_of_next (spNext K C) := by
  refine D.cal sc_name_of_next (fun vs H Q E h => ?_) (fun f cdv A outer s H vs Q E hr h => ?_)
  · obtain ⟨x, a, l, so, w, t, us, ys, rfl, _⟩ := h
    rfl
  · obtain ⟨x, a, l, so, w, t, us, ys, rfl, hN, tl, ha, u6, wu, hl, y6, k⟩ := h
    obtain ⟨dx, e1⟩ := id hN
    refine ⟨_, (pss_cons (ps_set (i := 4) sc_name_of_next.nd rfl (.inl rfl) (pe_own C_base_of hr (by decide) (by rfl) (pa_cons (pv 0) (pa_cons (pv 1) pa_nil))))
      (pss_cons (ps_if (pt_cmpR op_eq (pe_fld (pv 0) rfl) pe_str (nomark _)) (pss_one (ps_ret (pe_own C_counted_name hr (by decide) (by rfl) (pa_cons (pv 0) (pa_cons (pv 4) (pa_cons (pv 2) pa_nil)))))) pss_nil)
      (pss_one (ps_ret (pe_own C_free_name hr (by decide) (by rfl) (pa_cons (pv 0) (pa_cons (pv 4) (pa_cons (pv 3) pa_nil)))))))), ?_⟩
    refine ⟨_, rfl, _, rfl, x, so, w, t, rfl, hN, tl, ?_⟩
    refine ⟨_, rfl, x, C, dx, _, _, rfl, e1, S.cl, S.nR, nflds_rule _ _, rfl, _, rfl, ite2 (fun h1 => ?_) (fun h1 => ?_)⟩
    · rw [str_eq_iff] at h1
      unfold nextOf at k
      rw [if_pos (of_decide_eq_true h1)] at k
      exact ⟨_, rfl, _, rfl, _, rfl, x, a, so, w, t, us, rfl, hN, tl, ha, u6, wu, k⟩
    · rw [str_eq_iff] at h1
      unfold nextOf at k
      rw [if_neg (of_decide_eq_false (Bool.eq_false_iff.mpr h1))] at k
      exact ⟨_, rfl, _, rfl, _, rfl, x, l, so, w, t, ys, rfl, hN, tl, hl, y6, k H (Same.refl H)⟩
theorem pairsOf_fst (so : Str) (w : Int) : ∀ (n : Nat) (ts : List Str), ts.length = n → (pairsOf so w ts).map (·.1) = ts
  | 0, ts, h => by
    cases ts with
    | nil => rfl
    | cons t ts => cases h
  | n + 1, ts, h => by
    rcases List.eq_nil_or_concat ts with rfl | ⟨us, t, rfl⟩
    · rfl
    · rw [List.concat_eq_append] at h ⊢
      rw [List.length_append] at h
      rw [pairsOf_snoc, List.map_append, pairsOf_fst so w n us (by simp only [List.length_singleton] at h; omega)]
      rfl
theorem nextOf_pairs (so : Str) (w : Int) (t : Str) (us : List Str) : nextOf so w t us (namesOf so w us) = nameOf so w t (pairsOf so w us) := by
  have e : (alike w t us).length = (mates w t (pairsOf so w us)).length := by
    unfold mates alike
    rw [← List.length_map (f := fun q : Str × Str => q.1), ← List.countP_eq_length_filter, List.length_map, ← List.countP_eq_length_filter]
    conv => lhs; rw [← pairsOf_fst so w us.length us rfl]
    rw [List.countP_map]
    rfl
  unfold nextOf nameOf countedOf freeP namesOf
  rw [e]
theorem namesOf_snoc (so : Str) (w : Int) (ts : List Str) (t : Str) : namesOf so w (ts ++ [t]) = namesOf so w ts ++ [nextOf so w t ts (namesOf so w ts)] := by
  rw [nextOf_pairs]
  unfold namesOf
  rw [pairsOf_snoc, List.map_append]
  rfl
theorem slTP_ok {H : Hp} {a : Addr} {xs : List V} {Q : VK} {lo hi : Option Int} (ha : SqT K H a xs) (q : ∀ U G, Same H G → SqT K G U (cutV xs lo hi) → Q (.ref U) G) : rSlA K (.ref a) lo hi H Q := by
  refine ⟨a, xs, rfl, ha, fun ⟨e1, e2⟩ => q a H (Same.refl H) ?_, fun _ p np => q p _ (same_new np) (.inl (.inl upd_same))⟩
  unfold cutV
  rw [e1, e2, List.drop_zero, Nat.sub_zero, List.take_length]
  exact ha
theorem cutV_headP (xs : List V) (i : Nat) : cutV xs none (some (i : Int)) = xs.take i := by
  unfold cutV
  rw [HT.sIx_none, HT.sIx_nat, List.drop_zero, Nat.sub_zero, List.take_eq_take_iff]
  omega
theorem cal_named (B : Bi mg) (D : At K mg "named" s_named ps_named) (C_name_of_next : Cal P w K mg base 3 "name_of_next" ps_name_of_next (spNext K C)) : Cal P w K mg base 4 "named" ps_named (spNamesP K (NmAt C)) := by
  refine D.cal sc_named (fun vs H Q E h => ?_) (fun f cdv A outer s H vs Q E hr h => ?_)
  · obtain ⟨x, l, so, w, ts, rfl, _⟩ := h
    rfl
  · obtain ⟨x, l, so, w, ts, rfl, hN, hso, w0, w1, hl, t6, wt, k⟩ := h
    refine ⟨_, (pss_cons (ps_set (i := 2) sc_named.nd rfl (.inl rfl) (pe_lst pa_nil))
      (pss_cons (ps_for PassesOwn.never rfl (pi_enT (by rfl) B.enumerate (pa_cons (pv 1) pa_nil)) (pg_tup rfl (pgs_cons (pg_name (i := 3) sc_named.nd rfl (.inl rfl)) (pgs_cons (pg_name (i := 4) sc_named.nd rfl (.inl rfl)) pgs_nil)))
      (pss_one (ps_expr (pe_bm PySem.F.plainAttrs_list PySem.F.slot_list_append PySem.F.type_list_append mt_append (pv 2) (pa_cons (pe_own C_name_of_next hr (by decide) (by rfl) (pa_cons (pv 0) (pa_cons (pv 4) (pa_cons (pe_slice sl_tupA (pv 1) po_none (po_some (pv 3))) (pa_cons (pv 2) pa_nil))))) pa_nil)))))
      (pss_one (ps_ret (pe_callTy call_tuple_of (by rfl) B.tuple (by decide +kernel) (pa_cons (pv 2) pa_nil)))))), ?_⟩
    refine ⟨Nat.zero_le _, fun g ng => ?_⟩
    have s0 : Same H (upd H g (.lst [])) := same_new ng
    refine ⟨_, rfl, l, _, rfl, st_same s0 hl, for_it walk_enT (fun i σ J => ∃ u v, σ = [some (.ref x), some (.ref l), some (.ref g), u, v] ∧ Same H J ∧ J g = some (.lst ((namesOf so w (ts.take i)).map V.str)))
      ⟨none, none, rfl, s0, upd_same⟩ (fun i σ J _ ⟨_, _, _, sJ, _⟩ => st_same sJ hl) ?_ ?_⟩
    · rintro i v σ J J1 hi ⟨u, v2, rfl, sJ, eg⟩ ⟨T, z, hx, rfl, nT, rfl⟩
      obtain ⟨t, ht, rfl, mt⟩ := atP_strs hx
      have il : i < ts.length := (List.getElem?_eq_some_iff.mp ht).1
      have sT : Same J (upd J T (.tup [.int (i : Nat), .str t])) := same_new nT
      have tl : t.length ≤ 200 := (wt t mt).len
      refine ⟨T, _, rfl, .inl (.inl upd_same), rfl, _, _, rfl, _, _, rfl, rfl, ?_⟩
      have nl : (namesOf so w (ts.take i)).length = i := by
        rw [names_len, List.length_take]
        omega
      refine ⟨_, rfl, .inl ⟨rfl, _, .inl (.inl (sT _ _ eg))⟩, ?_⟩
      refine ⟨_, rfl, _, rfl, _, rfl, _, rfl, _, rfl, slTP_ok (st_same (sJ.trans sT) hl) fun U G sU eU => ?_⟩
      rw [cutV_headP, ← List.map_take] at eU
      refine ⟨_, rfl, x, U, g, so, w, t, ts.take i, namesOf so w (ts.take i), rfl, hN.same (sJ.trans (sT.trans sU)), by omega, eU, ?_, fun y hy => wt y (List.mem_of_mem_take hy), .inl (.inl (sU _ _ (sT _ _ eg))), by omega, fun G2 s2 => ?_⟩
      · rw [List.length_take]
        omega
      · have sA : Same H G2 := sJ.trans (sT.trans (sU.trans s2))
        refine ⟨g, _, _, rfl, rfl, s2 _ _ (sU _ _ (sT _ _ eg)), ?_, ?_⟩
        · rw [List.length_map]
          exact small1000 (by omega)
        · refine ⟨_, _, rfl, same_off sA ng, ?_⟩
          rw [upd_same, take_next ht, namesOf_snoc, List.map_append]
          rfl
    · rintro σ J ⟨u, v, rfl, sJ, eg⟩
      rw [List.length_map, List.take_length] at eg
      exact ⟨_, rfl, g, _, rfl, .inl ⟨.inl (.inl eg), fun p np => k p _ (.inl (.inl upd_same)) (sJ.trans (same_new np))⟩⟩
theorem cal_namesP (B : Bi mg) (D : At K mg "names" s_names ps_names) (C_check_namer : Cal P w K mg base 1 "check_namer" ps_check_namer (spCheckNamer C)) (C_check_texts : Cal P w K mg base 2 "check_texts" ps_check_texts (spCheckTexts K)) (C_named : Cal P w K mg base 4 "named" ps_named (spNamesP K (NmAt C))) : Cal P w K mg base 5 "names" ps_names (spNamesP K (NmAt C)) := by
  refine D.cal sc_names (fun vs H Q E h => ?_) (fun f cdv A outer s H vs Q E hr h => ?_)
  · obtain ⟨x, l, so, w, ts, rfl, _⟩ := h
    rfl
  · obtain ⟨x, l, so, w, ts, rfl, hN, hso, w0, w1, hl, t6, wt, k⟩ := h
    refine ⟨_, (pss_cons (ps_expr (pe_own C_check_namer hr (by decide) (by rfl) (pa_cons (pv 0) pa_nil)))
      (pss_cons (ps_expr (pe_own C_check_texts hr (by decide) (by rfl) (pa_cons (pv 1) (pa_cons (pe_cst B.MOST_LISTED (by rfl)) pa_nil))))
      (pss_one (ps_ret (pe_own C_named hr (by decide) (by rfl) (pa_cons (pv 0) (pa_cons (pv 1) pa_nil))))))), ?_⟩
    refine ⟨_, rfl, x, so, w, rfl, hN, ?_⟩
    refine ⟨_, rfl, l, ts, _, rfl, hl, by omega, wt, fun G sG => ?_⟩
    exact ⟨_, rfl, _, rfl, x, l, so, w, ts, rfl, hN.same sG, hso, w0, w1, st_same sG hl, t6, wt, fun p G2 e2 s2 => k p G2 e2 (sG.trans s2)⟩
end
end Gu
namespace Gu
open PySem PySem.Spec PyProof.Rows L2
theorem at_mk {K : PySem.W.Frag} {h : Heap} {mg : Str → Option Value} {x : Str} {st : Stmt} {ps : List Str} {f : Addr} {oc : Value} {od an : Option Addr} {sl : Array (Option Value)} {kV dc pm cd ct : Value} (X : K.In h) (G : h.Ns mainGlobals mg)
    (hb : ∀ (kV doc pm : Value) (an : Option Addr) (cdv ct : Value) (us : List Value), us.length = ps.length → bindArgs (PySem.W.fnOf x x (defArgs st) (defBody st) (defScope st) .none kV doc pm an cdv ct) ⟨us, []⟩ = pure (ps.zip us))
    (a : PySem.W.nsIn K mainGlobals x = some (some (.ref f))) (l : K.lookup f = some ⟨oc, od, .func (PySem.W.fnOf x x (defArgs st) (defBody st) (defScope st) .none kV dc pm an cd ct), sl⟩) (c : PySem.W.codeIn K cd x = true) (k : PySem.W.keepIn K (.ref f) = true) : At K mg x st ps :=
  ⟨f, _, fun_mk l c k, (fun_mk l c k).binds hb, PySem.W.mg_of X G a⟩
theorem cst_mk {K : PySem.W.Frag} {h : Heap} {mg : Str → Option Value} {x : Str} {v : V} {u : Value} (X : K.In h) (G : h.Ns mainGlobals mg) (r : RelV v u) (a : PySem.W.nsIn K mainGlobals x = some (some u)) : ∃ u, mg x = some u ∧ RelV v u := ⟨u, PySem.W.mg_of X G a, r⟩
end Gu
namespace Gu
open PySem PySem.Spec PyProof.Rows L2
theorem fin {P : Program} {w : World} {K : PySem.W.Frag} {mg : Str → Option Value} {base : Heap} {C f : Addr} {fd : FuncData} (B : Bi mg) (S : NmC K mg C) (I : NInitAt K C)
    (A_is_integer : At K mg "is_integer" s_is_integer ps_is_integer) (A_is_tuple : At K mg "is_tuple" s_is_tuple ps_is_tuple) (A_is_text : At K mg "is_text" s_is_text ps_is_text) (A_check_texts : At K mg "check_texts" s_check_texts ps_check_texts) (A_check_namer : At K mg "check_namer" s_check_namer ps_check_namer) (A_base_of : At K mg "base_of" s_base_of ps_base_of) (A_numbered : At K mg "numbered" s_numbered ps_numbered) (A_counted_name : At K mg "counted_name" s_counted_name ps_counted_name) (A_free_name : At K mg "free_name" s_free_name ps_free_name) (A_name_of_next : At K mg "name_of_next" s_name_of_next ps_name_of_next) (A_named : At K mg "named" s_named ps_named) (A_names : At K mg "names" s_names ps_names) (A_law_source : At K mg "_law_source" s_law_source ps_law_source) (A_law_draw : At K mg "_law_draw" s_law_draw ps_law_draw) (A_law_one : At K mg "_law_one" s_law_one ps_law_one) (A_law_stem : At K mg "_law_stem" s_law_stem ps_law_stem) (A_law_word : At K mg "_law_word" s_law_word ps_law_word)
    (A_law_made : At K mg "_law_made" s_law_made ps_law_made) (A_law_is_free : At K mg "_law_is_free" s_law_is_free ps_law_is_free) (A_law_right : At K mg "_law_right" s_law_right ps_law_right)
    (F : Fun K "law" "law" s_law f fd) : FnG P w K mg base 8 f fd ps_law (spLaw K) := by
  have c1 : Cal P w K mg base 1 "_law_draw" ps_law_draw spLadle := cal_draw B A_law_draw
  have c2 : Cal P w K mg base 2 "_law_one" ps_law_one (spOneOf K) := cal_one B A_law_one c1
  have c3 : Cal P w K mg base 2 "_law_stem" ps_law_stem spStem := cal_stem B A_law_stem c1
  have c4 : Cal P w K mg base 3 "_law_word" ps_law_word (spWord K) := cal_word B A_law_word c1 c2 c3
  have c5 : Cal P w K mg base 1 "_law_made" ps_law_made spMade44 := cal_made44 B A_law_made
  have c7 : Cal P w K mg base 2 "_law_is_free" ps_law_is_free (spIsFree K) := cal_isFree B A_law_is_free c5
  have c8 : Cal P w K mg base 1 "is_integer" ps_is_integer (spIsInteger K) := cal_isInteger B A_is_integer
  have m1 : Mak P w K mg base 2 "Namer" C (spNInit C (NmAt C)) := mak_nm B S I c8
  have p1 : Cal P w K mg base 1 "is_tuple" ps_is_tuple (spIsTuple K) := cal_isTuple B A_is_tuple
  have p2 : Cal P w K mg base 1 "is_text" ps_is_text (spIsText K) := cal_isText B A_is_text
  have p3 : Cal P w K mg base 2 "check_texts" ps_check_texts (spCheckTexts K) := cal_checkTexts B A_check_texts p1 p2
  have p4 : Cal P w K mg base 1 "check_namer" ps_check_namer (spCheckNamer C) := cal_checkNamer B S A_check_namer
  have p5 : Cal P w K mg base 1 "base_of" ps_base_of (spBaseOf C) := cal_baseOf B S A_base_of
  have p6 : Cal P w K mg base 1 "numbered" ps_numbered (spNumP C) := cal_numP B S A_numbered
  have p7 : Cal P w K mg base 2 "counted_name" ps_counted_name (spCounted K C) := cal_counted B S A_counted_name p5 p6
  have p8 : Cal P w K mg base 2 "free_name" ps_free_name (spFree K C) := cal_free B A_free_name p6
  have p9 : Cal P w K mg base 3 "name_of_next" ps_name_of_next (spNext K C) := cal_next B S A_name_of_next p5 p7 p8
  have p10 : Cal P w K mg base 4 "named" ps_named (spNamesP K (NmAt C)) := cal_named B A_named p9
  have d1 : Cal P w K mg base 5 "names" ps_names (spNamesP K (NmAt C)) := cal_namesP B A_names p4 p3 p10
  have d3 : Cal P w K mg base 1 "_law_source" ps_law_source (spPot K) := cal_source B A_law_source
  have d4 : CalG P w K mg base 7 "_law_right" ps_law_right spRight := cal_right B A_law_right (fun s h => h.same s) c1 c2 c3 c4 c7 m1 d1
  exact cal_law B F d3 d4
end Gu
namespace Gu
open PySem PySem.Spec PyProof.Rows L2
theorem all_mk {l : PySem.W.OpenLaw} {w : World} {K : PySem.W.Frag} {h : Heap} {mg : Str → Option Value} {fa : Addr} {f_is_integer : Addr} {oc_is_integer kV_is_integer dc_is_integer pm_is_integer cd_is_integer ct_is_integer : Value} {od_is_integer an_is_integer : Option Addr} {sl_is_integer : Array (Option Value)} {f_is_tuple : Addr} {oc_is_tuple kV_is_tuple dc_is_tuple pm_is_tuple cd_is_tuple ct_is_tuple : Value} {od_is_tuple an_is_tuple : Option Addr} {sl_is_tuple : Array (Option Value)} {f_is_text : Addr} {oc_is_text kV_is_text dc_is_text pm_is_text cd_is_text ct_is_text : Value} {od_is_text an_is_text : Option Addr} {sl_is_text : Array (Option Value)} {f_check_texts : Addr} {oc_check_texts kV_check_texts dc_check_texts pm_check_texts cd_check_texts ct_check_texts : Value} {od_check_texts an_check_texts : Option Addr} {sl_check_texts : Array (Option Value)} {f_check_namer : Addr} {oc_check_namer kV_check_namer dc_check_namer pm_check_namer cd_check_namer ct_check_namer : Value} {od_check_namer an_check_namer : Option Addr} {sl_check_namer : Array (Option Value)} {f_base_of : Addr} {oc_base_of kV_base_of dc_base_of pm_base_of cd_base_of ct_base_of : Value} {od_base_of an_base_of : Option Addr} {sl_base_of : Array (Option Value)} {f_numbered : Addr} {oc_numbered kV_numbered dc_numbered pm_numbered cd_numbered ct_numbered : Value} {od_numbered an_numbered : Option Addr} {sl_numbered : Array (Option Value)} {f_counted_name : Addr} {oc_counted_name kV_counted_name dc_counted_name pm_counted_name cd_counted_name ct_counted_name : Value} {od_counted_name an_counted_name : Option Addr} {sl_counted_name : Array (Option Value)} {f_free_name : Addr} {oc_free_name kV_free_name dc_free_name pm_free_name cd_free_name ct_free_name : Value} {od_free_name an_free_name : Option Addr} {sl_free_name : Array (Option Value)} {f_name_of_next : Addr} {oc_name_of_next kV_name_of_next dc_name_of_next pm_name_of_next cd_name_of_next ct_name_of_next : Value} {od_name_of_next an_name_of_next : Option Addr} {sl_name_of_next : Array (Option Value)} {f_named : Addr} {oc_named kV_named dc_named pm_named cd_named ct_named : Value} {od_named an_named : Option Addr} {sl_named : Array (Option Value)} {f_names : Addr} {oc_names kV_names dc_names pm_names cd_names ct_names : Value} {od_names an_names : Option Addr} {sl_names : Array (Option Value)} {f_law_source : Addr} {oc_law_source kV_law_source dc_law_source pm_law_source cd_law_source ct_law_source : Value} {od_law_source an_law_source : Option Addr} {sl_law_source : Array (Option Value)} {f_law_draw : Addr} {oc_law_draw kV_law_draw dc_law_draw pm_law_draw cd_law_draw ct_law_draw : Value} {od_law_draw an_law_draw : Option Addr} {sl_law_draw : Array (Option Value)} {f_law_one : Addr} {oc_law_one kV_law_one dc_law_one pm_law_one cd_law_one ct_law_one : Value} {od_law_one an_law_one : Option Addr} {sl_law_one : Array (Option Value)} {f_law_stem : Addr} {oc_law_stem kV_law_stem dc_law_stem pm_law_stem cd_law_stem ct_law_stem : Value} {od_law_stem an_law_stem : Option Addr} {sl_law_stem : Array (Option Value)} {f_law_word : Addr} {oc_law_word kV_law_word dc_law_word pm_law_word cd_law_word ct_law_word : Value} {od_law_word an_law_word : Option Addr} {sl_law_word : Array (Option Value)} {f_law_made : Addr} {oc_law_made kV_law_made dc_law_made pm_law_made cd_law_made ct_law_made : Value} {od_law_made an_law_made : Option Addr} {sl_law_made : Array (Option Value)} {f_law_is_free : Addr} {oc_law_is_free kV_law_is_free dc_law_is_free pm_law_is_free cd_law_is_free ct_law_is_free : Value} {od_law_is_free an_law_is_free : Option Addr} {sl_law_is_free : Array (Option Value)} {f_law_right : Addr} {oc_law_right kV_law_right dc_law_right pm_law_right cd_law_right ct_law_right : Value} {od_law_right an_law_right : Option Addr} {sl_law_right : Array (Option Value)} {f_law : Addr} {oc_law kV_law dc_law pm_law cd_law ct_law : Value} {od_law an_law : Option Addr} {sl_law : Array (Option Value)} {C : Addr} {f_i : Addr} {oc_i kV_i dc_i pm_i cd_i ct_i : Value} {od_i an_i : Option Addr} {sl_i : Array (Option Value)} {u_MOST_SIGNS : Tok} {u_MOST_TEXT : Tok} {u_MOST_LISTED : Tok} {u_SIGNS : Tok} {T_RULES : Addr} {td_RULES : Option Addr} {ts_RULES : Array (Option Value)} {tn_RULES : Nat} {e_RULES_0 e_RULES_1 e_RULES_2 : Tok} {u_LEAST_WIDTH : Tok}
    (X : K.In h) (G : h.Ns mainGlobals mg) (hfa : mg "law" = some (.ref fa))
    (a_is_integer : PySem.W.nsIn K mainGlobals "is_integer" = some (some (.ref f_is_integer)))
    (l_is_integer : K.lookup f_is_integer = some ⟨oc_is_integer, od_is_integer, .func (PySem.W.fnOf "is_integer" "is_integer" (defArgs s_is_integer) (defBody s_is_integer) (defScope s_is_integer) .none kV_is_integer dc_is_integer pm_is_integer an_is_integer cd_is_integer ct_is_integer), sl_is_integer⟩)
    (c_is_integer : PySem.W.codeIn K cd_is_integer "is_integer" = true)
    (k_is_integer : PySem.W.keepIn K (.ref f_is_integer) = true)
    (a_is_tuple : PySem.W.nsIn K mainGlobals "is_tuple" = some (some (.ref f_is_tuple)))
    (l_is_tuple : K.lookup f_is_tuple = some ⟨oc_is_tuple, od_is_tuple, .func (PySem.W.fnOf "is_tuple" "is_tuple" (defArgs s_is_tuple) (defBody s_is_tuple) (defScope s_is_tuple) .none kV_is_tuple dc_is_tuple pm_is_tuple an_is_tuple cd_is_tuple ct_is_tuple), sl_is_tuple⟩)
    (c_is_tuple : PySem.W.codeIn K cd_is_tuple "is_tuple" = true)
    (k_is_tuple : PySem.W.keepIn K (.ref f_is_tuple) = true)
    (a_is_text : PySem.W.nsIn K mainGlobals "is_text" = some (some (.ref f_is_text)))
    (l_is_text : K.lookup f_is_text = some ⟨oc_is_text, od_is_text, .func (PySem.W.fnOf "is_text" "is_text" (defArgs s_is_text) (defBody s_is_text) (defScope s_is_text) .none kV_is_text dc_is_text pm_is_text an_is_text cd_is_text ct_is_text), sl_is_text⟩)
    (c_is_text : PySem.W.codeIn K cd_is_text "is_text" = true)
    (k_is_text : PySem.W.keepIn K (.ref f_is_text) = true)
    (a_check_texts : PySem.W.nsIn K mainGlobals "check_texts" = some (some (.ref f_check_texts)))
    (l_check_texts : K.lookup f_check_texts = some ⟨oc_check_texts, od_check_texts, .func (PySem.W.fnOf "check_texts" "check_texts" (defArgs s_check_texts) (defBody s_check_texts) (defScope s_check_texts) .none kV_check_texts dc_check_texts pm_check_texts an_check_texts cd_check_texts ct_check_texts), sl_check_texts⟩)
    (c_check_texts : PySem.W.codeIn K cd_check_texts "check_texts" = true)
    (k_check_texts : PySem.W.keepIn K (.ref f_check_texts) = true)
    (a_check_namer : PySem.W.nsIn K mainGlobals "check_namer" = some (some (.ref f_check_namer)))
    (l_check_namer : K.lookup f_check_namer = some ⟨oc_check_namer, od_check_namer, .func (PySem.W.fnOf "check_namer" "check_namer" (defArgs s_check_namer) (defBody s_check_namer) (defScope s_check_namer) .none kV_check_namer dc_check_namer pm_check_namer an_check_namer cd_check_namer ct_check_namer), sl_check_namer⟩)
    (c_check_namer : PySem.W.codeIn K cd_check_namer "check_namer" = true)
    (k_check_namer : PySem.W.keepIn K (.ref f_check_namer) = true)
    (a_base_of : PySem.W.nsIn K mainGlobals "base_of" = some (some (.ref f_base_of)))
    (l_base_of : K.lookup f_base_of = some ⟨oc_base_of, od_base_of, .func (PySem.W.fnOf "base_of" "base_of" (defArgs s_base_of) (defBody s_base_of) (defScope s_base_of) .none kV_base_of dc_base_of pm_base_of an_base_of cd_base_of ct_base_of), sl_base_of⟩)
    (c_base_of : PySem.W.codeIn K cd_base_of "base_of" = true)
    (k_base_of : PySem.W.keepIn K (.ref f_base_of) = true)
    (a_numbered : PySem.W.nsIn K mainGlobals "numbered" = some (some (.ref f_numbered)))
    (l_numbered : K.lookup f_numbered = some ⟨oc_numbered, od_numbered, .func (PySem.W.fnOf "numbered" "numbered" (defArgs s_numbered) (defBody s_numbered) (defScope s_numbered) .none kV_numbered dc_numbered pm_numbered an_numbered cd_numbered ct_numbered), sl_numbered⟩)
    (c_numbered : PySem.W.codeIn K cd_numbered "numbered" = true)
    (k_numbered : PySem.W.keepIn K (.ref f_numbered) = true)
    (a_counted_name : PySem.W.nsIn K mainGlobals "counted_name" = some (some (.ref f_counted_name)))
    (l_counted_name : K.lookup f_counted_name = some ⟨oc_counted_name, od_counted_name, .func (PySem.W.fnOf "counted_name" "counted_name" (defArgs s_counted_name) (defBody s_counted_name) (defScope s_counted_name) .none kV_counted_name dc_counted_name pm_counted_name an_counted_name cd_counted_name ct_counted_name), sl_counted_name⟩)
    (c_counted_name : PySem.W.codeIn K cd_counted_name "counted_name" = true)
    (k_counted_name : PySem.W.keepIn K (.ref f_counted_name) = true)
    (a_free_name : PySem.W.nsIn K mainGlobals "free_name" = some (some (.ref f_free_name)))
    (l_free_name : K.lookup f_free_name = some ⟨oc_free_name, od_free_name, .func (PySem.W.fnOf "free_name" "free_name" (defArgs s_free_name) (defBody s_free_name) (defScope s_free_name) .none kV_free_name dc_free_name pm_free_name an_free_name cd_free_name ct_free_name), sl_free_name⟩)
    (c_free_name : PySem.W.codeIn K cd_free_name "free_name" = true)
    (k_free_name : PySem.W.keepIn K (.ref f_free_name) = true)
    (a_name_of_next : PySem.W.nsIn K mainGlobals "name_of_next" = some (some (.ref f_name_of_next)))
    (l_name_of_next : K.lookup f_name_of_next = some ⟨oc_name_of_next, od_name_of_next, .func (PySem.W.fnOf "name_of_next" "name_of_next" (defArgs s_name_of_next) (defBody s_name_of_next) (defScope s_name_of_next) .none kV_name_of_next dc_name_of_next pm_name_of_next an_name_of_next cd_name_of_next ct_name_of_next), sl_name_of_next⟩)
    (c_name_of_next : PySem.W.codeIn K cd_name_of_next "name_of_next" = true)
    (k_name_of_next : PySem.W.keepIn K (.ref f_name_of_next) = true)
    (a_named : PySem.W.nsIn K mainGlobals "named" = some (some (.ref f_named)))
    (l_named : K.lookup f_named = some ⟨oc_named, od_named, .func (PySem.W.fnOf "named" "named" (defArgs s_named) (defBody s_named) (defScope s_named) .none kV_named dc_named pm_named an_named cd_named ct_named), sl_named⟩)
    (c_named : PySem.W.codeIn K cd_named "named" = true)
    (k_named : PySem.W.keepIn K (.ref f_named) = true)
    (a_names : PySem.W.nsIn K mainGlobals "names" = some (some (.ref f_names)))
    (l_names : K.lookup f_names = some ⟨oc_names, od_names, .func (PySem.W.fnOf "names" "names" (defArgs s_names) (defBody s_names) (defScope s_names) .none kV_names dc_names pm_names an_names cd_names ct_names), sl_names⟩)
    (c_names : PySem.W.codeIn K cd_names "names" = true)
    (k_names : PySem.W.keepIn K (.ref f_names) = true)
    (a_law_source : PySem.W.nsIn K mainGlobals "_law_source" = some (some (.ref f_law_source)))
    (l_law_source : K.lookup f_law_source = some ⟨oc_law_source, od_law_source, .func (PySem.W.fnOf "_law_source" "_law_source" (defArgs s_law_source) (defBody s_law_source) (defScope s_law_source) .none kV_law_source dc_law_source pm_law_source an_law_source cd_law_source ct_law_source), sl_law_source⟩)
    (c_law_source : PySem.W.codeIn K cd_law_source "_law_source" = true)
    (k_law_source : PySem.W.keepIn K (.ref f_law_source) = true)
    (a_law_draw : PySem.W.nsIn K mainGlobals "_law_draw" = some (some (.ref f_law_draw)))
    (l_law_draw : K.lookup f_law_draw = some ⟨oc_law_draw, od_law_draw, .func (PySem.W.fnOf "_law_draw" "_law_draw" (defArgs s_law_draw) (defBody s_law_draw) (defScope s_law_draw) .none kV_law_draw dc_law_draw pm_law_draw an_law_draw cd_law_draw ct_law_draw), sl_law_draw⟩)
    (c_law_draw : PySem.W.codeIn K cd_law_draw "_law_draw" = true)
    (k_law_draw : PySem.W.keepIn K (.ref f_law_draw) = true)
    (a_law_one : PySem.W.nsIn K mainGlobals "_law_one" = some (some (.ref f_law_one)))
    (l_law_one : K.lookup f_law_one = some ⟨oc_law_one, od_law_one, .func (PySem.W.fnOf "_law_one" "_law_one" (defArgs s_law_one) (defBody s_law_one) (defScope s_law_one) .none kV_law_one dc_law_one pm_law_one an_law_one cd_law_one ct_law_one), sl_law_one⟩)
    (c_law_one : PySem.W.codeIn K cd_law_one "_law_one" = true)
    (k_law_one : PySem.W.keepIn K (.ref f_law_one) = true)
    (a_law_stem : PySem.W.nsIn K mainGlobals "_law_stem" = some (some (.ref f_law_stem)))
    (l_law_stem : K.lookup f_law_stem = some ⟨oc_law_stem, od_law_stem, .func (PySem.W.fnOf "_law_stem" "_law_stem" (defArgs s_law_stem) (defBody s_law_stem) (defScope s_law_stem) .none kV_law_stem dc_law_stem pm_law_stem an_law_stem cd_law_stem ct_law_stem), sl_law_stem⟩)
    (c_law_stem : PySem.W.codeIn K cd_law_stem "_law_stem" = true)
    (k_law_stem : PySem.W.keepIn K (.ref f_law_stem) = true)
    (a_law_word : PySem.W.nsIn K mainGlobals "_law_word" = some (some (.ref f_law_word)))
    (l_law_word : K.lookup f_law_word = some ⟨oc_law_word, od_law_word, .func (PySem.W.fnOf "_law_word" "_law_word" (defArgs s_law_word) (defBody s_law_word) (defScope s_law_word) .none kV_law_word dc_law_word pm_law_word an_law_word cd_law_word ct_law_word), sl_law_word⟩)
    (c_law_word : PySem.W.codeIn K cd_law_word "_law_word" = true)
    (k_law_word : PySem.W.keepIn K (.ref f_law_word) = true)
    (a_law_made : PySem.W.nsIn K mainGlobals "_law_made" = some (some (.ref f_law_made)))
    (l_law_made : K.lookup f_law_made = some ⟨oc_law_made, od_law_made, .func (PySem.W.fnOf "_law_made" "_law_made" (defArgs s_law_made) (defBody s_law_made) (defScope s_law_made) .none kV_law_made dc_law_made pm_law_made an_law_made cd_law_made ct_law_made), sl_law_made⟩)
    (c_law_made : PySem.W.codeIn K cd_law_made "_law_made" = true)
    (k_law_made : PySem.W.keepIn K (.ref f_law_made) = true)
    (a_law_is_free : PySem.W.nsIn K mainGlobals "_law_is_free" = some (some (.ref f_law_is_free)))
    (l_law_is_free : K.lookup f_law_is_free = some ⟨oc_law_is_free, od_law_is_free, .func (PySem.W.fnOf "_law_is_free" "_law_is_free" (defArgs s_law_is_free) (defBody s_law_is_free) (defScope s_law_is_free) .none kV_law_is_free dc_law_is_free pm_law_is_free an_law_is_free cd_law_is_free ct_law_is_free), sl_law_is_free⟩)
    (c_law_is_free : PySem.W.codeIn K cd_law_is_free "_law_is_free" = true)
    (k_law_is_free : PySem.W.keepIn K (.ref f_law_is_free) = true)
    (a_law_right : PySem.W.nsIn K mainGlobals "_law_right" = some (some (.ref f_law_right)))
    (l_law_right : K.lookup f_law_right = some ⟨oc_law_right, od_law_right, .func (PySem.W.fnOf "_law_right" "_law_right" (defArgs s_law_right) (defBody s_law_right) (defScope s_law_right) .none kV_law_right dc_law_right pm_law_right an_law_right cd_law_right ct_law_right), sl_law_right⟩)
    (c_law_right : PySem.W.codeIn K cd_law_right "_law_right" = true)
    (k_law_right : PySem.W.keepIn K (.ref f_law_right) = true)
    (a_law : PySem.W.nsIn K mainGlobals "law" = some (some (.ref f_law)))
    (l_law : K.lookup f_law = some ⟨oc_law, od_law, .func (PySem.W.fnOf "law" "law" (defArgs s_law) (defBody s_law) (defScope s_law) .none kV_law dc_law pm_law an_law cd_law ct_law), sl_law⟩)
    (c_law : PySem.W.codeIn K cd_law "law" = true)
    (k_law : PySem.W.keepIn K (.ref f_law) = true)
    (aC : PySem.W.nsIn K mainGlobals "Namer" = some (some (.ref C)))
    (a_i : PySem.W.findIn K (.ref C) "__init__" = some (some (.ref f_i)))
    (l_i : K.lookup f_i = some ⟨oc_i, od_i, .func (PySem.W.fnOf "__init__" "Namer.__init__" (defArgs s_Namer_init) (defBody s_Namer_init) (defScope s_Namer_init) .none kV_i dc_i pm_i an_i cd_i ct_i), sl_i⟩)
    (c_i : PySem.W.codeIn K cd_i "Namer.__init__" = true)
    (k_i : PySem.W.keepIn K (.ref f_i) = true)
    (i_i : PySem.W.isFn K (.ref f_i) = true)
    (pg : PySem.W.plainGet K C Str.empty = true)
    (hd : PySem.W.hasDictIn K C = true)
    (po : PySem.W.plainOver K C = true)
    (sa : PySem.W.findIn K (.ref C) "__setattr__" = some (some (.builtin "object.__setattr__")))
    (mkC : PySem.W.makesIn K C = true)
    (kC : PySem.W.keepIn K (.ref C) = true)
    (n_rule : PySem.W.findIn K (.ref C) "rule" = some none)
    (n_width : PySem.W.findIn K (.ref C) "width" = some none)
    (qa : PySem.W.findIn K (.ref C) "__class__" = some (some (.builtin "object.__class__")))
    (qn : PySem.W.specialIn K (.builtin "object.__class__") "__get__" = some (some (.builtin "getset_descriptor.__get__")))
    (qt : PySem.W.takesIn K (.builtin "object.__class__") = some true)
    (qm : PySem.W.mroIn K C (.type "object") = some true)
    (z_ValueError : PySem.W.nsIn K mainGlobals "ValueError" = some none)
    (z_abs : PySem.W.nsIn K mainGlobals "abs" = some none)
    (z_all : PySem.W.nsIn K mainGlobals "all" = some none)
    (z_bool : PySem.W.nsIn K mainGlobals "bool" = some none)
    (z_divmod : PySem.W.nsIn K mainGlobals "divmod" = some none)
    (z_enumerate : PySem.W.nsIn K mainGlobals "enumerate" = some none)
    (z_int : PySem.W.nsIn K mainGlobals "int" = some none)
    (z_isinstance : PySem.W.nsIn K mainGlobals "isinstance" = some none)
    (z_len : PySem.W.nsIn K mainGlobals "len" = some none)
    (z_list : PySem.W.nsIn K mainGlobals "list" = some none)
    (z_max : PySem.W.nsIn K mainGlobals "max" = some none)
    (z_min : PySem.W.nsIn K mainGlobals "min" = some none)
    (z_range : PySem.W.nsIn K mainGlobals "range" = some none)
    (z_str : PySem.W.nsIn K mainGlobals "str" = some none)
    (z_tuple : PySem.W.nsIn K mainGlobals "tuple" = some none)
    (z_MOST_SIGNS : PySem.W.nsIn K mainGlobals "MOST_SIGNS" = some (some (.int 40 u_MOST_SIGNS)))
    (z_MOST_TEXT : PySem.W.nsIn K mainGlobals "MOST_TEXT" = some (some (.int 200 u_MOST_TEXT)))
    (z_MOST_LISTED : PySem.W.nsIn K mainGlobals "MOST_LISTED" = some (some (.int 6 u_MOST_LISTED)))
    (z_SIGNS : PySem.W.nsIn K mainGlobals "SIGNS" = some (some (.str ".0123456789abcdefghijklmnopqrstuvwxyz~" u_SIGNS)))
    (z_RULES : PySem.W.nsIn K mainGlobals "RULES" = some (some (.ref T_RULES)))
    (zl_RULES : K.lookup T_RULES = some ⟨.type "tuple", td_RULES, .seq #[.str "count" e_RULES_0, .str "free" e_RULES_1, .str "tight" e_RULES_2] tn_RULES, ts_RULES⟩)
    (z_LEAST_WIDTH : PySem.W.nsIn K mainGlobals "LEAST_WIDTH" = some (some (.int 6 u_LEAST_WIDTH))) :
    ∃ fd : FuncData, (∀ (s : Shared) (v : Value), BindsTo s fd ⟨[v], []⟩ [("_law_script", v)]) ∧ ∀ base : Heap, K.In base → base.Ns mainGlobals mg → FnG l.prog w K mg base 8 fa fd ["_law_script"] (spLaw K) := by
  have e := hfa.symm.trans (PySem.W.mg_of X G a_law)
  cases e
  have B : Bi mg := ⟨PySem.W.mg_none_of X G z_ValueError, PySem.W.mg_none_of X G z_abs, PySem.W.mg_none_of X G z_all, PySem.W.mg_none_of X G z_bool, PySem.W.mg_none_of X G z_divmod, PySem.W.mg_none_of X G z_enumerate, PySem.W.mg_none_of X G z_int, PySem.W.mg_none_of X G z_isinstance, PySem.W.mg_none_of X G z_len, PySem.W.mg_none_of X G z_list, PySem.W.mg_none_of X G z_max, PySem.W.mg_none_of X G z_min, PySem.W.mg_none_of X G z_range, PySem.W.mg_none_of X G z_str, PySem.W.mg_none_of X G z_tuple, cst_mk X G ⟨_, rfl⟩ z_MOST_SIGNS, cst_mk X G ⟨_, rfl⟩ z_MOST_TEXT, cst_mk X G ⟨_, rfl⟩ z_MOST_LISTED, cst_mk X G ⟨_, rfl⟩ z_SIGNS, cst_mk X G ⟨_, rfl⟩ z_LEAST_WIDTH⟩
  have S : NmC K mg C := ⟨⟨pg, hd, po, sa⟩, n_rule, n_width, PySem.W.mg_of X G aC, qa, qn, qt, qm, if_pos (beq_self_eq_true _), ⟨T_RULES, PySem.W.mg_of X G z_RULES, fun H => .inr ⟨_, _, _, zl_RULES, rfl, rfl, by show 3 ≤ sizeLine; decide, (.cons ⟨_, rfl⟩ (.cons ⟨_, rfl⟩ (.cons ⟨_, rfl⟩ .nil)))⟩⟩⟩
  have I : NInitAt K C := ⟨f_i, _, ⟨mkC, a_i, i_i, kC⟩, fun_mk l_i c_i k_i, (fun_mk l_i c_i k_i).binds fun _ _ _ _ _ _ us hl => match us, hl with | [_, _, _], _ => rfl⟩
  have A_is_integer : At K mg "is_integer" s_is_integer ps_is_integer := at_mk X G (fun _ _ _ _ _ _ us hl => match us, hl with | [_, _, _], _ => rfl) a_is_integer l_is_integer c_is_integer k_is_integer
  have A_is_tuple : At K mg "is_tuple" s_is_tuple ps_is_tuple := at_mk X G (fun _ _ _ _ _ _ us hl => match us, hl with | [_, _, _], _ => rfl) a_is_tuple l_is_tuple c_is_tuple k_is_tuple
  have A_is_text : At K mg "is_text" s_is_text ps_is_text := at_mk X G (fun _ _ _ _ _ _ us hl => match us, hl with | [_, _], _ => rfl) a_is_text l_is_text c_is_text k_is_text
  have A_check_texts : At K mg "check_texts" s_check_texts ps_check_texts := at_mk X G (fun _ _ _ _ _ _ us hl => match us, hl with | [_, _], _ => rfl) a_check_texts l_check_texts c_check_texts k_check_texts
  have A_check_namer : At K mg "check_namer" s_check_namer ps_check_namer := at_mk X G (fun _ _ _ _ _ _ us hl => match us, hl with | [_], _ => rfl) a_check_namer l_check_namer c_check_namer k_check_namer
  have A_base_of : At K mg "base_of" s_base_of ps_base_of := at_mk X G (fun _ _ _ _ _ _ us hl => match us, hl with | [_, _], _ => rfl) a_base_of l_base_of c_base_of k_base_of
  have A_numbered : At K mg "numbered" s_numbered ps_numbered := at_mk X G (fun _ _ _ _ _ _ us hl => match us, hl with | [_, _, _], _ => rfl) a_numbered l_numbered c_numbered k_numbered
  have A_counted_name : At K mg "counted_name" s_counted_name ps_counted_name := at_mk X G (fun _ _ _ _ _ _ us hl => match us, hl with | [_, _, _], _ => rfl) a_counted_name l_counted_name c_counted_name k_counted_name
  have A_free_name : At K mg "free_name" s_free_name ps_free_name := at_mk X G (fun _ _ _ _ _ _ us hl => match us, hl with | [_, _, _], _ => rfl) a_free_name l_free_name c_free_name k_free_name
  have A_name_of_next : At K mg "name_of_next" s_name_of_next ps_name_of_next := at_mk X G (fun _ _ _ _ _ _ us hl => match us, hl with | [_, _, _, _], _ => rfl) a_name_of_next l_name_of_next c_name_of_next k_name_of_next
  have A_named : At K mg "named" s_named ps_named := at_mk X G (fun _ _ _ _ _ _ us hl => match us, hl with | [_, _], _ => rfl) a_named l_named c_named k_named
  have A_names : At K mg "names" s_names ps_names := at_mk X G (fun _ _ _ _ _ _ us hl => match us, hl with | [_, _], _ => rfl) a_names l_names c_names k_names
  have A_law_source : At K mg "_law_source" s_law_source ps_law_source := at_mk X G (fun _ _ _ _ _ _ us hl => match us, hl with | [_, _], _ => rfl) a_law_source l_law_source c_law_source k_law_source
  have A_law_draw : At K mg "_law_draw" s_law_draw ps_law_draw := at_mk X G (fun _ _ _ _ _ _ us hl => match us, hl with | [_, _], _ => rfl) a_law_draw l_law_draw c_law_draw k_law_draw
  have A_law_one : At K mg "_law_one" s_law_one ps_law_one := at_mk X G (fun _ _ _ _ _ _ us hl => match us, hl with | [_, _], _ => rfl) a_law_one l_law_one c_law_one k_law_one
  have A_law_stem : At K mg "_law_stem" s_law_stem ps_law_stem := at_mk X G (fun _ _ _ _ _ _ us hl => match us, hl with | [_, _], _ => rfl) a_law_stem l_law_stem c_law_stem k_law_stem
  have A_law_word : At K mg "_law_word" s_law_word ps_law_word := at_mk X G (fun _ _ _ _ _ _ us hl => match us, hl with | [_, _], _ => rfl) a_law_word l_law_word c_law_word k_law_word
  have A_law_made : At K mg "_law_made" s_law_made ps_law_made := at_mk X G (fun _ _ _ _ _ _ us hl => match us, hl with | [_, _, _, _], _ => rfl) a_law_made l_law_made c_law_made k_law_made
  have A_law_is_free : At K mg "_law_is_free" s_law_is_free ps_law_is_free := at_mk X G (fun _ _ _ _ _ _ us hl => match us, hl with | [_, _, _, _, _], _ => rfl) a_law_is_free l_law_is_free c_law_is_free k_law_is_free
  have A_law_right : At K mg "_law_right" s_law_right ps_law_right := at_mk X G (fun _ _ _ _ _ _ us hl => match us, hl with | [_], _ => rfl) a_law_right l_law_right c_law_right k_law_right
  exact ⟨_, fun s v => .of_eq rfl, fun base _ _ => fin B S I A_is_integer A_is_tuple A_is_text A_check_texts A_check_namer A_base_of A_numbered A_counted_name A_free_name A_name_of_next A_named A_names A_law_source A_law_draw A_law_one A_law_stem A_law_word A_law_made A_law_is_free A_law_right (fun_mk l_law c_law k_law)⟩
end Gu
open PySem PySem.W PyProof.Rows
set_option maxHeartbeats 0 in
theorem PySem.Challenge.cw_shownshort_k44_whole_names_are_as_told_holds : PySem.Challenge.rw_shownshort_k44_whole_names_are_as_told.Holds := by
  w_on; o_law; k_head; (case hw => w_witness2)
  k_fill
  refine Gu.walkG (l := PySem.Challenge.rw_shownshort_k44_whole_names_are_as_told) (n := 63) (k := 8) (x := "_law_script") (sp := Gu.spLaw) rfl (by decide) rfl ⟨rfl, by decide, by decide⟩ (fun w h Y => PySem.W.kIn_of Y) ?F (fun _ _ a ns hl hS => ⟨a, ns, rfl, hS, hl, fun _ => rfl⟩)
  case F =>
    intro w mg fa h KX G hmg
    refine' Gu.all_mk KX G hmg ?a_is_integer ?l_is_integer ?c_is_integer ?k_is_integer ?a_is_tuple ?l_is_tuple ?c_is_tuple ?k_is_tuple ?a_is_text ?l_is_text ?c_is_text ?k_is_text ?a_check_texts ?l_check_texts ?c_check_texts ?k_check_texts ?a_check_namer ?l_check_namer ?c_check_namer ?k_check_namer ?a_base_of ?l_base_of ?c_base_of ?k_base_of ?a_numbered ?l_numbered ?c_numbered ?k_numbered ?a_counted_name ?l_counted_name ?c_counted_name ?k_counted_name ?a_free_name ?l_free_name ?c_free_name ?k_free_name ?a_name_of_next ?l_name_of_next ?c_name_of_next ?k_name_of_next ?a_named ?l_named ?c_named ?k_named ?a_names ?l_names ?c_names ?k_names ?a_law_source ?l_law_source ?c_law_source ?k_law_source ?a_law_draw ?l_law_draw ?c_law_draw ?k_law_draw ?a_law_one ?l_law_one ?c_law_one ?k_law_one ?a_law_stem ?l_law_stem ?c_law_stem ?k_law_stem ?a_law_word ?l_law_word ?c_law_word ?k_law_word ?a_law_made ?l_law_made ?c_law_made ?k_law_made ?a_law_is_free ?l_law_is_free ?c_law_is_free ?k_law_is_free ?a_law_right ?l_law_right ?c_law_right ?k_law_right ?a_law ?l_law ?c_law ?k_law ?aC ?a_i ?l_i ?c_i ?k_i ?i_i ?pg ?hd ?po ?sa ?mkC ?kC ?n_rule ?n_width ?qa ?qn ?qt ?qm ?z_ValueError ?z_abs ?z_all ?z_bool ?z_divmod ?z_enumerate ?z_int ?z_isinstance ?z_len ?z_list ?z_max ?z_min ?z_range ?z_str ?z_tuple ?z_MOST_SIGNS ?z_MOST_TEXT ?z_MOST_LISTED ?z_SIGNS ?z_RULES ?zl_RULES ?z_LEAST_WIDTH
    (case a_is_integer => k_is)
    (case l_is_integer => k_is)
    (case c_is_integer => k_is)
    (case k_is_integer => k_is)
    (case a_is_tuple => k_is)
    (case l_is_tuple => k_is)
    (case c_is_tuple => k_is)
    (case k_is_tuple => k_is)
    (case a_is_text => k_is)
    (case l_is_text => k_is)
    (case c_is_text => k_is)
    (case k_is_text => k_is)
    (case a_check_texts => k_is)
    (case l_check_texts => k_is)
    (case c_check_texts => k_is)
    (case k_check_texts => k_is)
    (case a_check_namer => k_is)
    (case l_check_namer => k_is)
    (case c_check_namer => k_is)
    (case k_check_namer => k_is)
    (case a_base_of => k_is)
    (case l_base_of => k_is)
    (case c_base_of => k_is)
    (case k_base_of => k_is)
    (case a_numbered => k_is)
    (case l_numbered => k_is)
    (case c_numbered => k_is)
    (case k_numbered => k_is)
    (case a_counted_name => k_is)
    (case l_counted_name => k_is)
    (case c_counted_name => k_is)
    (case k_counted_name => k_is)
    (case a_free_name => k_is)
    (case l_free_name => k_is)
    (case c_free_name => k_is)
    (case k_free_name => k_is)
    (case a_name_of_next => k_is)
    (case l_name_of_next => k_is)
    (case c_name_of_next => k_is)
    (case k_name_of_next => k_is)
    (case a_named => k_is)
    (case l_named => k_is)
    (case c_named => k_is)
    (case k_named => k_is)
    (case a_names => k_is)
    (case l_names => k_is)
    (case c_names => k_is)
    (case k_names => k_is)
    (case a_law_source => k_is)
    (case l_law_source => k_is)
    (case c_law_source => k_is)
    (case k_law_source => k_is)
    (case a_law_draw => k_is)
    (case l_law_draw => k_is)
    (case c_law_draw => k_is)
    (case k_law_draw => k_is)
    (case a_law_one => k_is)
    (case l_law_one => k_is)
    (case c_law_one => k_is)
    (case k_law_one => k_is)
    (case a_law_stem => k_is)
    (case l_law_stem => k_is)
    (case c_law_stem => k_is)
    (case k_law_stem => k_is)
    (case a_law_word => k_is)
    (case l_law_word => k_is)
    (case c_law_word => k_is)
    (case k_law_word => k_is)
    (case a_law_made => k_is)
    (case l_law_made => k_is)
    (case c_law_made => k_is)
    (case k_law_made => k_is)
    (case a_law_is_free => k_is)
    (case l_law_is_free => k_is)
    (case c_law_is_free => k_is)
    (case k_law_is_free => k_is)
    (case a_law_right => k_is)
    (case l_law_right => k_is)
    (case c_law_right => k_is)
    (case k_law_right => k_is)
    (case a_law => k_is)
    (case l_law => k_is)
    (case c_law => k_is)
    (case k_law => k_is)
    (case aC => k_is)
    (case a_i => k_is)
    (case l_i => k_is)
    (case c_i => k_is)
    (case k_i => k_is)
    (case i_i => k_is)
    (case pg => k_is)
    (case hd => k_is)
    (case po => k_is)
    (case sa => k_is)
    (case mkC => k_is)
    (case kC => k_is)
    (case n_rule => k_is)
    (case n_width => k_is)
    (case qa => k_is)
    (case qn => k_is)
    (case qt => k_is)
    (case qm => k_is)
    (case z_ValueError => k_is)
    (case z_abs => k_is)
    (case z_all => k_is)
    (case z_bool => k_is)
    (case z_divmod => k_is)
    (case z_enumerate => k_is)
    (case z_int => k_is)
    (case z_isinstance => k_is)
    (case z_len => k_is)
    (case z_list => k_is)
    (case z_max => k_is)
    (case z_min => k_is)
    (case z_range => k_is)
    (case z_str => k_is)
    (case z_tuple => k_is)
    (case z_MOST_SIGNS => k_is)
    (case z_MOST_TEXT => k_is)
    (case z_MOST_LISTED => k_is)
    (case z_SIGNS => k_is)
    (case z_RULES => k_is)
    (case zl_RULES => k_is)
    (case z_LEAST_WIDTH => k_is)
