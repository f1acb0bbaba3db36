import PyProof.Rows.All
import Wide.All
import OpenK.AllK
import Wide.FinOn
import HandS.Base
import HandS.Call
import HandS.List
import HandS.Comp
import HandS.Ends
import HandS.Dict
import HandS.Iter
import HandS.Text
import HandS.Words
import HandS.WordsList
import HandS.WordsDict
import HandS.Conv
import HandS.Walk
import HandS.IsInst
import HandS.MakeKw
import HandS.MakeKwOnly
import HandS.Flow
import HandS.TupAny
import HandS.TupMul
import HandS.FStr
import HandS.Zip
import HandS.Style
import HandS.Codes
import HandS.TupLe
import HandS.SetKeys
import HandS.Strs
import HandS.SetFor
import HandS.Deep
import KE.GoesMore
import KE.GoesZip
import PyProof.TupleOfStr
import PySem.Challenge.RW_shownshort_k26_whole_members_of_families
set_option Elab.async false
set_option linter.all false
set_option maxRecDepth 100000
namespace Gu
open PySem PySem.Spec PyProof.Rows L2
/-! the text, by places -/
def topS (i : Nat) : Stmt := PySem.Challenge.pw_shownshort_k26_whole_members_of_families.main.body.getD i (.Pass ⟨0, 0, 0, 0⟩)
abbrev s_InvalidNumber_init : Stmt := inClass (topS 2) 0
abbrev ps_InvalidNumber_init : List Str := ["self", "value"]
theorem sc_InvalidNumber_init : FnScope ["self", "value"] ps_InvalidNumber_init (defScope s_InvalidNumber_init) := ⟨rfl, rfl, rfl, by decide +kernel, rfl, by decide +kernel, by decide +kernel⟩
abbrev s_InvalidMark_init : Stmt := inClass (topS 3) 0
abbrev ps_InvalidMark_init : List Str := ["self", "value"]
theorem sc_InvalidMark_init : FnScope ["self", "value"] ps_InvalidMark_init (defScope s_InvalidMark_init) := ⟨rfl, rfl, rfl, by decide +kernel, rfl, by decide +kernel, by decide +kernel⟩
abbrev s_InvalidText_init : Stmt := inClass (topS 4) 0
abbrev ps_InvalidText_init : List Str := ["self", "value"]
theorem sc_InvalidText_init : FnScope ["self", "value"] ps_InvalidText_init (defScope s_InvalidText_init) := ⟨rfl, rfl, rfl, by decide +kernel, rfl, by decide +kernel, by decide +kernel⟩
abbrev s_InvalidRule_init : Stmt := inClass (topS 5) 0
abbrev ps_InvalidRule_init : List Str := ["self", "value"]
theorem sc_InvalidRule_init : FnScope ["self", "value"] ps_InvalidRule_init (defScope s_InvalidRule_init) := ⟨rfl, rfl, rfl, by decide +kernel, rfl, by decide +kernel, by decide +kernel⟩
abbrev s_InvalidWidth_init : Stmt := inClass (topS 6) 0
abbrev ps_InvalidWidth_init : List Str := ["self", "value"]
theorem sc_InvalidWidth_init : FnScope ["self", "value"] ps_InvalidWidth_init (defScope s_InvalidWidth_init) := ⟨rfl, rfl, rfl, by decide +kernel, rfl, by decide +kernel, by decide +kernel⟩
abbrev s_InvalidRow_init : Stmt := inClass (topS 7) 0
abbrev ps_InvalidRow_init : List Str := ["self", "index"]
theorem sc_InvalidRow_init : FnScope ["self", "index"] ps_InvalidRow_init (defScope s_InvalidRow_init) := ⟨rfl, rfl, rfl, by decide +kernel, rfl, by decide +kernel, by decide +kernel⟩
abbrev s_is_integer : Stmt := topS 14
abbrev ps_is_integer : List Str := ["value", "least", "most"]
theorem sc_is_integer : FnScope ["value", "least", "most"] ps_is_integer (defScope s_is_integer) := ⟨rfl, rfl, rfl, by decide +kernel, rfl, by decide +kernel, by decide +kernel⟩
abbrev s_is_tuple : Stmt := topS 15
abbrev ps_is_tuple : List Str := ["value", "least", "most"]
theorem sc_is_tuple : FnScope ["value", "least", "most"] ps_is_tuple (defScope s_is_tuple) := ⟨rfl, rfl, rfl, by decide +kernel, rfl, by decide +kernel, by decide +kernel⟩
abbrev s_is_text : Stmt := topS 16
abbrev ps_is_text : List Str := ["value", "most"]
theorem sc_is_text : FnScope ["value", "most", "character"] ps_is_text (defScope s_is_text) := ⟨rfl, rfl, rfl, by decide +kernel, rfl, by decide +kernel, by decide +kernel⟩
abbrev s_least_raised_at : Stmt := topS 17
abbrev ps_least_raised_at : List Str := ["length", "place"]
theorem sc_least_raised_at : FnScope ["length", "place"] ps_least_raised_at (defScope s_least_raised_at) := ⟨rfl, rfl, rfl, by decide +kernel, rfl, by decide +kernel, by decide +kernel⟩
abbrev s_check_mark : Stmt := topS 18
abbrev ps_check_mark : List Str := ["mark"]
theorem sc_check_mark : FnScope ["mark"] ps_check_mark (defScope s_check_mark) := ⟨rfl, rfl, rfl, by decide +kernel, rfl, by decide +kernel, by decide +kernel⟩
abbrev s_check_text : Stmt := topS 19
abbrev ps_check_text : List Str := ["text"]
theorem sc_check_text : FnScope ["text"] ps_check_text (defScope s_check_text) := ⟨rfl, rfl, rfl, by decide +kernel, rfl, by decide +kernel, by decide +kernel⟩
abbrev s_Shortener_init : Stmt := inClass (topS 21) 0
abbrev ps_Shortener_init : List Str := ["self", "limit", "head", "tail", "mark"]
theorem sc_Shortener_init : FnScope ["self", "limit", "head", "tail", "mark", "number"] ps_Shortener_init (defScope s_Shortener_init) := ⟨rfl, rfl, rfl, by decide +kernel, rfl, by decide +kernel, by decide +kernel⟩
abbrev s_Shortener_eq : Stmt := inClass (topS 21) 1
abbrev ps_Shortener_eq : List Str := ["self", "other"]
theorem sc_Shortener_eq : FnScope ["self", "other"] ps_Shortener_eq (defScope s_Shortener_eq) := ⟨rfl, rfl, rfl, by decide +kernel, rfl, by decide +kernel, by decide +kernel⟩
abbrev s_Shortener_repr : Stmt := inClass (topS 21) 2
abbrev ps_Shortener_repr : List Str := ["self"]
theorem sc_Shortener_repr : FnScope ["self"] ps_Shortener_repr (defScope s_Shortener_repr) := ⟨rfl, rfl, rfl, by decide +kernel, rfl, by decide +kernel, by decide +kernel⟩
abbrev s_check_row : Stmt := topS 22
abbrev ps_check_row : List Str := ["row"]
theorem sc_check_row : FnScope ["row", "place", "shortener"] ps_check_row (defScope s_check_row) := ⟨rfl, rfl, rfl, by decide +kernel, rfl, by decide +kernel, by decide +kernel⟩
abbrev s_shortened : Stmt := topS 23
abbrev ps_shortened : List Str := ["shortener", "whole", "mark"]
theorem sc_shortened : FnScope ["shortener", "whole", "mark", "tail_start"] ps_shortened (defScope s_shortened) := ⟨rfl, rfl, rfl, by decide +kernel, rfl, by decide +kernel, by decide +kernel⟩
abbrev s_shown_by : Stmt := topS 24
abbrev ps_shown_by : List Str := ["row", "text"]
theorem sc_shown_by : FnScope ["row", "text", "shown", "shortener"] ps_shown_by (defScope s_shown_by) := ⟨rfl, rfl, rfl, by decide +kernel, rfl, by decide +kernel, by decide +kernel⟩
abbrev s_planned : Stmt := topS 25
abbrev ps_planned : List Str := ["row", "length"]
theorem sc_planned : FnScope ["row", "length", "sources", "shortener"] ps_planned (defScope s_planned) := ⟨rfl, rfl, rfl, by decide +kernel, rfl, by decide +kernel, by decide +kernel⟩
abbrev s_telling_lengths : Stmt := topS 26
abbrev ps_telling_lengths : List Str := []
theorem sc_telling_lengths : FnScope [] ps_telling_lengths (defScope s_telling_lengths) := ⟨rfl, rfl, rfl, by decide +kernel, rfl, by decide +kernel, by decide +kernel⟩
abbrev s_show : Stmt := topS 27
abbrev ps_show : List Str := ["row", "text"]
theorem sc_show : FnScope ["row", "text"] ps_show (defScope s_show) := ⟨rfl, rfl, rfl, by decide +kernel, rfl, by decide +kernel, by decide +kernel⟩
abbrev s_widest : Stmt := topS 28
abbrev ps_widest : List Str := ["row"]
theorem sc_widest : FnScope ["row", "length"] ps_widest (defScope s_widest) := ⟨rfl, rfl, rfl, by decide +kernel, rfl, by decide +kernel, by decide +kernel⟩
abbrev s_check_kind : Stmt := topS 31
abbrev ps_check_kind : List Str := ["kind"]
theorem sc_check_kind : FnScope ["kind"] ps_check_kind (defScope s_check_kind) := ⟨rfl, rfl, rfl, by decide +kernel, rfl, by decide +kernel, by decide +kernel⟩
abbrev s_member_of : Stmt := topS 32
abbrev ps_member_of : List Str := ["kind", "mark", "width"]
theorem sc_member_of : FnScope ["kind", "mark", "width", "left"] ps_member_of (defScope s_member_of) := ⟨rfl, rfl, rfl, by decide +kernel, rfl, by decide +kernel, by decide +kernel⟩
abbrev s_member : Stmt := topS 33
abbrev ps_member : List Str := ["kind", "mark", "width"]
theorem sc_member : FnScope ["kind", "mark", "width"] ps_member (defScope s_member) := ⟨rfl, rfl, rfl, by decide +kernel, rfl, by decide +kernel, by decide +kernel⟩
abbrev s_filled_in : Stmt := topS 35
abbrev ps_filled_in : List Str := ["sources", "text"]
theorem sc_filled_in : FnScope ["sources", "text", "source"] ps_filled_in (defScope s_filled_in) := ⟨rfl, rfl, rfl, by decide +kernel, rfl, by decide +kernel, by decide +kernel⟩
abbrev s_differing_places : Stmt := topS 36
abbrev ps_differing_places : List Str := ["sources", "others"]
theorem sc_differing_places : FnScope ["sources", "others", "places", "source", "other", "place"] ps_differing_places (defScope s_differing_places) := ⟨rfl, rfl, rfl, by decide +kernel, rfl, by decide +kernel, by decide +kernel⟩
abbrev s_least_difference : Stmt := topS 37
abbrev ps_least_difference : List Str := ["sources", "others", "length"]
theorem sc_least_difference : FnScope ["sources", "others", "length", "least"] ps_least_difference (defScope s_least_difference) := ⟨rfl, rfl, rfl, by decide +kernel, rfl, by decide +kernel, by decide +kernel⟩
abbrev s_first_difference : Stmt := topS 38
abbrev ps_first_difference : List Str := ["shorteners", "others"]
theorem sc_first_difference : FnScope ["shorteners", "others", "length", "sources", "other_sources"] ps_first_difference (defScope s_first_difference) := ⟨rfl, rfl, rfl, by decide +kernel, rfl, by decide +kernel, by decide +kernel⟩
abbrev s_first_unstable : Stmt := topS 39
abbrev ps_first_unstable : List Str := ["row"]
theorem sc_first_unstable : FnScope ["row"] ps_first_unstable (defScope s_first_unstable) := ⟨rfl, rfl, rfl, by decide +kernel, rfl, by decide +kernel, by decide +kernel⟩
abbrev s_is_stable : Stmt := topS 40
abbrev ps_is_stable : List Str := ["row"]
theorem sc_is_stable : FnScope ["row"] ps_is_stable (defScope s_is_stable) := ⟨rfl, rfl, rfl, by decide +kernel, rfl, by decide +kernel, by decide +kernel⟩
abbrev s_law_pot : Stmt := topS 42
abbrev ps_law_pot : List Str := ["_law_script", "_law_k"]
theorem sc_law_pot : FnScope ["_law_script", "_law_k", "_law_own", "_law_mixed", "_law_entry"] ps_law_pot (defScope s_law_pot) := ⟨rfl, rfl, rfl, by decide +kernel, rfl, by decide +kernel, by decide +kernel⟩
abbrev s_law_ladle : Stmt := topS 43
abbrev ps_law_ladle : List Str := ["_law_pot_here", "_law_many"]
theorem sc_law_ladle : FnScope ["_law_pot_here", "_law_many", "_law_digit"] ps_law_ladle (defScope s_law_ladle) := ⟨rfl, rfl, rfl, by decide +kernel, rfl, by decide +kernel, by decide +kernel⟩
abbrev s_law_one_of : Stmt := topS 44
abbrev ps_law_one_of : List Str := ["_law_pot_here", "_law_some"]
theorem sc_law_one_of : FnScope ["_law_pot_here", "_law_some"] ps_law_one_of (defScope s_law_one_of) := ⟨rfl, rfl, rfl, by decide +kernel, rfl, by decide +kernel, by decide +kernel⟩
abbrev s_law_line : Stmt := topS 45
abbrev ps_law_line : List Str := ["_law_pot_here", "_law_many"]
theorem sc_law_line : FnScope ["_law_pot_here", "_law_many", "_law_signs_here", "_law_k"] ps_law_line (defScope s_law_line) := ⟨rfl, rfl, rfl, by decide +kernel, rfl, by decide +kernel, by decide +kernel⟩
abbrev s_law_right : Stmt := topS 46
abbrev ps_law_right : List Str := ["_law_pot_here"]
theorem sc_law_right : FnScope ["_law_pot_here", "_law_again", "_law_sort", "_law_sign", "_law_size_here", "_law_made", "_law_rest", "_law_half", "_law_due", "_law_turn", "_law_line_here", "_law_seen_here", "_law_back"] ps_law_right (defScope s_law_right) := ⟨rfl, rfl, rfl, by decide +kernel, rfl, by decide +kernel, by decide +kernel⟩
abbrev s_law : Stmt := topS 47
abbrev ps_law : List Str := ["_law_script"]
theorem sc_law : FnScope ["_law_script", "_law_k"] ps_law (defScope s_law) := ⟨rfl, rfl, rfl, by decide +kernel, rfl, by decide +kernel, by decide +kernel⟩
/-- names that the module leaves to Python -/
structure Bi (mg : Str → Option Value) : Prop where
  ValueError : mg "ValueError" = none
  abs : mg "abs" = none
  all : mg "all" = none
  bool : mg "bool" = none
  divmod : mg "divmod" = none
  enumerate : mg "enumerate" = none
  int : mg "int" = none
  isinstance : mg "isinstance" = none
  len : mg "len" = none
  list : mg "list" = none
  max : mg "max" = none
  min : mg "min" = none
  range : mg "range" = none
  str : mg "str" = none
  tuple : mg "tuple" = none
  zip : mg "zip" = none
  MOST_SIGNS : ∃ u, mg "MOST_SIGNS" = some u ∧ RelV (.int 40) u
  MOST_MARK : ∃ u, mg "MOST_MARK" = some u ∧ RelV (.int 3) u
  MOST_ROW : ∃ u, mg "MOST_ROW" = some u ∧ RelV (.int 4) u
  MOST_TEXT : ∃ u, mg "MOST_TEXT" = some u ∧ RelV (.int 200) u
  SIGNS : ∃ u, mg "SIGNS" = some u ∧ RelV (.str ".0123456789abcdefghijklmnopqrstuvwxyz~") u
end Gu
namespace Gu
open PySem PySem.Spec PyProof.Rows L2
/-! cuts -/
/-- from a middle state on -/
def tHalt (t u : TS) : TS := fun D σ H => ∃ M : L2.St → Hp → Prop, t { D with nx := M } σ H ∧ ∀ σ1 H1, M σ1 H1 → u D σ1 H1
/-! defs as they stand behind the top -/
structure At (K : PySem.W.Frag) (mg : Str → Option Value) (x : Str) (st : Stmt) (ps : List Str) : Prop where
  ex : ∃ (f : Addr) (fd : FuncData), Fun K x x st f fd ∧ Binds K fd ps [] ∧ mg x = some (.ref f)
structure Cal (P : Program) (w : World) (K : PySem.W.Frag) (mg : Str → Option Value) (base : Heap) (k : Nat) (x : Str) (ps : List Str) (sp : Sp) : Prop where
  ex : ∃ (f : Addr) (fd : FuncData), FnOk P w K mg base CX0 k f fd ps sp ∧ mg x = some (.ref f) ∧ PySem.W.keepIn K (.ref f) = true ∧ Binds K fd ps [] ∧ ∃ oc od sl, K.lookup f = some ⟨oc, od, .func fd, sl⟩
theorem At.cal {P : Program} {w : World} {K : PySem.W.Frag} {mg : Str → Option Value} {base : Heap} {x : Str} {st : Stmt} {N ps : List Str} {k : Nat} {sp : Sp} (D : At K mg x st ps) (S : FnScope N ps (defScope st)) (len : ∀ vs H Q E, sp vs H Q E → vs.length = ps.length)
    (body : ∀ (f : Addr) (cdv : Value) (A : Around) (outer : List Env) (s : Shared) (H : Hp) (vs : List V) (Q : VK) (E : XK), Room k (A.deeper (envOfC x (defScope st) s.heap.objs.size f cdv)) → sp vs H Q E →
      ∃ t, PSs (cxOf CX0 P w K mg base N x (defScope st) f cdv A outer s H E).nox (defBody st) t ∧ t { nx := fun _ H' => Q .non H', rt := Q } (start N vs) H) : Cal P w K mg base (k + 1) x ps sp := by
  obtain ⟨f, fd, F, b, g⟩ := D.ex
  obtain ⟨oc, od, kV, doc, pm, an, cdv, ct, osl, e, lk, hcd⟩ := F.ex
  exact ⟨f, fd, F.ok S len (body f), g, F.kp, b, oc, od, osl, lk⟩
section
variable {X : Cx} {k j : Nat} {x : Str} {ps : List Str} {sp : Sp} {p pos : Pos} {e : Expr} {es : List Expr} {t : TA}
theorem pe_own (c : Cal X.prog X.w X.K X.mg X.base k x ps sp) (hr : Room j X.A) (hk : k ≤ j) (hg : Gl X x) (ha : PA X (e :: es) t)
    (hdb : (x == ("__debug__" : Str)) = false := by decide) (he : starEach (e :: es) X.env = (false, eval e X.env) :: starEach es X.env := by rfl) (hpl : (backTo pos (starEach es X.env)).any (·.1) = false := by rfl) :
    PE X (.Call (.Name x p) (e :: es) [] pos) (tCall sp [] E0 t) := by
  obtain ⟨f, fd, F, hm, kp, b, _⟩ := c.ex
  exact pe_call F (hr.mono hk) hg hm kp b .nil pass0 ha hdb he hpl
theorem pe_cst {v : V} (h : ∃ u, X.mg x = some u ∧ RelV v u) (hg : Gl X x) (hdb : (x == ("__debug__" : Str)) = false := by decide) : PE X (.Name x pos) (tC v) := by
  obtain ⟨u, hm, r⟩ := h
  exact pe_glob hg hm r hdb
end
def tMid (t : TE) : TE := fun σ H Q => ∃ M : VK, t σ H M ∧ ∀ v G, M v G → Q v G
theorem pe_mid {X : Cx} {e : Expr} {t : TE} (d : PE X e t) : PE X e (tMid t) := ⟨fun pins s σ H Q I ⟨M, m, k⟩ => thn (d.run pins s σ H M I m) fun u s1 ⟨v, G, I1, r1, m1⟩ => ⟨v, G, I1, r1, k v G m1⟩⟩
/-! ### heaps -/
theorem same_new {H : Hp} {p : Addr} {o : HO} (h : H p = none) : Same H (upd H p o) := fun b x e => by
  rw [upd_ne (ne_of_none e h)]
  exact e
/-- a pot of three ints stands at p -/
def Pot (H : Hp) (p : Addr) : Prop := ∃ x y z : Int, H p = some (.lst [.int x, .int y, .int z])
/-- from H to G the pot at p may have changed, the rest stands -/
structure Ladled (p : Addr) (H G : Hp) : Prop where
  pot : Pot G p
  keep : ∀ b o, H b = some o → b ≠ p → G b = some o
theorem Pot.some {H : Hp} {p : Addr} (h : Pot H p) : ∃ o, H p = some o := by
  obtain ⟨x, y, z, e⟩ := h
  exact ⟨_, e⟩
theorem Pot.same {H G : Hp} {p : Addr} (s : Same H G) (h : Pot H p) : Pot G p := by
  obtain ⟨x, y, z, e⟩ := h
  exact ⟨x, y, z, s _ _ e⟩
theorem Ladled.refl {H : Hp} {p : Addr} (h : Pot H p) : Ladled p H H := ⟨h, fun _ _ e _ => e⟩
theorem Ladled.trans {H G J : Hp} {p : Addr} (a : Ladled p H G) (b : Ladled p G J) : Ladled p H J := ⟨b.pot, fun c o e n => b.keep c o (a.keep c o e n) n⟩
theorem Ladled.same {H G J : Hp} {p : Addr} (a : Ladled p H G) (b : Same G J) : Ladled p H J := ⟨a.pot.same b, fun c o e n => b _ _ (a.keep c o e n)⟩
theorem Ladled.ofSame {H G : Hp} {p : Addr} (h : Pot H p) (b : Same H G) : Ladled p H G := ⟨h.same b, fun c o e _ => b _ _ e⟩
theorem Ladled.new {H G : Hp} {p q : Addr} {o : HO} (a : Ladled p H G) (h : G q = none) : Ladled p H (upd G q o) := a.same (same_new h)
theorem Ladled.free {H G : Hp} {p l : Addr} (a : Ladled p H G) (h : G l = none) : H l = none := by
  cases q : H l with
  | none => rfl
  | some o =>
    by_cases e : l = p
    · subst e
      obtain ⟨u, hu⟩ := a.pot.some
      rw [hu] at h
      cases h
    · rw [a.keep l o q e] at h
      cases h
/-- what is not known at first may change -/
theorem Ladled.mut {H G : Hp} {p q : Addr} {o : HO} (a : Ladled p H G) (h : H q = none) (n : q ≠ p) : Ladled p H (upd G q o) := by
  refine ⟨?_, fun b u e nb => ?_⟩
  · obtain ⟨x, y, z, e⟩ := a.pot
    exact ⟨x, y, z, by rw [upd_ne (Ne.symm n)]; exact e⟩
  · rw [upd_ne (ne_of_none e h)]
    exact a.keep b u e nb
end Gu
namespace Gu
open PySem PySem.Spec PyProof.Rows L2
section
variable {P : Program} {w : World} {K : PySem.W.Frag} {mg : Str → Option Value} {base : Heap}
/-! ### _law_ladle -/
def spLadle : Sp := fun vs H Q _ => ∃ (p : Addr) (m : Int), vs = [.ref p, .int m] ∧ Pot H p ∧ 0 < m ∧ m < 1000000 ∧ ∀ d G, 0 ≤ d → d < m → Ladled p H G → Q (.int d) G
theorem cal_ladle (B : Bi mg) (D : At K mg "_law_ladle" s_law_ladle ps_law_ladle) : Cal P w K mg base 1 "_law_ladle" ps_law_ladle spLadle := by
  refine D.cal sc_law_ladle (fun vs H Q E h => ?_) (fun f cdv A outer s H vs Q E hr h => ?_)
  · obtain ⟨p, m, rfl, _⟩ := h
    rfl
  · obtain ⟨p, m, rfl, ⟨x, y, z, hp⟩, m0, m1, k⟩ := h
    refine ⟨_, (pss_cons (ps_asg (pe_op op_add (pe_ix ix_list (pv 0) pe_int (fun _ _ => rfl)) pe_int) (pg_sub (pv 0) pe_int set_list))
      (pss_cons (ps_if (pt_cmpR op_gt (pe_ix ix_list (pv 0) pe_int (fun _ _ => rfl)) pe_int (nomark _)) (pss_cons (ps_asg (pe_callB call_divmod (by rfl) B.divmod (by decide +kernel) (pa_cons (pe_callTy call_int1 (by rfl) B.int (by decide +kernel) (pa_cons (pe_ix ix_list (pv 0) pe_int (fun _ _ => rfl)) pa_nil)) (pa_cons (pv 1) pa_nil))) (pg_tup rfl (pgs_cons (pg_sub (pv 0) pe_int set_list) (pgs_cons (pg_name (i := 2) sc_law_ladle.nd rfl (.inl rfl)) pgs_nil))))
      (pss_one (ps_ret (pv 2)))) pss_nil)
      (pss_cons (ps_asg (pe_op op_mod (pe_callTy call_int1 (by rfl) B.int (by decide +kernel) (pa_cons (pe_op op_add (pe_op op_add (pe_op op_mul (pe_ix ix_list (pv 0) pe_int (fun _ _ => rfl)) pe_int) (pe_op op_mul (pe_ix ix_list (pv 0) pe_int (fun _ _ => rfl)) pe_int)) (pe_op op_mul (pe_op op_fdiv (pe_ix ix_list (pv 0) pe_int (fun _ _ => rfl)) pe_int) pe_int)) pa_nil)) pe_int) (pg_sub (pv 0) pe_int set_list))
      (pss_one (ps_ret (pe_op op_mod (pe_callTy call_int1 (by rfl) B.int (by decide +kernel) (pa_cons (pe_op op_fdiv (pe_ix ix_list (pv 0) pe_int (fun _ _ => rfl)) pe_int) pa_nil)) (pv 1))))))), ?_⟩
    refine ⟨_, rfl, p, _, _, _, rfl, rfl, .inl (.inl hp), (rfl : atI [V.int x, V.int y, V.int z] 1 = some (V.int y)), _, _, rfl, rfl, _, rfl, p, _, _, 1, rfl, rfl, hp, rfl, ?_⟩
    have h1 : upd H p (.lst ([V.int x, V.int y, V.int z].set 1 (.int (y + 3)))) p = some (.lst [.int x, .int (y + 3), .int z]) := upd_same
    refine ⟨_, rfl, p, _, _, _, rfl, rfl, .inl (.inl h1), (rfl : atI [V.int x, V.int (y + 3), V.int z] 0 = some (V.int x)), _, _, rfl, rfl, _, rfl, ite2 (fun _ => ?_) (fun _ => ?_)⟩
    · refine ⟨_, rfl, p, _, _, _, rfl, rfl, .inl (.inl h1), (rfl : atI [V.int x, V.int (y + 3), V.int z] 0 = some (V.int x)), .inl ⟨_, rfl, _, rfl, _, _, rfl, ⟨m0, by omega⟩, fun q hq => ?_⟩⟩
      have npq : p ≠ q := ne_of_none h1 hq
      refine ⟨q, _, rfl, .inl (.inl upd_same), rfl, _, _, rfl, ⟨_, rfl, p, _, _, 0, rfl, rfl, (by rw [upd_ne npq]; exact h1), rfl, _, _, rfl, rfl, ?_⟩⟩
      refine ⟨_, rfl, ?_⟩
      refine k (x % m) _ (Int.emod_nonneg _ (by omega)) (Int.emod_lt_of_pos _ m0) ⟨⟨_, _, _, upd_same⟩, fun b o e n => ?_⟩
      have hb : upd H p (.lst ([V.int x, V.int y, V.int z].set 1 (.int (y + 3)))) b = some o := by rw [upd_ne n]; exact e
      rw [upd_ne n, upd_ne (ne_of_none hb hq), upd_ne n]
      exact e
    · refine ⟨_, rfl, p, _, _, _, rfl, rfl, .inl (.inl h1), (rfl : atI [V.int x, V.int (y + 3), V.int z] 2 = some (V.int z)), _, _, rfl, rfl, .inr ⟨by decide, by decide⟩, _, rfl, p, _, _, _, rfl, rfl, .inl (.inl h1), (rfl : atI [V.int x, V.int (y + 3), V.int z] 1 = some (V.int (y + 3))), _, _, rfl, rfl, .inr ⟨by decide, by decide⟩, _, _, rfl, rfl, ?_⟩
      refine ⟨_, rfl, p, _, _, _, rfl, rfl, .inl (.inl h1), (rfl : atI [V.int x, V.int (y + 3), V.int z] 2 = some (V.int z)), _, _, rfl, rfl, ⟨by decide, by decide⟩, _, _, rfl, rfl, .inr ⟨by decide, by decide⟩, _, _, rfl, rfl, .inl ⟨_, rfl, _, _, rfl, rfl, (by decide : (0 : Int) < 1999999889), ?_⟩⟩
      refine ⟨_, rfl, p, _, _, 2, rfl, rfl, h1, rfl, ?_⟩
      refine ⟨_, rfl, p, _, _, _, rfl, rfl, .inl (.inl upd_same), rfl, _, _, rfl, rfl, ⟨by decide, by decide⟩, .inl ⟨_, rfl, _, rfl, _, _, rfl, rfl, m0, ?_⟩⟩
      refine k _ _ (Int.emod_nonneg _ (by omega)) (Int.emod_lt_of_pos _ m0) ⟨⟨_, _, _, upd_same⟩, fun b o e n => ?_⟩
      rw [upd_ne n, upd_ne n]
      exact e
/-! ### _law_one_of: of a list or of a text -/
def spOneOf (K : PySem.W.Frag) : Sp := fun vs H Q _ => ∃ (p : Addr), Pot H p ∧
  ((∃ (l : Addr) (xs : List V), vs = [.ref p, .ref l] ∧ SqL K H l xs ∧ l ≠ p ∧ 0 < xs.length ∧ xs.length < 1000 ∧ ∀ v G, v ∈ xs → Ladled p H G → Q v G) ∨
   (∃ (z : Str), vs = [.ref p, .str z] ∧ 0 < z.cps.toList.length ∧ z.cps.toList.length < 1000 ∧ ∀ c G, c ∈ z.cps.toList → Ladled p H G → Q (.str ⟨#[c]⟩) G))
theorem Ladled.seq {K : PySem.W.Frag} {H G : Hp} {p l : Addr} {xs : List V} (a : Ladled p H G) (n : l ≠ p) (h : SqL K H l xs) : SqL K G l xs := by
  rcases h with (h | ⟨o, h⟩) | h
  · exact .inl (.inl (a.keep _ _ h n))
  · exact .inl (.inr ⟨o, a.keep _ _ h n⟩)
  · exact .inr h
theorem at_in {α : Type} {xs : List α} {d : Int} (h0 : 0 ≤ d) (h1 : d < (xs.length : Int)) : ∃ v, v ∈ xs ∧ atI xs d = some v := by
  obtain ⟨j, rfl⟩ := Int.eq_ofNat_of_zero_le h0
  have hj : j < xs.length := by omega
  exact ⟨xs[j], List.getElem_mem hj, atI_nat (List.getElem?_eq_getElem hj)⟩
theorem cal_oneOf (B : Bi mg) (D : At K mg "_law_one_of" s_law_one_of ps_law_one_of) (C_law_ladle : Cal P w K mg base 1 "_law_ladle" ps_law_ladle spLadle) : Cal P w K mg base 2 "_law_one_of" ps_law_one_of (spOneOf K) := by
  refine D.cal sc_law_one_of (fun vs H Q E h => ?_) (fun f cdv A outer s H vs Q E hr h => ?_)
  · obtain ⟨p, _, ⟨l, xs, rfl, _⟩ | ⟨z, rfl, _⟩⟩ := h
    · rfl
    · rfl
  · refine ⟨_, (pss_one (ps_ret (pe_ix ix_seq (pv 1) (pe_own C_law_ladle hr (by decide) (by rfl) (pa_cons (pv 0) (pa_cons (pe_callB call_len (by rfl) B.len (by decide +kernel) (pa_cons (pv 1) pa_nil)) pa_nil))) (fun _ _ => rfl)))), ?_⟩
    obtain ⟨p, hp, ⟨l, xs, rfl, hl, np, l0, l1, k⟩ | ⟨z, rfl, l0, l1, k⟩⟩ := h
    · refine ⟨_, rfl, _, rfl, _, rfl, _, _, rfl, .inl ⟨_, hl, rfl⟩, p, _, rfl, hp, by omega, by omega, fun d G d0 d1 L => ?_⟩
      obtain ⟨v, hv, ha⟩ := at_in (xs := xs) d0 d1
      exact .inl ⟨l, xs, d, v, rfl, rfl, L.seq np hl, ha, k v G hv L⟩
    · have ez : z.length = z.cps.toList.length := rfl
      refine ⟨_, rfl, _, rfl, _, rfl, _, _, rfl, ⟨Nat.le_of_lt (small1000 (by omega)), rfl⟩, p, _, rfl, hp, by omega, by omega, fun d G d0 d1 L => ?_⟩
      obtain ⟨c, hc, ha⟩ := at_in (xs := z.cps.toList) d0 (by omega)
      exact .inr (.inr ⟨z, d, c, rfl, rfl, Nat.le_of_lt (small1000 (by omega)), ha, k c G hc L⟩)
/-! ### _law_pot -/
def spPot (K : PySem.W.Frag) : Sp := fun vs H Q _ => ∃ (a : Addr) (k : Nat) (ns : List Int), vs = [.ref a, .int (k : Int)] ∧ SqL K H a (ns.map V.int) ∧ k < 1000 ∧ ∀ p G, H p = none → Pot G p → Same H G → Q (.ref p) G
theorem cal_pot (B : Bi mg) (D : At K mg "_law_pot" s_law_pot ps_law_pot) : Cal P w K mg base 1 "_law_pot" ps_law_pot (spPot K) := by
  refine D.cal sc_law_pot (fun vs H Q E h => ?_) (fun f cdv A outer s H vs Q E hr h => ?_)
  · obtain ⟨a, k, ns, rfl, _⟩ := h
    rfl
  · obtain ⟨a, k, ns, rfl, hS, hk, q⟩ := h
    refine ⟨_, (pss_cons (ps_set (i := 2) sc_law_pot.nd rfl (.inl rfl) (pe_mid (pe_ifExp (pt_cmpR op_lt (pv 1) (pe_callB call_len_seq (by rfl) B.len (by decide +kernel) (pa_cons (pv 0) pa_nil)) (nomark _)) (pe_callTy call_int1 (by rfl) B.int (by decide +kernel) (pa_cons (pe_ix ix_list (pv 0) (pv 1) (fun _ _ => rfl)) pa_nil)) (pe_op op_add (pe_op op_mul pe_int (pv 1)) pe_int))))
      (pss_cons (ps_set (i := 3) sc_law_pot.nd rfl (.inl rfl) (pe_op op_add pe_int (pe_op op_mul pe_int (pv 1))))
      (pss_cons (ps_for PassesOwn.never rfl (pi_list (pe_slice sl_list (pv 0) po_none (po_some pe_int))) (pg_name (i := 4) sc_law_pot.nd rfl (.inl rfl))
      (pss_one (ps_set (i := 3) sc_law_pot.nd rfl (.inl rfl) (pe_op op_mod (pe_callTy call_int1 (by rfl) B.int (by decide +kernel) (pa_cons (pe_op op_add (pe_op op_mul (pv 3) pe_int) (pe_op op_mod (pe_callTy call_int1 (by rfl) B.int (by decide +kernel) (pa_cons (pv 4) pa_nil)) pe_int)) pa_nil)) pe_int))))
      (pss_one (ps_ret (pe_lst (pa_cons (pe_mid (pe_ifExp (PW.pt (pw_or (pt_cmpR op_lt (pv 2) pe_int (nomark _)) (pw_or1 (pt_cmpR op_ge (pv 2) (pe_op op_pow pe_int pe_int) (nomark _))))) (pe_callB call_abs (by rfl) B.abs (by decide +kernel) (pa_cons (pv 2) pa_nil)) pe_int)) (pa_cons pe_int (pa_cons (pe_op op_mod (pe_callTy call_int1 (by rfl) B.int (by decide +kernel) (pa_cons (pe_op op_add (pe_op op_mul (pv 3) pe_int) (pe_op op_mod (pv 2) pe_int)) pa_nil)) pe_int) pa_nil))))))))), ?_⟩
    refine ⟨fun v G => (∃ i : Int, v = .int i) ∧ G = H, ?_, ?_⟩
    · refine ⟨_, rfl, _, rfl, a, _, rfl, .inl hS, _, _, rfl, rfl, _, rfl, ite2 (fun e => ?_) (fun _ => ?_)⟩
      · have hlt := of_decide_eq_true e
        have hj : k < ns.length := by
          rw [List.length_map] at hlt
          omega
        refine ⟨_, rfl, _, rfl, a, _, _, _, rfl, rfl, hS, atI_nat (j := k) (v := .int ns[k]) (by rw [List.getElem?_map, List.getElem?_eq_getElem hj]; rfl), .inl ⟨_, rfl, ⟨_, rfl⟩, rfl⟩⟩
      · refine ⟨_, rfl, _, _, rfl, rfl, .inl ⟨by decide, by decide⟩, _, _, rfl, rfl, ⟨_, rfl⟩, rfl⟩
    · rintro _ H0 ⟨⟨own, rfl⟩, eH⟩
      subst eH
      refine ⟨_, rfl, _, _, rfl, rfl, .inl ⟨by decide, by decide⟩, _, _, rfl, rfl, ?_⟩
      refine ⟨_, rfl, 14, rfl, a, _, rfl, hS, fun c nc => ?_⟩
      have sc : Same H0 (upd H0 c (.lst (cutV (ns.map V.int) none (some 14)))) := same_new nc
      have hC : cutV (ns.map V.int) none (some 14) = (ns.take 14).map V.int := by
        unfold cutV
        rw [HT.sIx_none, show HT.sIx (ns.map V.int).length (ns.map V.int).length (some 14) = min 14 (ns.map V.int).length from HT.sIx_nat _ _ 14, List.drop_zero, Nat.sub_zero, List.map_take, List.take_eq_take_iff]
        omega
      refine ⟨c, rfl, ⟨_, .inl (.inl upd_same)⟩, for_list (K := K) (a := c) (xs := (ns.take 14).map V.int) (fun i σ J => ∃ (mx : Int) (u : Option V), σ = [some (.ref a), some (.int (k : Int)), some (.int own), some (.int mx), u] ∧ Same H0 J ∧ J c = some (.lst ((ns.take 14).map V.int)))
        ⟨_, none, rfl, sc, by rw [upd_same, hC]⟩ (fun i σ J _ ⟨_, _, _, _, e⟩ => .inl (.inl e)) ?_ ?_⟩
      · rintro i v σ J hi ⟨mx, u, rfl, sJ, eJ⟩
        obtain ⟨t, rfl⟩ : ∃ t, v = V.int t := by
          rw [List.getElem?_map] at hi
          cases e : (ns.take 14)[i]? with
          | none =>
            rw [e] at hi
            cases hi
          | some t =>
            rw [e] at hi
            exact ⟨t, (Option.some.inj hi).symm⟩
        refine ⟨_, rfl, _, _, rfl, rfl, .inr ⟨by decide, by decide⟩, _, rfl, .inl ⟨_, rfl, _, _, rfl, rfl, (by decide : (0 : Int) < 1999999889), _, _, rfl, rfl, .inl ⟨_, rfl, _, _, rfl, rfl, (by decide : (0 : Int) < 1999999889), ?_⟩⟩⟩
        exact ⟨_, _, rfl, sJ, eJ⟩
      · rintro σ J ⟨mx, u, rfl, sJ, eJ⟩
        refine ⟨fun v J1 => (∃ i : Int, v = .int i) ∧ J1 = J, ?_, ?_⟩
        · refine ⟨_, rfl, _, _, rfl, rfl, _, rfl, ite2 (fun _ => ?_) (fun _ => ?_)⟩
          · refine iteT ⟨_, rfl, _, rfl, ⟨_, rfl⟩, rfl⟩
          · refine ⟨_, rfl, _, _, rfl, rfl, ⟨by decide, by decide, by decide⟩, _, _, rfl, rfl, _, rfl, ite2 (fun _ => ⟨_, rfl, _, rfl, ⟨_, rfl⟩, rfl⟩) (fun _ => ⟨⟨_, rfl⟩, rfl⟩)⟩
        · rintro _ _ ⟨⟨x, rfl⟩, rfl⟩
          refine ⟨_, rfl, _, _, rfl, rfl, .inr ⟨by decide, by decide⟩, _, rfl, _, _, rfl, rfl, (by decide : (0 : Int) < 1999999889), _, _, rfl, rfl, .inl ⟨_, rfl, _, _, rfl, rfl, (by decide : (0 : Int) < 1999999889), ?_⟩⟩
          refine ⟨by show 3 ≤ sizeLine; decide, fun p np => ?_⟩
          exact q p _ (sJ.free np) ⟨_, _, _, upd_same⟩ (sJ.trans (same_new np))
end
end Gu
namespace Gu
open PySem PySem.Spec PyProof.Rows L2
/-! ### _law_told -/
def marks : List Str := ["", "~", "..", "...", "a.b", "~"]
/-- four things as they are drawn -/
structure Four (l h t : Int) (z : Str) : Prop where
  l0 : 0 ≤ l
  l1 : l ≤ 40
  h0 : 0 ≤ h
  h1 : h ≤ 40
  t0 : 0 ≤ t
  t1 : t ≤ 40
  z : z ∈ marks
theorem marks_len {z : Str} (h : z ∈ marks) : z.cps.toList.length ≤ 3 := by
  have a : ∀ y ∈ marks, y.cps.toList.length ≤ 3 := by decide +kernel
  exact a z h
end Gu
namespace Gu
open PySem PySem.Spec PyProof.Rows L2
/-! ### _law_tolds -/
structure Rec where
  l : Int
  h : Int
  t : Int
  z : Str
def Rec.vs (r : Rec) : List V := [.int r.l, .int r.h, .int r.t, .str r.z]
def Rec.ok (r : Rec) : Prop := Four r.l r.h r.t r.z
theorem Pot.ne {H : Hp} {p q : Addr} (h : Pot H p) (n : H q = none) : q ≠ p := fun e => by
  subst e
  obtain ⟨o, ho⟩ := h.some
  rw [n] at ho
  cases ho
theorem yes {σ : L2.St} {H : Hp} {Q : Bool → Hp → Prop} (h : Q true H) : tYes σ H Q := h
section
variable {P : Program} {w : World} {K : PySem.W.Frag} {mg : Str → Option Value} {base : Heap}
/-- told tuples: a list of them at D -/
structure ToldsAt (G : Hp) (D : Addr) (ps : List (Addr × Rec)) : Prop where
  ls : G D = some (.lst (ps.map fun q => V.ref q.1))
  tp : ∀ q ∈ ps, G q.1 = some (.tup q.2.vs) ∧ q.2.ok
end
end Gu
namespace Gu
open PySem PySem.Spec PyProof.Rows L2
/-! ### is_integer, is_text -/
/-- isinstance(x, T) is b -/
def Isa (K : PySem.W.Frag) (H : Hp) (x : V) (T : String) (b : Bool) : Prop := ∃ t, TyX K H x t ∧ PySem.W.kitOne K t (.type T) = some b
def signs : Str := ".0123456789abcdefghijklmnopqrstuvwxyz~"
def isTxt (z : Str) (m : Int) : Bool := decide ((z.length : Int) ≤ m) && z.cps.toList.all fun c => decide (c ∈ signs.cps.toList)
section
variable {P : Program} {w : World} {K : PySem.W.Frag} {mg : Str → Option Value} {base : Heap}
theorem Isa.int_int {H : Hp} {i : Int} : Isa K H (.int i) "int" true := ⟨_, .base (.int i), kit_ty (by decide +kernel)⟩
theorem Isa.int_bool {H : Hp} {i : Int} : Isa K H (.int i) "bool" false := ⟨_, .base (.int i), kit_ty (by decide +kernel)⟩
theorem Isa.str_str {H : Hp} {z : Str} : Isa K H (.str z) "str" true := ⟨_, .base (.str z), kit_ty (by decide +kernel)⟩
def spIsInteger (K : PySem.W.Frag) : Sp := fun vs H Q _ => ∃ (x : V) (a b : Int), vs = [x, .int a, .int b] ∧
  ((∃ v, x = .int v ∧ Q (.bl (decide (a ≤ v ∧ v ≤ b))) H) ∨ (Isa K H x "int" false ∧ Q (.bl false) H) ∨ (Isa K H x "int" true ∧ Isa K H x "bool" true ∧ Q (.bl false) H))
theorem cal_isInteger (B : Bi mg) (D : At K mg "is_integer" s_is_integer ps_is_integer) : Cal P w K mg base 1 "is_integer" ps_is_integer (spIsInteger K) := by
  refine D.cal sc_is_integer (fun vs H Q E h => ?_) (fun f cdv A outer s H vs Q E hr h => ?_)
  · obtain ⟨x, a, b, rfl, _⟩ := h
    rfl
  · obtain ⟨x, a, b, rfl, h⟩ := h
    refine ⟨_, (pss_cons (ps_if (PW.pt (pw_or (pt_not (pt_val (pe_callB call_isi (by rfl) B.isinstance (by decide +kernel) (pa_cons (pv 0) (pa_cons (pe_bltn (v := .ty "int") (by rfl) B.int (by decide +kernel) rfl) pa_nil))))) (pw_or1 (pt_val (pe_callB call_isi (by rfl) B.isinstance (by decide +kernel) (pa_cons (pv 0) (pa_cons (pe_bltn (v := .ty "bool") (by rfl) B.bool (by decide +kernel) rfl) pa_nil))))))) (pss_one (ps_ret pe_bl)) pss_nil)
      (pss_one (ps_ret (pe_chain op_le op_le (pv 1) (pv 0) (pv 2))))), ?_⟩
    rcases h with ⟨v, rfl, k⟩ | ⟨⟨t, i1, i2⟩, k⟩ | ⟨⟨t, i1, i2⟩, ⟨t', j1, j2⟩, k⟩
    · obtain ⟨t, i1, i2⟩ := Isa.int_int (K := K) (H := H) (i := v)
      obtain ⟨t', j1, j2⟩ := Isa.int_bool (K := K) (H := H) (i := v)
      refine ⟨_, rfl, _, _, t, _, true, rfl, .ty _, i1, i2, _, rfl, iteF ⟨_, rfl, _, _, t', _, false, rfl, .ty _, j1, j2, _, rfl, iteF ?_⟩⟩
      refine ⟨_, rfl, _, rfl, _, _, rfl, rfl, _, rfl, ?_⟩
      by_cases e1 : a ≤ v
      · rw [decide_eq_true e1]
        refine iteT ⟨_, rfl, _, _, rfl, rfl, ?_⟩
        have e : decide (a ≤ v ∧ v ≤ b) = decide (v ≤ b) := by simp only [e1, true_and]
        rw [e] at k
        exact k
      · rw [decide_eq_false e1]
        refine iteF ?_
        have e : decide (a ≤ v ∧ v ≤ b) = false := by simp only [e1, false_and, decide_false]
        rw [e] at k
        exact k
    · refine ⟨_, rfl, _, _, t, _, false, rfl, .ty _, i1, i2, _, rfl, iteT (iteT k)⟩
    · refine ⟨_, rfl, _, _, t, _, true, rfl, .ty _, i1, i2, _, rfl, iteF ⟨_, rfl, _, _, t', _, true, rfl, .ty _, j1, j2, _, rfl, iteT k⟩⟩
def spIsText (K : PySem.W.Frag) : Sp := fun vs H Q _ => ∃ (x : V) (m : Int), vs = [x, .int m] ∧
  ((∃ z : Str, x = .str z ∧ z.length ≤ 1000 ∧ ∀ G, Same H G → Q (.bl (isTxt z m)) G) ∨ (Isa K H x "str" false ∧ Q (.bl false) H))
theorem cal_isText (B : Bi mg) (D : At K mg "is_text" s_is_text ps_is_text) : Cal P w K mg base 1 "is_text" ps_is_text (spIsText K) := by
  refine D.cal sc_is_text (fun vs H Q E h => ?_) (fun f cdv A outer s H vs Q E hr h => ?_)
  · obtain ⟨x, m, rfl, _⟩ := h
    rfl
  · obtain ⟨x, m, rfl, h⟩ := h
    refine ⟨_, (pss_cons (ps_if (PW.pt (pw_or (pt_not (pt_val (pe_callB call_isi (by rfl) B.isinstance (by decide +kernel) (pa_cons (pv 0) (pa_cons (pe_bltn (v := .ty "str") (by rfl) B.str (by decide +kernel) rfl) pa_nil))))) (pw_or1 (pt_cmpR op_gt (pe_callB call_len (by rfl) B.len (by decide +kernel) (pa_cons (pv 0) pa_nil)) (pv 1) (nomark _))))) (pss_one (ps_ret pe_bl)) pss_nil)
      (pss_one (ps_ret (pe_callB (cr_all rfl) (by rfl) B.all (by decide +kernel) (pa_cons (pe_lc (own := [("character", 2)]) (by rfl) sc_is_text.nd (pi_str (pv 0)) (blkOk_by (own := [("character", 2)]) (N := ["value", "most", "character"]) (sc := defScope s_is_text) (by decide +kernel)) (fun _ _ _ _ _ => pg_name (i := 2) sc_is_text.nd rfl (.inl rfl)) (fun _ _ _ _ _ => pts_nil) (fun _ _ _ _ _ => (pe_cmpR op_in_sign (pv 2) (pe_cst B.SIGNS (by rfl)) (by rfl)))) pa_nil))))), ?_⟩
    rcases h with ⟨z, rfl, zl, k⟩ | ⟨⟨t, i1, i2⟩, k⟩
    · obtain ⟨t, i1, i2⟩ := Isa.str_str (K := K) (H := H) (z := z)
      refine ⟨_, rfl, _, _, t, _, true, rfl, .ty _, i1, i2, _, rfl, iteF ⟨_, rfl, _, _, rfl, ⟨Nat.le_of_lt (small1000 zl), rfl⟩, _, rfl, _, _, rfl, rfl, _, rfl, ite2 (fun e => ?_) (fun e => ?_)⟩⟩
      · have e1 : ¬ (z.length : Int) ≤ m := by
          have := of_decide_eq_true e
          omega
        have e2 : isTxt z m = false := by
          unfold isTxt
          rw [decide_eq_false e1, Bool.false_and]
        rw [e2] at k
        exact k H (Same.refl H)
      · have e1 : (z.length : Int) ≤ m := by
          have h2 : ¬ m < (z.length : Int) := fun h3 => e (decide_eq_true h3)
          omega
        refine ⟨_, rfl, z, rfl, fun D nD => lc_it walk_str (fun i J => Same H J ∧ J D = some (.lst (((z.cps.toList.take i).map fun c => decide (c ∈ signs.cps.toList)).map V.bl)))
          ⟨same_new nD, by rw [upd_same]; rfl⟩ (fun _ _ _ _ => trivial) ?_ ?_⟩
        · rintro i v J _ hi ⟨sJ, eJ⟩ ⟨rfl, c, hc, rfl⟩
          refine ⟨rfl, yes (iteT ?_)⟩
          refine ⟨_, rfl, c, signs, rfl, rfl, _, eJ, small1000 ?_, ?_, ?_⟩
          · rw [List.length_map, List.length_map, List.length_take]
            have : z.length = z.cps.toList.length := rfl
            omega
          · exact fun b o e => by
              rw [upd_ne (ne_of_none e nD)]
              exact sJ b o e
          · rw [upd_same]
            have hc' : z.cps.toList[i]? = some c := by
              rw [← Array.getElem?_toList] at hc
              exact hc
            rw [List.take_add_one, hc', List.map_append, List.map_append]
            rfl
        · rintro J ⟨sJ, eJ⟩
          refine ⟨D, ((z.cps.toList.take z.cps.size).map fun c => decide (c ∈ signs.cps.toList)), rfl, .inl (.inl eJ), ?_⟩
          have e2 : ((z.cps.toList.take z.cps.size).map fun c => decide (c ∈ signs.cps.toList)).all id = isTxt z m := by
            unfold isTxt
            rw [decide_eq_true e1, Bool.true_and, List.take_of_length_le (show z.cps.toList.length ≤ z.cps.size from Nat.le_refl _), List.all_map]
            rfl
          rw [e2]
          exact k J sJ
    · refine ⟨_, rfl, _, _, t, _, false, rfl, .ty _, i1, i2, _, rfl, iteT (iteT k)⟩
end
end Gu
namespace Gu
open PySem PySem.Spec PyProof.Rows L2
/-! ### is_tuple -/
theorem isaTupP {K : PySem.W.Frag} {H : Hp} {l : Addr} {xs : List V} (h : SqT K H l xs) : Isa K H (.ref l) "tuple" true := by
  rcases h with (h | ⟨o, h⟩) | ⟨o, its, n, e, c, _⟩
  · exact ⟨_, .base (.tup h), kit_ty (by decide +kernel)⟩
  · exact ⟨_, .fTuple h, kit_ty (by decide +kernel)⟩
  · exact ⟨_, .kTuple e c, kit_ty (by decide +kernel)⟩
section
variable {P : Program} {w : World} {K : PySem.W.Frag} {mg : Str → Option Value} {base : Heap} {C : Addr}
def spIsTuple (K : PySem.W.Frag) : Sp := fun vs H Q _ => ∃ (x : V) (a b : Int), vs = [x, .int a, .int b] ∧
  ((∃ (l : Addr) (xs : List V), x = .ref l ∧ SqT K H l xs ∧ Q (.bl (decide (a ≤ (xs.length : Int) ∧ (xs.length : Int) ≤ b))) H) ∨ (Isa K H x "tuple" false ∧ Q (.bl false) H))
theorem cal_isTuple (B : Bi mg) (D : At K mg "is_tuple" s_is_tuple ps_is_tuple) : Cal P w K mg base 1 "is_tuple" ps_is_tuple (spIsTuple K) := by
  refine D.cal sc_is_tuple (fun vs H Q E h => ?_) (fun f cdv A outer s H vs Q E hr h => ?_)
  · obtain ⟨x, a, b, rfl, _⟩ := h
    rfl
  · obtain ⟨x, a, b, rfl, h⟩ := h
    refine ⟨_, (pss_one (ps_ret (pe_and (pe_callB call_isi (by rfl) B.isinstance (by decide +kernel) (pa_cons (pv 0) (pa_cons (pe_bltn (v := .ty "tuple") (by rfl) B.tuple (by decide +kernel) rfl) pa_nil))) (pe_one (pe_chain op_le op_le (pv 1) (pe_callB call_len (by rfl) B.len (by decide +kernel) (pa_cons (pv 0) pa_nil)) (pv 2)))))), ?_⟩
    rcases h with ⟨l, xs, rfl, hT, k⟩ | ⟨⟨t, i1, i2⟩, k⟩
    · obtain ⟨t, i1, i2⟩ := isaTupP hT
      refine ⟨_, rfl, _, _, t, _, true, rfl, .ty _, i1, i2, _, rfl, iteT ?_⟩
      refine ⟨_, rfl, _, rfl, _, _, rfl, .inr ⟨_, hT, rfl⟩, _, _, rfl, rfl, _, rfl, ?_⟩
      by_cases e1 : a ≤ (xs.length : Int)
      · rw [decide_eq_true e1]
        refine iteT ⟨_, rfl, _, _, rfl, rfl, ?_⟩
        have e : decide (a ≤ (xs.length : Int) ∧ (xs.length : Int) ≤ b) = decide ((xs.length : Int) ≤ b) := by simp only [e1, true_and]
        rw [e] at k
        exact k
      · rw [decide_eq_false e1]
        refine iteF ?_
        have e : decide (a ≤ (xs.length : Int) ∧ (xs.length : Int) ≤ b) = false := by simp only [e1, false_and, decide_false]
        rw [e] at k
        exact k
    · exact ⟨_, rfl, _, _, t, _, false, rfl, .ty _, i1, i2, _, rfl, iteF k⟩
end
end Gu
namespace Gu
open PySem PySem.Spec PyProof.Rows L2
/-! ### the class Shortener, its __init__ -/
def flds (r : Rec) (b : Addr) : List (Str × V) := putF "told" (.ref b) (putF "mark" (.str r.z) (putF "tail" (.int r.t) (putF "head" (.int r.h) (putF "limit" (.int r.l) []))))
theorem flds_limit (r : Rec) (b : Addr) : (flds r b).lookup ("limit" : Str) = some (.int r.l) := by
  unfold flds
  rw [lookup_putF, if_neg (by decide +kernel), lookup_putF, if_neg (by decide +kernel), lookup_putF, if_neg (by decide +kernel), lookup_putF, if_neg (by decide +kernel), lookup_putF, if_pos rfl]
theorem flds_head (r : Rec) (b : Addr) : (flds r b).lookup ("head" : Str) = some (.int r.h) := by
  unfold flds
  rw [lookup_putF, if_neg (by decide +kernel), lookup_putF, if_neg (by decide +kernel), lookup_putF, if_neg (by decide +kernel), lookup_putF, if_pos rfl]
theorem flds_tail (r : Rec) (b : Addr) : (flds r b).lookup ("tail" : Str) = some (.int r.t) := by
  unfold flds
  rw [lookup_putF, if_neg (by decide +kernel), lookup_putF, if_neg (by decide +kernel), lookup_putF, if_pos rfl]
theorem flds_mark (r : Rec) (b : Addr) : (flds r b).lookup ("mark" : Str) = some (.str r.z) := by
  unfold flds
  rw [lookup_putF, if_neg (by decide +kernel), lookup_putF, if_pos rfl]
theorem flds_told (r : Rec) (b : Addr) : (flds r b).lookup ("told" : Str) = some (.ref b) := by
  unfold flds
  rw [lookup_putF, if_pos rfl]
/-- what a Shortener may be made of -/
structure Rec.fit (r : Rec) : Prop where
  l : 0 ≤ r.l ∧ r.l ≤ 40
  h : 0 ≤ r.h ∧ r.h ≤ 40
  t : 0 ≤ r.t ∧ r.t ≤ 40
  z : isTxt r.z 3 = true
theorem isTxt_len {z : Str} {m : Int} (h : isTxt z m = true) : (z.length : Int) ≤ m := by
  unfold isTxt at h
  rw [Bool.and_eq_true] at h
  exact of_decide_eq_true h.1
theorem Rec.ok.fit {r : Rec} (o : r.ok) : r.fit := by
  have a : ∀ y ∈ marks, isTxt y 3 = true := by decide +kernel
  exact ⟨⟨o.l0, o.l1⟩, ⟨o.h0, o.h1⟩, ⟨o.t0, o.t1⟩, a _ o.z⟩
/-- the class as the top has left it -/
structure ShC (K : PySem.W.Frag) (mg : Str → Option Value) (C : Addr) : Prop where
  cl : Cls K C
  nL : NoAttr K C "limit"
  nH : NoAttr K C "head"
  nT : NoAttr K C "tail"
  nM : NoAttr K C "mark"
  nD : NoAttr K C "told"
  g : mg "Shortener" = some (.ref C)
  ha : PySem.W.findIn K (.ref C) "__class__" = some (some (.builtin "object.__class__"))
  hn : PySem.W.specialIn K (.builtin "object.__class__") "__get__" = some (some (.builtin "getset_descriptor.__get__"))
  ht : PySem.W.takesIn K (.builtin "object.__class__") = some true
  hm : PySem.W.mroIn K C (.type "object") = some true
  kk : PySem.W.kitOne K (.ref C) (.ref C) = some true
structure InitAt (K : PySem.W.Frag) (C : Addr) : Prop where
  ex : ∃ (f : Addr) (fd : FuncData), Mk K C f ∧ Fun K "__init__" "Shortener.__init__" s_Shortener_init f fd ∧ Binds K fd ps_Shortener_init []
structure Mak (P : Program) (w : World) (K : PySem.W.Frag) (mg : Str → Option Value) (base : Heap) (k : Nat) (x : Str) (C : Addr) (sp : Sp) : Prop where
  ex : ∃ (f : Addr) (fd : FuncData) (ps : List Str), Mk K C f ∧ FnOk P w K mg base CX0 k f fd ps sp ∧ mg x = some (.ref C) ∧ Binds K fd ps []
section
variable {X : Cx} {k j : Nat} {x : Str} {C : Addr} {sp : Sp} {p pos : Pos} {e : Expr} {es : List Expr} {t : TA}
theorem pe_new (c : Mak X.prog X.w X.K X.mg X.base k x C sp) (hr : Room j X.A) (hk : k + 1 ≤ j) (hg : Gl X x) (ha : PA X (e :: es) t)
    (hdb : (x == ("__debug__" : Str)) = false := by decide) (he : starEach (e :: es) X.env = (false, eval e X.env) :: starEach es X.env := by rfl) (hpl : (backTo pos (starEach es X.env)).any (·.1) = false := by rfl) :
    PE X (.Call (.Name x p) (e :: es) [] pos) (tMake C sp [] E0 t) := by
  obtain ⟨f, fd, ps, M, F, hm, b⟩ := c.ex
  exact pe_make M F (hr.mono hk) hg hm b .nil pass0 ha hdb he hpl
end
section
variable {P : Program} {w : World} {K : PySem.W.Frag} {mg : Str → Option Value} {base : Heap} {C : Addr}
def spCheckMark : Sp := fun vs H Q _ => ∃ (z : Str), vs = [.str z] ∧ isTxt z 3 = true ∧ ∀ G, Same H G → Q .non G
theorem cal_checkMark (B : Bi mg) (D : At K mg "check_mark" s_check_mark ps_check_mark) (C_is_text : Cal P w K mg base 1 "is_text" ps_is_text (spIsText K)) : Cal P w K mg base 2 "check_mark" ps_check_mark spCheckMark := by
  refine D.cal sc_check_mark (fun vs H Q E h => ?_) (fun f cdv A outer s H vs Q E hr h => ?_)
  · obtain ⟨z, rfl, _⟩ := h
    rfl
  · obtain ⟨z, rfl, hz, k⟩ := h
    have zl := isTxt_len hz
    refine ⟨_, (pss_one (ps_if (pt_not (pt_val (pe_own C_is_text hr (by decide) (by rfl) (pa_cons (pv 0) (pa_cons (pe_cst B.MOST_MARK (by rfl)) pa_nil))))) pss_never pss_nil)), ?_⟩
    refine ⟨_, rfl, _, _, rfl, .inl ⟨z, rfl, by omega, fun G sG => ⟨_, rfl, ?_⟩⟩⟩
    rw [hz]
    exact iteF (k G sG)
def spInit (C : Addr) : Sp := fun vs H Q _ => ∃ (x dx : Addr) (r : Rec), vs = [.ref x, .int r.l, .int r.h, .int r.t, .str r.z] ∧ H x = some (.ins C dx []) ∧ r.fit ∧
  ∀ (b : Addr) (G : Hp), H b = none → G x = some (.ins C dx (flds r b)) → G b = some (.tup r.vs) → (∀ c o, H c = some o → c ≠ x → G c = some o) → Q .non G
theorem ok_init {f : Addr} {fd : FuncData} (B : Bi mg) (S : ShC K mg C) (F : Fun K "__init__" "Shortener.__init__" s_Shortener_init f fd) (C_is_integer : Cal P w K mg base 1 "is_integer" ps_is_integer (spIsInteger K)) (C_check_mark : Cal P w K mg base 2 "check_mark" ps_check_mark spCheckMark) : FnOk P w K mg base CX0 3 f fd ps_Shortener_init (spInit C) := by
  refine F.ok sc_Shortener_init (fun vs H Q E h => ?_) (fun cdv A outer s H vs Q E hr h => ?_)
  · obtain ⟨x, dx, r, rfl, _⟩ := h
    rfl
  · obtain ⟨x, dx, r, rfl, hx, fit, k⟩ := h
    refine ⟨_, (pss_cons (ps_for PassesOwn.never rfl (pi_tup (pe_tup (pa_cons (pv 1) (pa_cons (pv 2) (pa_cons (pv 3) pa_nil))))) (pg_name (i := 5) sc_Shortener_init.nd rfl (.inl rfl))
      (pss_one (ps_if (pt_not (pt_val (pe_own C_is_integer hr (by decide) (by rfl) (pa_cons (pv 5) (pa_cons pe_int (pa_cons (pe_cst B.MOST_SIGNS (by rfl)) pa_nil)))))) pss_never pss_nil)))
      (pss_cons (ps_expr (pe_own C_check_mark hr (by decide) (by rfl) (pa_cons (pv 4) pa_nil)))
      (pss_cons (ps_fld (pv 0) (pv 1) rfl)
      (pss_cons (ps_fld (pv 0) (pv 2) rfl)
      (pss_cons (ps_fld (pv 0) (pv 3) rfl)
      (pss_cons (ps_fld (pv 0) (pv 4) rfl)
      (pss_one (ps_fld (pv 0) (pe_tup (pa_cons (pv 1) (pa_cons (pv 2) (pa_cons (pv 3) (pa_cons (pv 4) pa_nil))))) rfl)))))))), ?_⟩
    refine ⟨_, rfl, _, rfl, _, rfl, by show 3 ≤ sizeLine; decide, fun T nT => ?_⟩
    have nxT : x ≠ T := ne_of_none hx nT
    have hxT : upd H T (.tup [.int r.l, .int r.h, .int r.t]) x = some (.ins C dx []) := by rw [upd_ne nxT]; exact hx
    refine ⟨T, rfl, ⟨_, .inl (.inl upd_same)⟩, for_tup (K := K) (a := T) (xs := [.int r.l, .int r.h, .int r.t]) (fun i σ J => ∃ u, σ = [some (.ref x), some (.int r.l), some (.int r.h), some (.int r.t), some (.str r.z), u] ∧ J = upd H T (.tup [.int r.l, .int r.h, .int r.t]))
      ⟨none, rfl, rfl⟩ (fun i σ J _ ⟨_, _, e⟩ => by rw [e]; exact .inl (.inl upd_same)) ?_ ?_⟩
    · rintro i v σ J hi ⟨u, rfl, rfl⟩
      obtain ⟨n, n0, n1, rfl⟩ : ∃ n : Int, 0 ≤ n ∧ n ≤ 40 ∧ v = .int n := by
        have hv := List.mem_of_getElem? hi
        simp only [List.mem_cons, List.not_mem_nil, or_false] at hv
        rcases hv with rfl | rfl | rfl
        · exact ⟨_, fit.l.1, fit.l.2, rfl⟩
        · exact ⟨_, fit.h.1, fit.h.2, rfl⟩
        · exact ⟨_, fit.t.1, fit.t.2, rfl⟩
      refine ⟨_, rfl, _, _, _, rfl, .inl ⟨_, rfl, _, rfl, ?_⟩⟩
      rw [decide_eq_true ⟨n0, n1⟩]
      exact iteF ⟨_, rfl, rfl⟩
    · rintro σ J ⟨u, rfl, rfl⟩
      refine ⟨_, rfl, _, rfl, fit.z, fun G sG => ?_⟩
      have g0 : G x = some (.ins C dx []) := sG _ _ hxT
      refine ⟨_, rfl, _, rfl, x, C, dx, [], rfl, g0, S.cl, S.nL, by decide, ?_⟩
      refine ⟨_, rfl, _, rfl, x, C, dx, _, rfl, upd_same, S.cl, S.nH, by exact Nat.lt_of_le_of_lt (length_putF _ _ _) (by decide), ?_⟩
      rw [upd_upd]
      refine ⟨_, rfl, _, rfl, x, C, dx, _, rfl, upd_same, S.cl, S.nT, by exact Nat.lt_of_le_of_lt (length_putF _ _ _) (Nat.lt_of_le_of_lt (Nat.succ_le_succ (length_putF _ _ _)) (by decide)), ?_⟩
      rw [upd_upd]
      refine ⟨_, rfl, _, rfl, x, C, dx, _, rfl, upd_same, S.cl, S.nM, by exact Nat.lt_of_le_of_lt (length_putF _ _ _) (Nat.lt_of_le_of_lt (Nat.succ_le_succ (Nat.le_trans (length_putF _ _ _) (Nat.succ_le_succ (length_putF _ _ _)))) (by decide)), ?_⟩
      rw [upd_upd]
      refine ⟨_, rfl, _, rfl, _, rfl, _, rfl, by show 4 ≤ sizeLine; decide, fun b nb => ?_⟩
      have nxb : x ≠ b := ne_of_none upd_same nb
      refine ⟨_, rfl, x, C, dx, _, rfl, (by rw [upd_ne nxb, upd_same]), S.cl, S.nD, by exact Nat.lt_of_le_of_lt (length_putF _ _ _) (Nat.lt_of_le_of_lt (Nat.succ_le_succ (Nat.le_trans (length_putF _ _ _) (Nat.succ_le_succ (Nat.le_trans (length_putF _ _ _) (Nat.succ_le_succ (length_putF _ _ _)))))) (by decide)), ?_⟩
      have nb1 : G b = none := by rw [upd_ne nxb.symm] at nb; exact nb
      have nb0 : H b = none := (same_new nT).free (sG.free nb1)
      refine k b _ nb0 upd_same (by rw [upd_ne nxb.symm, upd_same]; rfl) fun c o e nc => ?_
      rw [upd_ne nc, upd_ne (ne_of_none e nb0), upd_ne nc]
      exact sG _ _ (same_new nT _ _ e)
theorem mak_sh (B : Bi mg) (S : ShC K mg C) (D : InitAt K C) (C_is_integer : Cal P w K mg base 1 "is_integer" ps_is_integer (spIsInteger K)) (C_check_mark : Cal P w K mg base 2 "check_mark" ps_check_mark spCheckMark) : Mak P w K mg base 3 "Shortener" C (spInit C) := by
  obtain ⟨f, fd, M, F, b⟩ := D.ex
  exact ⟨f, fd, ps_Shortener_init, M, ok_init B S F C_is_integer C_check_mark, S.g, b⟩
end
end Gu
namespace PySem
open Sem (wp)
open AutoSeq1 (wpAny_loadPart')
theorem gu_new_enum (a : Addr) (vs : Array Value) (n : Nat) (dt : Option Addr) (sl : Array (Option Value)) : Meets (Builtin.«enumerate.__new__» ⟨[.type "enumerate", .ref a], []⟩) (fun _ R s =>
    s.heap.get? a = some ⟨.type "tuple", dt, .seq vs n, sl⟩ ∧ R (.ok (.ret (.ref (s.heap.push { cls := .type "tuple_iterator", data := .fields #[.ref a, .int 0 0] }).objs.size))) { s with heap := (s.heap.push { cls := .type "tuple_iterator", data := .fields #[.ref a, .int 0 0] }).push { cls := .type "enumerate", data := .fields #[.none, .bool false, .ref s.heap.objs.size, rawInt 0, .none, .none] } }) :=
  .of_wp fun prog w A R s h => by
    obtain ⟨s1, s2, s3, s4, s5⟩ := s
    obtain ⟨ha, h⟩ := h
    have sb := sub_enumerate
    have hT : Heap.IsTuple (Shared.heap ⟨s1, s2, s3, s4, s5⟩) a vs := ⟨_, ha, rfl, n, rfl⟩
    wp_walk using wpAny_loadPart' ha
    refine wpAny_stack_any fun fr => wpAny_pure ?_
    split
    · next c _ _ _ _ _ =>
      cases (c == Value.type "enumerate") <;> (wp_walk using wpAny_loadPart' ha, wpAny_pyIter_tuple hT; exact ⟨_, rfl, h⟩)
    · wp_walk using wpAny_loadPart' ha, wpAny_pyIter_tuple hT
      exact ⟨_, rfl, h⟩
section
variable {prog : Program} {w : World} {A : Around} {E : Value → Shared → Prop} {s : Shared}
theorem gu_call_enum {a : Addr} {vs : Array Value} {Q : Value → Shared → Prop} (hT : s.heap.IsTuple a vs)
    (h : ∀ g, IsEnum g (s.heap.objs.size + 1) s.heap.objs.size 0 .none → g.IsTupleIter s.heap.objs.size a 0 → (∀ b o, s.heap.get? b = some o → g.get? b = some o) → Q (.ref (s.heap.objs.size + 1)) { s with heap := g }) :
    wpAny (model prog w) A (call (.type "enumerate") [.ref a]) Q E s := by
  obtain ⟨⟨oc, od, dd, sl⟩, ha, hc, n, hd⟩ := hT
  cases (show oc = .type "tuple" from hc)
  cases (show dd = .seq vs n from hd)
  refine callType_new F.called_enumerate (by decide) (F.typeCall_enumerate_1 _) (F.newCall_enumerate_1 _) (fun o => F.args_object_init_2 o _) F.entry_enumerate_new (gu_new_enum a vs n od sl) ⟨ha, ?_⟩
  have z1 : (s.heap.push { cls := .type "tuple_iterator", data := .fields #[.ref a, .int 0 0] }).objs.size = s.heap.objs.size + 1 := Heap.size_push ..
  show _ ∧ _
  rw [z1]
  have en : IsEnum ((s.heap.push { cls := .type "tuple_iterator", data := .fields #[.ref a, .int 0 0] }).push { cls := .type "enumerate", data := .fields #[.none, .bool false, .ref s.heap.objs.size, rawInt 0, .none, .none] }) (s.heap.objs.size + 1) s.heap.objs.size 0 .none := by
    have q := Heap.get?_push_size (s.heap.push { cls := .type "tuple_iterator", data := .fields #[.ref a, .int 0 0] }) (o := { cls := .type "enumerate", data := .fields #[.none, .bool false, .ref s.heap.objs.size, rawInt 0, .none, .none] }) rfl
    rw [z1] at q
    exact q
  exact ⟨⟨_, en, rfl⟩, h _ en ⟨_, Heap.get?_push_of_some _ (Heap.get?_push_size _ rfl), rfl, rfl⟩ fun b o x => Heap.get?_push_of_some _ (Heap.get?_push_of_some _ x)⟩
end
end PySem
namespace Gu
open PySem PySem.Spec PyProof.Rows L2
/-- the tuple at a, each item in a new pair with its place -/
def EnT (K : PySem.W.Frag) (a : Addr) : It where
  go := fun i H => ∃ (xs : List V) (x : V), SqT K H a xs ∧ xs[i]? = some x
  yld := fun i H v G => ∃ T x, v = .ref T ∧ H T = none ∧ G = upd H T (.tup [.int (i : Nat), x]) ∧ ∀ xs, SqT K H a xs → xs[i]? = some x
  stop := fun i H => ∃ xs : List V, SqT K H a xs ∧ xs.length = i
theorem turn_enT {P : Program} {w : World} {K : PySem.W.Frag} {es : List Expr} {kk : Nat} {tp : Pos} (a e it : Addr) :
    Turn P w K (.Tuple es kk tp) (EnT K a) [e, it] e (fun i h => (∃ old, IsEnum h e it ((i : Nat) : Int) old) ∧ h.IsTupleIter it a i ∧ e ≠ it) where
  mem := List.mem_cons_self ..
  obj := fun i h st b hb => by
    obtain ⟨⟨old, he⟩, ⟨o, ho, hc, hd⟩, _⟩ := st
    simp only [List.mem_cons, List.not_mem_nil, or_false] at hb
    rcases hb with rfl | rfl
    · exact ⟨_, he, fun v q => nomatch q⟩
    · exact ⟨o, ho, fun v q => by rw [hd] at q; cases q⟩
  keep := fun i h g st k => by
    obtain ⟨⟨old, he⟩, hi, ne⟩ := st
    exact ⟨⟨old, k e (by simp) _ he⟩, hi.at fun o q => k it (by simp) o q, ne⟩
  item := by
    intro X hP hw hK hc i pins s σ H E I hf st hg
    subst hP hw hK
    obtain ⟨⟨old, he⟩, hit, ne⟩ := st
    obtain ⟨xs, x, hq, hx⟩ := hg
    obtain ⟨its, rv, tp, hz⟩ := I.tuple hq
    obtain ⟨u, hu, ru⟩ := rv.get hx
    have el : e < s.heap.objs.size := Heap.lt_size he
    have il : it < s.heap.objs.size := by
      obtain ⟨_, q, _⟩ := hit
      exact Heap.lt_size q
    have tp' : s.heap.IsTuple a its.toArray := tp
    have nai : a ≠ it := fun z => by
      obtain ⟨o1, g1, c1, _⟩ := tp'
      obtain ⟨o2, g2, c2, _⟩ := hit
      rw [z] at g1
      cases g1.symm.trans g2
      exact absurd (Value.type.inj (c1.symm.trans c2)) (by decide)
    have nea : e ≠ a := fun z => by
      obtain ⟨o1, g1, c1, _⟩ := tp'
      have g2 := he
      rw [z] at g2
      cases g1.symm.trans g2
      exact absurd (Value.type.inj c1) (by decide)
    have hd : X.A.in1.handled = none := I.ok.hd hc
    refine wpAny_pyNext_enum_itemD (Draws.tuple hd it a nai its.toArray) he ⟨hit, tp'⟩ (i := i) (by
      have := (List.getElem?_eq_some_iff.mp hu).1
      simpa using this) ne (by simp [ne, nea]) fun y g tk hy ho st' hT hsz hk => ?_
    have ey : y = u := by
      have : its[i]? = some y := by simpa using hy
      rw [hu] at this
      exact (Option.some.inj this).symm
    subst ey
    refine ⟨_, rfl, wpAny_letOwnedTupleGo_enum (s := { s with heap := g, toks := tk + 1 }) ho fun g2 he' sb => ?_⟩
    have hT2 : g2.get? s.heap.objs.size = some { cls := .type "tuple", data := .seq #[.int i tk, y] } := (sb.2 _ (Nat.ne_of_gt el)).trans hT
    have nw : ObjOk X.prog X.w (upd H s.heap.objs.size (.tup [.int (i : Nat), x])) g2 s.heap.objs.size (.tup [.int (i : Nat), x]) := ⟨by show 2 ≤ sizeLine; decide, [.int i tk, y], .cons ⟨_, rfl⟩ (.cons ru .nil), ⟨_, hT2, rfl, _, rfl⟩⟩
    have I1 : Inv X pins σ (upd H s.heap.objs.size (.tup [.int (i : Nat), x])) { s with heap := g2, toks := tk + 1 } :=
      I.turnedNew (ch := [e, it]) (fun b ob hb q => (sb.2 b (fun z => hb (by simp [z]))).trans (hk b ob (fun z => hb (by simp [z])) (fun z => hb (by simp [z])) q)) hf (Nat.le_refl _) nw
    refine ⟨.ref s.heap.objs.size, _, I1, rfl, ⟨_, x, rfl, I.hok.fresh (Nat.le_refl _), rfl, fun ys hy => by rw [I.tuple_inj hy hq]; exact hx⟩, ⟨⟨y, ?_⟩, st'.1.at fun o q => (sb.2 it (Ne.symm ne)).trans q, ne⟩, fun b hb => ?_⟩
    · rw [show ((i + 1 : Nat) : Int) = (i : Int) + 1 by omega]
      exact he'
    · have hb' : b < s.heap.objs.size := by
        simp only [List.mem_cons, List.not_mem_nil, or_false] at hb
        rcases hb with rfl | rfl
        · exact el
        · exact il
      rw [upd_ne (Nat.ne_of_lt hb')]
      exact (hf b hb).1
  done := by
    intro X hP hw hK hc i pins s σ H E I hf st hg
    subst hP hw hK
    obtain ⟨⟨old, he⟩, hit, ne⟩ := st
    obtain ⟨xs, hq, hx⟩ := hg
    obtain ⟨its, rv, tp, hz⟩ := I.tuple hq
    have tp' : s.heap.IsTuple a its.toArray := tp
    have nai : a ≠ it := fun z => by
      obtain ⟨o1, g1, c1, _⟩ := tp'
      obtain ⟨o2, g2, c2, _⟩ := hit
      rw [z] at g1
      cases g1.symm.trans g2
      exact absurd (Value.type.inj (c1.symm.trans c2)) (by decide)
    have hd : X.A.in1.handled = none := I.ok.hd hc
    have en : its.toArray.size = i := by
      have := rv.length
      simp only [List.size_toArray]
      omega
    obtain ⟨f0, f1, f2, f3, f4, f5⟩ := hf it (by simp)
    exact wpAny_pyNext_enum_endD (Draws.tuple hd it a nai its.toArray) he ⟨by rw [en]; exact hit, tp'⟩ fun g eb => ⟨rfl, I.turned (t' := s.toks) (fun b o hb q => eb b o hb q) f0 f1 f3 f4 f5⟩
  self := fun A i s Q E st h => by
    obtain ⟨⟨_, he⟩, _⟩ := st
    exact wpAny_pyIter_enum he h
def iEnT (K : PySem.W.Frag) (ta : TA) : TI := fun σ H R => ta σ H fun vs G => ∃ a xs, vs = [.ref a] ∧ SqT K G a xs ∧ R (EnT K a) G
theorem pi_enT {X : Cx} {e : Expr} {ta : TA} {p pos tp : Pos} {es : List Expr} {kk : Nat} (hg : Gl X "enumerate") (hm : X.mg "enumerate" = none) (ha : PA X [e] ta) (hs : starEach [e] X.env = [(false, eval e X.env)] := by rfl) :
    PI X (.Tuple es kk tp) (.Call (.Name "enumerate" p) [e] [] pos) (iEnT X.K ta) := by
  refine ⟨fun pins s σ H R I h => ?_⟩
  refine Call_ (ld_blt I hg hm boot_enumerate (PyProof.Rows.callWith_type1 (thn (ha.run pos pins s σ H _ I h) fun us s1 ⟨vs, G, I1, r1, q1⟩ => ?_) hs rfl))
  obtain ⟨a, xs, ex, hq, q⟩ := q1
  subst ex
  cases r1 with
  | cons r rr =>
    cases rr
    cases r
    obtain ⟨its, rv, tq, hz⟩ := I1.tuple hq
    refine gu_call_enum (show s1.heap.IsTuple a its.toArray from tq) fun g he hit hk => wpAny_pyIter_enum he ?_
    have I2 : Inv X pins σ G { s1 with heap := g } := I1.kept (t' := s1.toks) hk
    refine ⟨s1.heap.objs.size + 1, [s1.heap.objs.size + 1, s1.heap.objs.size], _, _, G, rfl, I2, turn_enT a (s1.heap.objs.size + 1) s1.heap.objs.size, ⟨⟨.none, he⟩, hit, Nat.succ_ne_self _⟩, fun b hb => ?_, q⟩
    have le : s1.heap.objs.size ≤ b := by
      simp only [List.mem_cons, List.not_mem_nil, or_false] at hb
      rcases hb with rfl | rfl
      · exact Nat.le_add_right _ _
      · exact Nat.le_refl _
    exact I1.fpOk le (I1.hok.fresh le)
/-- the walk of such a loop: a new pair each turn -/
theorem walk_enT {K : PySem.W.Frag} {a : Addr} {xs : List V} : Walk (EnT K a) xs.length (fun H => SqT K H a xs) (fun i H v G => ∃ T x, xs[i]? = some x ∧ v = .ref T ∧ H T = none ∧ G = upd H T (.tup [.int (i : Nat), x])) where
  goes := fun i H hi h => ⟨xs, xs[i], h, List.getElem?_eq_getElem hi⟩
  stops := fun H h => ⟨xs, h, rfl⟩
  yields := fun i H v G hi h ⟨T, x, e1, e2, e3, e4⟩ => ⟨T, x, e4 xs h, e1, e2, e3⟩
end Gu
namespace Gu
open PySem PySem.Spec PyProof.Rows L2
/-! ### what is cut, as lists -/
def cut {α : Type} (l h t : Nat) (m xs : List α) : List α := if xs.length ≤ l then xs else xs.take h ++ m ++ xs.drop (xs.length - t)
theorem cut_front {α : Type} (xs : List α) {h : Int} (h0 : 0 ≤ h) : (xs.drop (HT.sIx xs.length 0 none)).take (HT.sIx xs.length xs.length (some h) - HT.sIx xs.length 0 none) = xs.take h.toNat := by
  obtain ⟨k, rfl⟩ := Int.eq_ofNat_of_zero_le h0
  rw [HT.sIx_none, HT.sIx_nat, List.drop_zero, Nat.sub_zero, Int.toNat_natCast, List.take_eq_take_iff]
  omega
theorem cut_back {α : Type} (xs : List α) {h : Int} (h0 : 0 ≤ h) : (xs.drop (HT.sIx xs.length 0 (some h))).take (HT.sIx xs.length xs.length none - HT.sIx xs.length 0 (some h)) = xs.drop h.toNat := by
  obtain ⟨k, rfl⟩ := Int.eq_ofNat_of_zero_le h0
  rw [HT.sIx_none, HT.sIx_nat, Int.toNat_natCast]
  rw [List.take_of_length_le (by rw [List.length_drop]; omega)]
  by_cases e : k ≤ xs.length
  · rw [Nat.min_eq_left e]
  · rw [Nat.min_eq_right (by omega), List.drop_length, List.drop_eq_nil_of_le (by omega)]
theorem cut_length {α : Type} {l h t : Nat} {m xs : List α} : (cut l h t m xs).length ≤ max xs.length (h + m.length + t) := by
  unfold cut
  split
  · omega
  · rw [List.length_append, List.length_append, List.length_take, List.length_drop]
    omega
theorem app_cps (a b : Str) : (a ++ b).cps.toList = a.cps.toList ++ b.cps.toList := by
  show (a.cps ++ b.cps).toList = _
  rw [Array.toList_append]
def Rec.cut (r : Rec) (xs : List Nat) : List Nat := Gu.cut r.l.toNat r.h.toNat r.t.toNat r.z.cps.toList xs
def cuts (rs : List Rec) (xs : List Nat) : List Nat := rs.foldl (fun acc r => r.cut acc) xs
theorem Rec.fit.zl {r : Rec} (f : r.fit) : r.z.cps.toList.length ≤ 3 := by
  have h := isTxt_len f.z
  have e : r.z.length = r.z.cps.toList.length := rfl
  omega
theorem Rec.fit.cut_len {r : Rec} (f : r.fit) {xs : List Nat} (h : xs.length ≤ 200) : (r.cut xs).length ≤ 200 := by
  have a : (r.cut xs).length ≤ _ := cut_length
  have b := f.zl
  have c := f.h
  have d := f.t
  omega
/-! ### shorteners and rows in the heap -/
def ShAt (C : Addr) (H : Hp) (x : Addr) (r : Rec) : Prop := ∃ dx b, H x = some (.ins C dx (flds r b)) ∧ H b = some (.tup r.vs)
structure RowAt (C : Addr) (H : Hp) (a : Addr) (rs : List (Addr × Rec)) : Prop where
  tp : H a = some (.tup (rs.map fun q => V.ref q.1))
  sh : ∀ q ∈ rs, ShAt C H q.1 q.2 ∧ q.2.fit
theorem ShAt.same {C : Addr} {H G : Hp} {x : Addr} {r : Rec} (s : Same H G) (h : ShAt C H x r) : ShAt C G x r := by
  obtain ⟨dx, b, h1, h2⟩ := h
  exact ⟨dx, b, s _ _ h1, s _ _ h2⟩
theorem RowAt.same {C : Addr} {H G : Hp} {a : Addr} {rs : List (Addr × Rec)} (s : Same H G) (h : RowAt C H a rs) : RowAt C G a rs := ⟨s _ _ h.tp, fun q hq => ⟨(h.sh q hq).1.same s, (h.sh q hq).2⟩⟩
section
variable {P : Program} {w : World} {K : PySem.W.Frag} {mg : Str → Option Value} {base : Heap} {C : Addr}
/-! ### check_row, check_text -/
def spCheckRow (C : Addr) : Sp := fun vs H Q _ => ∃ (a : Addr) (rs : List (Addr × Rec)), vs = [.ref a] ∧ RowAt C H a rs ∧ 1 ≤ rs.length ∧ rs.length ≤ 4 ∧ ∀ G, Same H G → Q .non G
theorem cal_checkRow (B : Bi mg) (S : ShC K mg C) (D : At K mg "check_row" s_check_row ps_check_row) (C_is_tuple : Cal P w K mg base 1 "is_tuple" ps_is_tuple (spIsTuple K)) : Cal P w K mg base 2 "check_row" ps_check_row (spCheckRow C) := by
  refine D.cal sc_check_row (fun vs H Q E h => ?_) (fun f cdv A outer s H vs Q E hr h => ?_)
  · obtain ⟨a, rs, rfl, _⟩ := h
    rfl
  · obtain ⟨a, rs, rfl, hR, l1, l4, k⟩ := h
    refine ⟨_, (pss_cons (ps_if (pt_not (pt_val (pe_own C_is_tuple hr (by decide) (by rfl) (pa_cons (pv 0) (pa_cons pe_int (pa_cons (pe_cst B.MOST_ROW (by rfl)) pa_nil)))))) pss_never pss_nil)
      (pss_one (ps_for PassesOwn.never rfl (pi_enT (by rfl) B.enumerate (pa_cons (pv 0) pa_nil)) (pg_tup rfl (pgs_cons (pg_name (i := 1) sc_check_row.nd rfl (.inl rfl)) (pgs_cons (pg_name (i := 2) sc_check_row.nd rfl (.inl rfl)) pgs_nil)))
      (pss_one (ps_if (pt_not (pt_val (pe_callB call_isi (by rfl) B.isinstance (by decide +kernel) (pa_cons (pv 2) (pa_cons (pe_glob (v := .ref C) (by rfl) S.g rfl) pa_nil))))) pss_never pss_nil))))), ?_⟩
    refine ⟨_, rfl, _, _, _, rfl, .inl ⟨a, _, rfl, .inl (.inl hR.tp), _, rfl, ?_⟩⟩
    rw [decide_eq_true (show (1 : Int) ≤ ((rs.map fun q => V.ref q.1).length : Int) ∧ ((rs.map fun q => V.ref q.1).length : Int) ≤ 4 by rw [List.length_map]; omega)]
    refine iteF ⟨_, rfl, a, _, rfl, .inl (.inl hR.tp), for_it walk_enT (fun i σ J => ∃ u v, σ = [some (.ref a), u, v] ∧ Same H J) ⟨none, none, rfl, Same.refl H⟩ (fun i σ J _ ⟨_, _, _, sJ⟩ => .inl (.inl (sJ _ _ hR.tp))) ?_ ?_⟩
    · rintro i v σ J J1 hi ⟨u, v2, rfl, sJ⟩ ⟨T, x, hx, rfl, nT, rfl⟩
      obtain ⟨q, hq, rfl⟩ : ∃ q ∈ rs, x = .ref q.1 := by
        obtain ⟨q, h1, h2⟩ := List.mem_map.mp (List.mem_of_getElem? hx)
        exact ⟨q, h1, h2.symm⟩
      have sT : Same H (upd J T (.tup [.int (i : Nat), .ref q.1])) := sJ.trans (same_new nT)
      obtain ⟨dx, b, e1, _⟩ := ((hR.sh q hq).1).same sT
      refine ⟨T, _, rfl, .inl (.inl upd_same), rfl, _, _, rfl, _, _, rfl, rfl, ?_⟩
      refine ⟨_, rfl, _, _, _, _, true, rfl, .own C, .base (.ins e1 S.cl S.ha S.hn S.ht S.hm), S.kk, _, rfl, iteF ⟨_, _, rfl, sT⟩⟩
    · rintro σ J ⟨u, v, rfl, sJ⟩
      exact k J sJ
def spCheckText : Sp := fun vs H Q _ => ∃ (z : Str), vs = [.str z] ∧ isTxt z 200 = true ∧ ∀ G, Same H G → Q .non G
theorem cal_checkText (B : Bi mg) (D : At K mg "check_text" s_check_text ps_check_text) (C_is_text : Cal P w K mg base 1 "is_text" ps_is_text (spIsText K)) : Cal P w K mg base 2 "check_text" ps_check_text spCheckText := by
  refine D.cal sc_check_text (fun vs H Q E h => ?_) (fun f cdv A outer s H vs Q E hr h => ?_)
  · obtain ⟨z, rfl, _⟩ := h
    rfl
  · obtain ⟨z, rfl, hz, k⟩ := h
    have zl := isTxt_len hz
    refine ⟨_, (pss_one (ps_if (pt_not (pt_val (pe_own C_is_text hr (by decide) (by rfl) (pa_cons (pv 0) (pa_cons (pe_cst B.MOST_TEXT (by rfl)) pa_nil))))) pss_never pss_nil)), ?_⟩
    refine ⟨_, rfl, _, _, rfl, .inl ⟨z, rfl, by omega, fun G sG => ⟨_, rfl, ?_⟩⟩⟩
    rw [hz]
    exact iteF (k G sG)
/-! ### shortened: of a text -/
def spShortS (C : Addr) : Sp := fun vs H Q _ => ∃ (x : Addr) (r : Rec) (z : Str), vs = [.ref x, .str z, .str r.z] ∧ ShAt C H x r ∧ r.fit ∧ z.length ≤ 1000 ∧ ∀ y : Str, y.cps.toList = r.cut z.cps.toList → Q (.str y) H
theorem cal_shortS (B : Bi mg) (S : ShC K mg C) (D : At K mg "shortened" s_shortened ps_shortened) : Cal P w K mg base 1 "shortened" ps_shortened (spShortS C) := by
  refine D.cal sc_shortened (fun vs H Q E h => ?_) (fun f cdv A outer s H vs Q E hr h => ?_)
  · obtain ⟨x, r, z, rfl, _⟩ := h
    rfl
  · obtain ⟨x, r, z, rfl, ⟨dx, b, hx, _⟩, fit, zl, k⟩ := h
    have ez : z.length = z.cps.toList.length := rfl
    have zs : z.length ≤ sizeLine := Nat.le_of_lt (small1000 zl)
    have f1 := fit.l
    have f2 := fit.h
    have f3 := fit.t
    have f4 := fit.zl
    refine ⟨_, (pss_cons (ps_if (pt_cmpR op_le (pe_callB call_len (by rfl) B.len (by decide +kernel) (pa_cons (pv 1) pa_nil)) (pe_fld (pv 0) rfl) (nomark _)) (pss_one (ps_ret (pv 1))) pss_nil)
      (pss_cons (ps_set (i := 3) sc_shortened.nd rfl (.inl rfl) (pe_callB (call_max2 rfl) (by rfl) B.max (by decide +kernel) (pa_cons pe_int (pa_cons (pe_op op_sub (pe_callB call_len (by rfl) B.len (by decide +kernel) (pa_cons (pv 1) pa_nil)) (pe_fld (pv 0) rfl)) pa_nil))))
      (pss_one (ps_ret (pe_op op_add_str (pe_op op_add_str (pe_slice sl_str (pv 1) po_none (po_some (pe_fld (pv 0) rfl))) (pv 2)) (pe_slice sl_str (pv 1) (po_some (pv 3)) po_none)))))), ?_⟩
    refine ⟨_, rfl, _, _, rfl, ⟨zs, rfl⟩, _, rfl, x, C, dx, _, _, rfl, hx, S.cl, S.nL, flds_limit _ _, _, _, rfl, rfl, _, rfl, ite2 (fun e => ?_) (fun e => ?_)⟩
    · have e1 := of_decide_eq_true e
      refine ⟨_, rfl, k z ?_⟩
      unfold Rec.cut cut
      rw [if_pos (by omega)]
    · have e1 : ¬ (z.length : Int) ≤ r.l := fun h => e (decide_eq_true h)
      refine ⟨_, rfl, _, _, rfl, ⟨zs, rfl⟩, _, rfl, x, C, dx, _, _, rfl, hx, S.cl, S.nT, flds_tail _ _, _, _, rfl, rfl, _, _, rfl, ?_⟩
      refine ⟨_, rfl, _, rfl, x, C, dx, _, _, rfl, hx, S.cl, S.nH, flds_head _ _, _, rfl, z, rfl, zs, _, rfl, _, _, rfl, rfl, ?_, _, rfl, _, rfl, _, rfl, z, rfl, zs, _, _, rfl, rfl, ?_, k _ ?_⟩
      · have a := cutS_length z none (some r.h)
        have b : r.z.length = r.z.cps.toList.length := rfl
        exact Nat.le_of_lt (Nat.lt_of_le_of_lt (show _ ≤ 2000 by omega) (by decide))
      · have a := cutS_length z none (some r.h)
        have b : r.z.length = r.z.cps.toList.length := rfl
        have c := cutS_length z (some (if (z.length : Int) - r.t > 0 then (z.length : Int) - r.t else 0)) none
        have d : (cutS z none (some r.h) ++ r.z).length = (cutS z none (some r.h)).length + r.z.length := by
          show (cutS z none (some r.h) ++ r.z).cps.toList.length = _
          rw [app_cps, List.length_append]
          rfl
        exact Nat.le_of_lt (Nat.lt_of_le_of_lt (show _ ≤ 4000 by omega) (by decide))
      · rw [app_cps, app_cps]
        have a : (cutS z none (some r.h)).cps.toList = z.cps.toList.take r.h.toNat := by
          show ((z.cps.toList.drop _).take _).toArray.toList = _
          rw [List.toList_toArray]
          exact cut_front z.cps.toList f2.1
        have c : (cutS z (some (if (z.length : Int) - r.t > 0 then (z.length : Int) - r.t else 0)) none).cps.toList = z.cps.toList.drop (z.cps.toList.length - r.t.toNat) := by
          show ((z.cps.toList.drop _).take _).toArray.toList = _
          rw [List.toList_toArray]
          have q := cut_back z.cps.toList (h := if (z.length : Int) - r.t > 0 then (z.length : Int) - r.t else 0) (by split <;> omega)
          have n : (if (z.length : Int) - r.t > 0 then (z.length : Int) - r.t else 0).toNat = z.cps.toList.length - r.t.toNat := by split <;> omega
          rw [n] at q
          exact q
        rw [a, c]
        unfold Rec.cut cut
        rw [if_neg (show ¬ z.cps.toList.length ≤ r.l.toNat by omega)]
/-! ### shown_by, show -/
theorem Rec.fit.cut_lenW {r : Rec} (f : r.fit) {xs : List Nat} (h : xs.length ≤ 600) : (r.cut xs).length ≤ 600 := by
  have a : (r.cut xs).length ≤ _ := cut_length
  have b := f.zl
  have c := f.h
  have d := f.t
  omega
def spShownBy (C : Addr) : Sp := fun vs H Q _ => ∃ (a : Addr) (rs : List (Addr × Rec)) (z : Str), vs = [.ref a, .str z] ∧ RowAt C H a rs ∧ z.cps.toList.length ≤ 600 ∧ ∀ (y : Str), y.cps.toList = cuts (rs.map (·.2)) z.cps.toList → Q (.str y) H
theorem cal_shownBy (B : Bi mg) (S : ShC K mg C) (D : At K mg "shown_by" s_shown_by ps_shown_by) (C_shortened : Cal P w K mg base 1 "shortened" ps_shortened (spShortS C)) : Cal P w K mg base 2 "shown_by" ps_shown_by (spShownBy C) := by
  refine D.cal sc_shown_by (fun vs H Q E h => ?_) (fun f cdv A outer s H vs Q E hr h => ?_)
  · obtain ⟨a, rs, z, rfl, _⟩ := h
    rfl
  · obtain ⟨a, rs, z, rfl, R2, zl, k⟩ := h
    refine ⟨_, (pss_cons (ps_set (i := 2) sc_shown_by.nd rfl (.inl rfl) (pv 1))
      (pss_cons (ps_for PassesOwn.never rfl (pi_tup (pv 0)) (pg_name (i := 3) sc_shown_by.nd rfl (.inl rfl))
      (pss_one (ps_set (i := 2) sc_shown_by.nd rfl (.inl rfl) (pe_own C_shortened hr (by decide) (by rfl) (pa_cons (pv 3) (pa_cons (pv 2) (pa_cons (pe_fld (pv 3) rfl) pa_nil)))))))
      (pss_one (ps_ret (pv 2))))), ?_⟩
    refine ⟨_, rfl, _, rfl, a, rfl, ⟨_, .inl (.inl R2.tp)⟩, for_tup (K := K) (a := a) (xs := rs.map fun q => V.ref q.1) (fun i σ J => ∃ (y : Str) (u : Option V), σ = [some (.ref a), some (.str z), some (.str y), u] ∧ J = H ∧ y.cps.toList = cuts ((rs.take i).map (·.2)) z.cps.toList ∧ y.cps.toList.length ≤ 600)
      ⟨z, none, rfl, rfl, rfl, zl⟩ (fun i σ J _ ⟨_, _, _, e, _⟩ => by rw [e]; exact .inl (.inl R2.tp)) ?_ ?_⟩
    · rintro i v σ J hi ⟨y, u, rfl, rfl, ey, ly⟩
      rw [List.getElem?_map] at hi
      cases hq : rs[i]? with
      | none =>
        rw [hq] at hi
        cases hi
      | some q =>
        rw [hq] at hi
        cases hi
        have mq : q ∈ rs := List.mem_of_getElem? hq
        obtain ⟨sq, fq⟩ := R2.sh q mq
        obtain ⟨dx, b, e1, e2⟩ := id sq
        have lz : y.length = y.cps.toList.length := rfl
        refine ⟨_, rfl, _, rfl, _, rfl, q.1, C, dx, _, _, rfl, e1, S.cl, S.nM, flds_mark _ _, q.1, q.2, y, rfl, sq, fq, by omega, fun y2 h2 => ⟨y2, _, rfl, rfl, ?_, ?_⟩⟩
        · rw [h2, ey, List.take_add_one, hq]
          unfold cuts
          rw [List.map_append, List.foldl_append]
          rfl
        · rw [h2]
          exact fq.cut_lenW ly
    · rintro σ J ⟨y, u, rfl, rfl, ey, ly⟩
      rw [List.length_map, List.take_length] at ey
      exact ⟨_, rfl, k y ey⟩
def spShow (C : Addr) : Sp := fun vs H Q _ => ∃ (a : Addr) (rs : List (Addr × Rec)) (z : Str), vs = [.ref a, .str z] ∧ RowAt C H a rs ∧ 1 ≤ rs.length ∧ rs.length ≤ 4 ∧ isTxt z 200 = true ∧ ∀ (y : Str) (G : Hp), Same H G → y.cps.toList = cuts (rs.map (·.2)) z.cps.toList → Q (.str y) G
theorem cal_show (B : Bi mg) (D : At K mg "show" s_show ps_show) (C_check_row : Cal P w K mg base 2 "check_row" ps_check_row (spCheckRow C)) (C_check_text : Cal P w K mg base 2 "check_text" ps_check_text spCheckText) (C_shown_by : Cal P w K mg base 2 "shown_by" ps_shown_by (spShownBy C)) : Cal P w K mg base 3 "show" ps_show (spShow C) := by
  refine D.cal sc_show (fun vs H Q E h => ?_) (fun f cdv A outer s H vs Q E hr h => ?_)
  · obtain ⟨a, rs, z, rfl, _⟩ := h
    rfl
  · obtain ⟨a, rs, z, rfl, hR, l1, l4, hz, k⟩ := h
    have zl := isTxt_len hz
    have ez : z.length = z.cps.toList.length := rfl
    refine ⟨_, (pss_cons (ps_expr (pe_own C_check_row hr (by decide) (by rfl) (pa_cons (pv 0) pa_nil)))
      (pss_cons (ps_expr (pe_own C_check_text hr (by decide) (by rfl) (pa_cons (pv 1) pa_nil)))
      (pss_one (ps_ret (pe_own C_shown_by hr (by decide) (by rfl) (pa_cons (pv 0) (pa_cons (pv 1) pa_nil))))))), ?_⟩
    refine ⟨_, rfl, a, rs, rfl, hR, l1, l4, fun G1 s1 => ⟨_, rfl, z, rfl, hz, fun G2 s2 => ?_⟩⟩
    have s12 : Same H G2 := s1.trans s2
    exact ⟨_, rfl, _, rfl, a, rs, z, rfl, hR.same s12, by omega, fun y ey => k y G2 s12 ey⟩
end
end Gu
namespace Gu
open PySem PySem.Spec PyProof.Rows L2
/-! ### texts of single signs -/
def one (c : Nat) : Str := ⟨#[c]⟩
def ones (cs : List Nat) : List V := cs.map fun c => V.str (one c)
theorem join_ones : ∀ cs : List Nat, (Str.join ⟨#[]⟩ (cs.map one)).cps.toList = cs
  | [] => rfl
  | c :: r => by
    rw [List.map_cons, join_nil_cons, app_cps, join_ones r]
    rfl
theorem tjoin_ones (cs : List Nat) : (Txt.join "" (cs.map one)).cps.toList = cs := by
  have e : (("" : String) : Str) = ⟨#[]⟩ := by decide +kernel
  show (Builtin.Str.glued _ _).cps.toList = cs
  rw [e, StrLaws.glued_eq_join]
  exact join_ones cs
theorem ones_len (cs : List Nat) : ((cs.map one).map (·.length)).sum = cs.length := by
  induction cs with
  | nil => rfl
  | cons c r ih =>
    rw [List.map_cons, List.map_cons, List.sum_cons, ih]
    show 1 + r.length = r.length + 1
    omega
theorem ones_map (cs : List Nat) : ones cs = (cs.map one).map V.str := by
  unfold ones
  rw [List.map_map]
  rfl
def cutsV (rs : List Rec) (xs : List V) : List V := rs.foldl (fun acc r => cut r.l.toNat r.h.toNat r.t.toNat (ones r.z.cps.toList) acc) xs
theorem cut_map {α β : Type} (f : α → β) (l h t : Nat) (m xs : List α) : cut l h t (m.map f) (xs.map f) = (cut l h t m xs).map f := by
  unfold cut
  rw [List.length_map]
  split
  · rfl
  · rw [List.map_append, List.map_append, List.map_take, List.map_drop]
theorem cutsV_ones : ∀ (rs : List Rec) (cs : List Nat), cutsV rs (ones cs) = ones (cuts rs cs)
  | [], _ => rfl
  | r :: rs, cs => by
    show cutsV rs (cut r.l.toNat r.h.toNat r.t.toNat (ones r.z.cps.toList) (ones cs)) = ones (cuts rs (r.cut cs))
    unfold ones
    rw [cut_map]
    exact cutsV_ones rs (r.cut cs)
theorem cuts_len : ∀ (rs : List Rec) {xs : List Nat}, (∀ r ∈ rs, r.fit) → xs.length ≤ 200 → (cuts rs xs).length ≤ 200
  | [], _, _, h => h
  | r :: rs, xs, hf, h => cuts_len rs (xs := r.cut xs) (fun q hq => hf q (List.mem_cons_of_mem _ hq)) ((hf r (List.mem_cons_self ..)).cut_len h)
theorem ShAt.list {C : Addr} {H : Hp} {x M : Addr} {r : Rec} {acc ys : List V} (h : ShAt C H x r) (e : H M = some (.lst acc)) : ShAt C (upd H M (.lst ys)) x r := by
  obtain ⟨dx, b, h1, h2⟩ := h
  exact ⟨dx, b, by rw [upd_ne (ne_of h1 e (by intro z; cases z))]; exact h1, by rw [upd_ne (ne_of h2 e (by intro z; cases z))]; exact h2⟩
theorem ToldsAt.same {H G : Hp} {D : Addr} {ps : List (Addr × Rec)} (s : Same H G) (h : ToldsAt H D ps) : ToldsAt G D ps := ⟨s _ _ h.ls, fun q hq => ⟨s _ _ (h.tp q hq).1, (h.tp q hq).2⟩⟩
section
variable {P : Program} {w : World} {K : PySem.W.Frag} {mg : Str → Option Value} {base : Heap} {C : Addr}
/-! ### _law_made -/
def spMade (C : Addr) : Sp := fun vs H Q _ => ∃ (D : Addr) (ps : List (Addr × Rec)), vs = [.ref D] ∧ ToldsAt H D ps ∧ ps.length ≤ 4 ∧ ∀ (a : Addr) (G : Hp) (rs : List (Addr × Rec)), H a = none → RowAt C G a rs → rs.map (·.2) = ps.map (·.2) → Same H G → Q (.ref a) G
/-! ### _law_cut -/
theorem neg_back {α : Type} (xs : List α) {h : Int} (h0 : 0 < h) : (xs.drop (HT.sIx xs.length 0 (some (-h)))).take (HT.sIx xs.length xs.length none - HT.sIx xs.length 0 (some (-h))) = xs.drop (xs.length - h.toNat) := by
  have e : HT.sIx xs.length 0 (some (-h)) = xs.length - h.toNat := by
    show (if -h < 0 then (-h + (xs.length : Int)).toNat else min (-h).toNat xs.length) = _
    rw [if_pos (by omega)]
    omega
  rw [e, HT.sIx_none, List.take_of_length_le (by rw [List.length_drop]; omega)]
theorem cutsV_snoc (ps : List (Addr × Rec)) {i : Nat} {q : Addr × Rec} (h : ps[i]? = some q) (xs : List V) :
    cutsV ((ps.take (i + 1)).map (·.2)) xs = cut q.2.l.toNat q.2.h.toNat q.2.t.toNat (ones q.2.z.cps.toList) (cutsV ((ps.take i).map (·.2)) xs) := by
  rw [List.take_add_one, h, List.map_append]
  unfold cutsV
  rw [List.foldl_append]
  rfl
def spCut : Sp := fun vs H Q _ => ∃ (D T : Addr) (ps : List (Addr × Rec)) (xs : List V), vs = [.ref D, .ref T] ∧ ToldsAt H D ps ∧ H T = some (.lst xs) ∧ xs.length ≤ 600 ∧ ∀ (U : Addr) (G : Hp), Same H G → G U = some (.lst (cutsV (ps.map (·.2)) xs)) → Q (.ref U) G
end
end Gu
namespace Gu
open PySem PySem.Spec PyProof.Rows L2
/-! ### calls by keywords alone -/
structure CalK (P : Program) (w : World) (K : PySem.W.Frag) (mg : Str → Option Value) (base : Heap) (k : Nat) (x : Str) (ks : List Str) (gV : List V → List V) (sp : Sp) : Prop where
  ex : ∃ (f : Addr) (fd : FuncData) (ps : List Str) (g : List Value → List Value), FnOk P w K mg base CX0 k f fd ps sp ∧ mg x = some (.ref f) ∧ PySem.W.keepIn K (.ref f) = true ∧ KBn K fd ps 0 ks (fun _ ws => g ws) (fun _ zs => gV zs)
theorem Cal.kw {P : Program} {w : World} {K : PySem.W.Frag} {mg : Str → Option Value} {base : Heap} {k : Nat} {x : Str} {st : Stmt} {ps ks : List Str} {sp : Sp} (g : {α : Type} → List α → List α) (c : Cal P w K mg base k x ps sp) (D : At K mg x st ps)
    (hv : ∀ {zs : List V} {ws : List Value}, Vals zs ws → Vals (g zs) (g ws))
    (hb : ∀ (kV doc pm : Value) (an : Option Addr) (cdv ct : Value) (ws : List Value), ws.length = ks.length → bindArgs (PySem.W.fnOf x x (defArgs st) (defBody st) (defScope st) .none kV doc pm an cdv ct) ⟨[], ks.zip ws⟩ = pure (ps.zip (g ws))) : CalK P w K mg base k x ks g sp := by
  obtain ⟨f, fd, F, hm, kp, b, oc, od, sl, lk⟩ := c.ex
  obtain ⟨f2, fd2, F2, b2, hm2⟩ := D.ex
  cases hm.symm.trans hm2
  obtain ⟨oc2, od2, kV, doc, pm, an, cdv, ct, sl2, e, lk2, hcd⟩ := F2.ex
  cases lk.symm.trans lk2
  refine ⟨f, fd, ps, g, F, hm, kp, ⟨fun s us ws I l1 l2 => ?_, fun _ r => hv r⟩⟩
  cases us with
  | nil =>
    rw [e]
    exact BindsTo.of_eq (hb kV doc pm an cdv ct ws l2)
  | cons u r => cases l1
def tKw (m : Nat) (gV : List V → List V) (sp : Sp) (tk : TA) : TE := fun σ H Q => tk σ H fun zs G => zs.length = m ∧ sp (gV zs) G Q E0
section
variable {X : Cx} {k j : Nat} {x : Str} {ks : List Str} {gV : List V → List V} {sp : Sp} {p pos : Pos} {kws : List Keyword} {tk : TA}
theorem pe_kw (c : CalK X.prog X.w X.K X.mg X.base k x ks gV sp) (hr : Room j X.A) (hk : k ≤ j) (hg : Gl X x) (hkw : PK X kws tk) (hall : (backToKw pos (keywordEach kws X.env)).all (·.1.isSome) = true := by rfl)
    (hks : (backToKw pos (keywordEach kws X.env)).filterMap (·.1) = ks := by rfl) (hdb : (x == ("__debug__" : Str)) = false := by decide)
    (hpl : ((backTo pos (starEach [] X.env)).any (·.1) || (backToKw pos (keywordEach kws X.env)).any (·.1.isNone)) = false := by rfl) : PE X (.Call (.Name x p) [] kws pos) (tKw ks.length gV sp tk) := by
  obtain ⟨f, fd, ps, g, F, hm, kp, b⟩ := c.ex
  refine ⟨fun pins s σ H Q I h => ?_⟩
  refine wpAny_Call_Name_kw (ld_glob I hg hm ?_ hdb)
  refine PySem.W.callWith_KW0 (h₀ := X.base) I.ok.mod.kin kp hall ?_ hpl
  refine thn (hkw.run pos pins s σ H _ I h) fun ws s2 ⟨zs, G, I2, rz, l2, q2⟩ => ⟨I2.kIn, ?_⟩
  rw [hks]
  exact run_fnN (us := []) (vs := []) F (hr.mono hk) b pass0 I2 .nil rz rfl l2 q2
end
def swap2 {α : Type} : List α → List α
  | [a, b] => [b, a]
  | l => l
theorem swap2_vals {zs : List V} {ws : List Value} (r : Vals zs ws) : Vals (swap2 zs) (swap2 ws) := by
  cases r with
  | nil => exact .nil
  | cons a r =>
    cases r with
    | nil => exact .cons a .nil
    | cons b r =>
      cases r with
      | nil => exact .cons b (.cons a .nil)
      | cons c r => exact .cons a (.cons b (.cons c r))
theorem str_ext {a b : Str} (h : a.cps.toList = b.cps.toList) : a = b := by
  cases a
  cases b
  exact congrArg Str.mk (Array.ext' h)
end Gu
namespace Gu
open PySem PySem.Spec PyProof.Rows L2
section
variable {P : Program} {w : World} {K : PySem.W.Frag} {mg : Str → Option Value} {base : Heap} {C : Addr}
def spLine : Sp := fun vs H Q _ => ∃ (p : Addr) (n : Int), vs = [.ref p, .int n] ∧ Pot H p ∧ 0 ≤ n ∧ n ≤ 200 ∧ ∀ (y : Str) (G : Hp), Ladled p H G → y.cps.toList.length = n.toNat → isTxt y 200 = true → Q (.str y) G
theorem cal_line (B : Bi mg) (D : At K mg "_law_line" s_law_line ps_law_line) (C_law_one_of : Cal P w K mg base 2 "_law_one_of" ps_law_one_of (spOneOf K)) : Cal P w K mg base 3 "_law_line" ps_law_line spLine := by
  refine D.cal sc_law_line (fun vs H Q E h => ?_) (fun f cdv A outer s H vs Q E hr h => ?_)
  · obtain ⟨p, n, rfl, _⟩ := h
    rfl
  · obtain ⟨p, n, rfl, hp, n0, n1, k⟩ := h
    refine ⟨_, (pss_cons (ps_set (i := 2) sc_law_line.nd rfl (.inr rfl) (pe_own C_law_one_of hr (by decide) (by rfl) (pa_cons (pv 0) (pa_cons (pe_lst (pa_cons pe_str (pa_cons pe_str (pa_cons pe_str pa_nil)))) pa_nil))))
      (pss_one (ps_ret (pe_join pe_str (pe_lc (own := [("_law_k", 3)]) (by rfl) sc_law_line.nd (pi_range1 (by rfl) B.range (pa_cons (pv 1) pa_nil)) (blkOk_by (own := [("_law_k", 3)]) (N := ["_law_pot_here", "_law_many", "_law_signs_here", "_law_k"]) (sc := defScope s_law_line) (by decide +kernel)) (fun _ _ _ _ _ => pg_name (i := 3) sc_law_line.nd rfl (.inl rfl)) (fun _ _ _ _ _ => pts_nil) (fun _ _ _ _ _ => (pe_own C_law_one_of hr (by decide) (by rfl) (pa_cons (pv 0) (pa_cons (pv 2) pa_nil))))))))), ?_⟩
    refine ⟨_, rfl, by show 3 ≤ sizeLine; decide, fun q0 m0 => ?_⟩
    have L0 : Ladled p H (upd H q0 (.lst [.str ".0", .str "ab~", .str ".0123456789abcdefghijklmnopqrstuvwxyz~"])) := .ofSame hp (same_new m0)
    refine ⟨p, L0.pot, .inl ⟨q0, _, rfl, .inl (.inl upd_same), hp.ne m0, by decide, by decide, fun v G1 hv L1 => ?_⟩⟩
    obtain ⟨g, rfl, g0, g1, gs⟩ : ∃ g : Str, v = .str g ∧ 0 < g.cps.toList.length ∧ g.cps.toList.length < 1000 ∧ ∀ c ∈ g.cps.toList, c ∈ signs.cps.toList := by
      have a : ∀ g ∈ ([".0", "ab~", ".0123456789abcdefghijklmnopqrstuvwxyz~"] : List Str), 0 < g.cps.toList.length ∧ g.cps.toList.length < 1000 ∧ ∀ c ∈ g.cps.toList, c ∈ signs.cps.toList := by decide +kernel
      have e : ([.str ".0", .str "ab~", .str ".0123456789abcdefghijklmnopqrstuvwxyz~"] : List V) = ([".0", "ab~", ".0123456789abcdefghijklmnopqrstuvwxyz~"] : List Str).map V.str := rfl
      rw [e] at hv
      obtain ⟨g, h1, h2⟩ := List.mem_map.mp hv
      exact ⟨g, h2.symm, a g h1⟩
    have M1 : Ladled p H G1 := L0.trans L1
    refine ⟨⟨_, rfl⟩, _, rfl, n, rfl, by omega, by omega, fun M nM => lc_range (lo := 0) (n := n.toNat) (fun i J => ∃ cs : List Nat, cs.length = i ∧ (∀ c ∈ cs, c ∈ signs.cps.toList) ∧ J M = some (.lst (ones cs)) ∧ Ladled p H J)
      ⟨[], rfl, (fun c hc => by cases hc), upd_same, M1.mut (M1.free nM) (M1.pot.ne nM)⟩ ?_ ?_⟩
    · rintro i J hi ⟨cs, rfl, hc, eM, L⟩
      have hM : H M = none := M1.free nM
      refine ⟨rfl, yes (iteT ⟨_, rfl, _, rfl, p, L.pot, .inr ⟨g, rfl, g0, g1, fun c G c1 L2 => ?_⟩⟩)⟩
      have gM := L2.keep _ _ eM (hp.ne hM)
      refine ⟨_, gM, small1000 (by unfold ones; rw [List.length_map]; omega), cs ++ [c], by rw [List.length_append]; rfl, fun d hd => ?_, ?_, (L.trans L2).mut hM (hp.ne hM)⟩
      · rcases List.mem_append.mp hd with hd | hd
        · exact hc d hd
        · rw [List.mem_singleton.mp hd]
          exact gs c c1
      · rw [upd_same]
        unfold ones
        rw [List.map_append]
        rfl
    · rintro J ⟨cs, el, hc, eM, L⟩
      rw [ones_map] at eM
      refine ⟨_, M, _, rfl, rfl, .inl (.inl (.inl eM)), ?_, k _ J L ?_ ?_⟩
      · rw [ones_len, List.length_map]
        have e0 : (("" : String) : Str).length = 0 := by decide +kernel
        rw [e0]
        omega
      · rw [tjoin_ones]
        exact el
      · unfold isTxt
        rw [tjoin_ones, Bool.and_eq_true, List.all_eq_true]
        refine ⟨decide_eq_true ?_, fun c h => decide_eq_true (hc c h)⟩
        show ((Txt.join "" (cs.map one)).cps.toList.length : Int) ≤ 200
        rw [tjoin_ones]
        omega
end
end Gu
namespace Gu
open PySem PySem.Spec PyProof.Rows L2
section
variable {P : Program} {w : World} {K : PySem.W.Frag} {mg : Str → Option Value} {base : Heap} {C : Addr}
theorem Ladled.row {C : Addr} {H G : Hp} {p a : Addr} {rs : List (Addr × Rec)} (L : Ladled p H G) (hp : Pot H p) (h : RowAt C H a rs) : RowAt C G a rs := by
  obtain ⟨x, y, z, e⟩ := hp
  refine ⟨L.keep _ _ h.tp (ne_of h.tp e (by intro z; cases z)), fun q hq => ⟨?_, (h.sh q hq).2⟩⟩
  obtain ⟨dx, b, h1, h2⟩ := (h.sh q hq).1
  exact ⟨dx, b, L.keep _ _ h1 (ne_of h1 e (by intro z; cases z)), L.keep _ _ h2 (ne_of h2 e (by intro z; cases z))⟩
theorem Ladled.tolds {H G : Hp} {p D : Addr} {ps : List (Addr × Rec)} (L : Ladled p H G) (n : D ≠ p) (nq : ∀ q ∈ ps, q.1 ≠ p) (h : ToldsAt H D ps) : ToldsAt G D ps := ⟨L.keep _ _ h.ls n, fun q hq => ⟨L.keep _ _ (h.tp q hq).1 (nq q hq), (h.tp q hq).2⟩⟩
/-! ### signs stay signs -/
def Signs (xs : List Nat) : Prop := ∀ c ∈ xs, c ∈ signs.cps.toList
theorem isTxt_signs {z : Str} {m : Int} (h : isTxt z m = true) : Signs z.cps.toList := by
  unfold isTxt at h
  rw [Bool.and_eq_true, List.all_eq_true] at h
  exact fun c hc => of_decide_eq_true (h.2 c hc)
theorem cut_signs {l h t : Nat} {m xs : List Nat} (hm : Signs m) (hx : Signs xs) : Signs (cut l h t m xs) := by
  unfold cut
  split
  · exact hx
  · intro c hc
    rcases List.mem_append.mp hc with hc | hc
    · rcases List.mem_append.mp hc with hc | hc
      · exact hx c (List.mem_of_mem_take hc)
      · exact hm c hc
    · exact hx c (List.mem_of_mem_drop hc)
theorem cuts_signs : ∀ (rs : List Rec) {xs : List Nat}, (∀ r ∈ rs, r.fit) → Signs xs → Signs (cuts rs xs)
  | [], _, _, h => h
  | r :: rs, xs, hf, h => cuts_signs rs (xs := r.cut xs) (fun q hq => hf q (List.mem_cons_of_mem _ hq)) (cut_signs (isTxt_signs (hf r (List.mem_cons_self ..)).z) h)
theorem signs_ok {y : Str} (h : Signs y.cps.toList) : (PyData.str y).canLay0 = true := by
  have a : ∀ c ∈ signs.cps.toList, c < 0x110000 := by decide +kernel
  show y.cps.all _ = true
  rw [← Array.all_toList, List.all_eq_true]
  exact fun c hc => decide_eq_true (a c (h c hc))
theorem shaped_two {y z : Str} (hy : Signs y.cps.toList) (hz : Signs z.cps.toList) : SeqAt.shaped (.list [.str y, .str z]) = true := by
  have a := signs_ok hy
  have b := signs_ok hz
  show ((PyData.str y).canLay0 && ((PyData.str z).canLay0 && true) && true) = true
  rw [a, b]
  rfl
end
end Gu
namespace Gu
open PySem PySem.Spec PyProof.Rows L2
/-! ### defs that are called where no container is being written out -/
structure FnG (P : Program) (w : World) (K : PySem.W.Frag) (mg : Str → Option Value) (base : Heap) (k : Nat) (f : Addr) (fd : FuncData) (ps : List Str) (sp : Sp) : Prop where
  len : ∀ vs H Q E, sp vs H Q E → vs.length = ps.length
  run : ∀ (A : Around) (outer : List Env) (s : Shared) (H : Hp) (args : Args) (us : List Value) (vs : List V) (Q : VK) (E : XK), Room k A → A.guards = some [] → Env0 P w K mg base A outer s H → BindsTo s fd args (ps.zip us) → Vals vs us → sp vs H Q E →
    codeAny (model P w) A (.call (.ref f) args) (CR CX0 outer P w H s Q E) s
section
variable {P : Program} {w : World} {K : PySem.W.Frag} {mg : Str → Option Value} {base : Heap}
theorem okG {x qual : Str} {st : Stmt} {f : Addr} {fd : FuncData} {N ps : List Str} {k : Nat} {sp : Sp} (F : Fun K x qual st f fd) (S : FnScope N ps (defScope st)) (len : ∀ vs H Q E, sp vs H Q E → vs.length = ps.length)
    (body : ∀ (cdv : Value) (A : Around) (outer : List Env) (s : Shared) (H : Hp) (vs : List V) (Q : VK) (E : XK), Room k (A.deeper (envOfC qual (defScope st) s.heap.objs.size f cdv)) → A.guards = some [] → sp vs H Q E →
      ∃ t, PSs (cxOf CX0 P w K mg base N qual (defScope st) f cdv A outer s H E).nox (defBody st) t ∧ t { nx := fun _ G => Q .non G, rt := Q } (start N vs) H) : FnG P w K mg base (k + 1) f fd ps sp := by
  obtain ⟨oc, od, kV, doc, pm, an, cdv, ct, osl, rfl, lk, hcd⟩ := F.ex
  refine ⟨len, fun A outer s H args us vs Q E room quiet env binds rel want => ?_⟩
  have stays : ∀ b o, base.get? b = some o → s.heap.get? b = some o := fun b o e => (env.bs b o e).1
  have inK : K.In s.heap := env.mod.kin.keeps stays
  have free : s.heap.NoLimit := env.mod.nolimit.keeps stays
  refine codeAny_call_function room.depth (inK _ _ lk) rfl S.co S.gen rfl (PySem.W.codeRec_of inK hcd) (binds _ _ _ _ ?_)
  refine wpAny_newFunctionEnv_cells S.kind (fun ⟨n, v⟩ hy => (S.par n (List.of_mem_zip hy).1).imp id fun q => ⟨q, PySem.W.cellsFrom_some _ _ _ (.inl q)⟩) fun env1 e1 s1 c1 => ?_
  subst e1
  refine ⟨free.keeps c1.toInCall.keep, codeAny_func ?_⟩
  obtain ⟨t, d, q⟩ := body cdv A outer s H vs Q E (room.deeper _) quiet want
  refine wpAny_mono (d.nox.run [] s1 (start N vs) H _ (inv_start S room.hd env (len _ _ _ _ want) rel c1) q) (fun fl s2 h2 => ?_) fun e s2 h2 => h2
  cases fl with
  | ret u =>
    obtain ⟨v, σ2, G, J, rv, r⟩ := h2
    exact ⟨v, G, J.os, J.bare, J.base, J.hok, rv, r⟩
  | next =>
    obtain ⟨σ2, G, J, r⟩ := h2
    exact ⟨V.non, G, J.os, J.bare, J.base, J.hok, rfl, r⟩
  | brk => exact (h2.choose_spec.choose_spec.2 : False).elim
  | cont => exact (h2.choose_spec.choose_spec.2 : False).elim
structure CalG (P : Program) (w : World) (K : PySem.W.Frag) (mg : Str → Option Value) (base : Heap) (k : Nat) (x : Str) (ps : List Str) (sp : Sp) : Prop where
  ex : ∃ (f : Addr) (fd : FuncData), FnG P w K mg base k f fd ps sp ∧ mg x = some (.ref f) ∧ PySem.W.keepIn K (.ref f) = true ∧ Binds K fd ps []
theorem At.calG {x : Str} {st : Stmt} {N ps : List Str} {k : Nat} {sp : Sp} (D : At K mg x st ps) (S : FnScope N ps (defScope st)) (len : ∀ vs H Q E, sp vs H Q E → vs.length = ps.length)
    (body : ∀ (f : Addr) (cdv : Value) (A : Around) (outer : List Env) (s : Shared) (H : Hp) (vs : List V) (Q : VK) (E : XK), Room k (A.deeper (envOfC x (defScope st) s.heap.objs.size f cdv)) → A.guards = some [] → sp vs H Q E →
      ∃ t, PSs (cxOf CX0 P w K mg base N x (defScope st) f cdv A outer s H E).nox (defBody st) t ∧ t { nx := fun _ G => Q .non G, rt := Q } (start N vs) H) : CalG P w K mg base (k + 1) x ps sp := by
  obtain ⟨f, fd, F, b, g⟩ := D.ex
  exact ⟨f, fd, okG F S len (body f), g, F.kp, b⟩
end
def tCallG (sp : Sp) (t : TA) : TE := fun σ H Q => t σ H fun vs G => sp vs G Q E0
section
variable {X : Cx} {k j : Nat} {x : Str} {ps : List Str} {sp : Sp} {p pos : Pos} {e : Expr} {es : List Expr} {t : TA}
theorem pe_ownG (c : CalG X.prog X.w X.K X.mg X.base k x ps sp) (hr : Room j X.A) (hk : k ≤ j) (quiet : X.A.guards = some []) (hg : Gl X x) (ha : PA X (e :: es) t)
    (hdb : (x == ("__debug__" : Str)) = false := by decide) (he : starEach (e :: es) X.env = (false, eval e X.env) :: starEach es X.env := by rfl) (hpl : (backTo pos (starEach es X.env)).any (·.1) = false := by rfl) :
    PE X (.Call (.Name x p) (e :: es) [] pos) (tCallG sp t) := by
  obtain ⟨f, fd, F, hm, kp, b⟩ := c.ex
  refine ⟨fun pins s σ H Q I h => wpAny_Call_Name_kw (ld_glob I hg hm (PySem.W.callWith_K (h₀ := X.base) I.ok.mod.kin kp (thn (ha.run pos pins s σ H _ I h) fun us s1 ⟨vs, G, I1, r, q⟩ => ⟨I1.kIn, ?_⟩) he hpl) hdb)⟩
  have ll : (us ++ []).length = ps.length := by
    rw [List.append_nil, ← r.length]
    exact F.len _ _ _ _ q
  have bt := b s1 us I1.kIn ll
  rw [List.append_nil] at bt
  refine wpAny_call (codeAny_mono (F.run X.A X.stack s1 G ⟨us, []⟩ us vs Q E0 (hr.mono hk) quiet I1.env0 bt r q) fun rr s2 h2 => ?_)
  cases rr with
  | error e => exact (h2 : False).elim
  | ok fl =>
    cases fl with
    | ret u => exact I1.after h2
    | next => exact (h2 : False).elim
    | brk => exact (h2 : False).elim
    | cont => exact (h2 : False).elim
end
end Gu
namespace Gu
open PySem PySem.Spec PyProof.Rows L2
/-- a heap in which nothing is tracked but, at most, the script at a, which stands still there -/
theorem quiet_end {P : Program} {w : World} {K : PySem.W.Frag} {mg mb : Str → Option Value} {k : Nat} {fa a : Addr} {fd : FuncData} {x : Str} {sp : Sp} {s : Shared} {us : List Value} {H : Hp} (inK : K.In s.heap) (nsG : s.heap.Ns mainGlobals mg) (nsB : s.heap.Ns builtinsNs mb)
    (bb : ∀ x : Str, x ≠ "__name__" → mb x = bootBuiltins x) (nl : s.heap.NoLimit) (ng : s.gens = #[]) (at_a : s.heap.get? a = some { cls := .type "list", data := .seq us.toArray }) (room : Room k callerA)
    (F : ∀ base : Heap, K.In base → base.Ns mainGlobals mg → FnG P w K mg base k fa fd [x] sp) (bind : ∀ (s : Shared) (u : Value), BindsTo s fd ⟨[u], []⟩ [(x, u)]) (want : sp [.ref a] H (fun v _ => v = .bl true) fun _ _ _ => False)
    (only : Only H) (ok : HOk P w H s.heap) (one : ∀ b, H b ≠ none → b = a ∧ K.lookup a = none) :
    codeAny (model P w) callerA (.call (.ref fa) ⟨[.ref a], []⟩) (fun r s2 => r = .ok (.ret (.bool true)) ∧ OldK s.heap s2.heap ∧ s2.os = s.os ∧ AllBare s2.gens) s := by
  have dictFree : ∀ (b : Addr) (o : Obj) (es : Array DictEntry) (ep : Nat), s.heap.get? b = some o → o.data = .dict es ep → H b = none := fun b o es ep e d =>
    Classical.byContradiction fun z => by
      have hb := (one b z).1
      rw [hb, at_a] at e
      cases e
      exact Data.noConfusion d
  have hiddenNs : ∀ (b : Addr) (m : Str → Option Value), s.heap.Ns b m → (hidT s.heap H).Ns b m := fun b m h => by
    obtain ⟨o, es, ep, e, d, r⟩ := h
    exact ⟨o, es, ep, hidT_get e (dictFree b o es ep e d), d, r⟩
  have hiddenK : K.In (hidT s.heap H) := fun b o e => hidT_get (inK b o e) (Classical.byContradiction fun z => by
    obtain ⟨h1, h2⟩ := one b z
    rw [h1, h2] at e
    cases e)
  have env : Env0 P w K mg (hidT s.heap H) callerA [] s H := by
    refine ⟨rfl, ⟨hiddenK, hiddenNs _ _ nsG, ⟨mb, hiddenNs _ _ nsB, bb⟩, ?_⟩, fun b o e => of_hidT e, Nat.le_of_eq (hidT_size _ _), trivial, fun b hb => absurd (show b ∈ ([] : List Addr) from hb) List.not_mem_nil, ok, .of_eq ng⟩
    obtain ⟨mc, h1, h2⟩ := nl
    exact ⟨mc, hiddenNs _ _ h1, h2⟩
  refine codeAny_mono ((F _ hiddenK (hiddenNs _ _ nsG)).run callerA [] s H ⟨[.ref a], []⟩ [.ref a] [.ref a] _ _ room rfl env (bind s (.ref a)) (.cons rfl .nil) want) fun r s2 h2 => ?_
  cases r with
  | error e => exact (h2 : False).elim
  | ok fl =>
    cases fl with
    | next => exact (h2 : False).elim
    | brk => exact (h2 : False).elim
    | cont => exact (h2 : False).elim
    | ret u =>
      obtain ⟨v, G, os, bare, un, ok2, rv, hv⟩ := h2
      cases (show v = .bl true from hv)
      cases (show u = Value.bool true from rv)
      refine ⟨rfl, OldK.of_keep fun b o e => ?_, os, bare⟩
      rcases only b with z | ⟨ob, xs, z⟩
      · exact un.keep b o e z (fun y => absurd (show b ∈ ([] : List Addr) from y) List.not_mem_nil) (by simp)
      · have e1 := (ok b _ z).1
        have e2 := (ok2 b _ (un.frzs b ob _ z)).1
        rw [e] at e1
        cases e1
        exact e2
/-- the law's call, by its promise -/
theorem quiet_call {P : Program} {w : World} {K : PySem.W.Frag} {mg mb : Str → Option Value} {k : Nat} {fa a : Addr} {fd : FuncData} {x : Str} {sp : Sp} {s : Shared} {us : List Value} {ns : List Int} (inK : K.In s.heap) (nsG : s.heap.Ns mainGlobals mg) (nsB : s.heap.Ns builtinsNs mb)
    (bb : ∀ x : Str, x ≠ "__name__" → mb x = bootBuiltins x) (nl : s.heap.NoLimit) (ng : s.gens = #[]) (at_a : s.heap.get? a = some { cls := .type "list", data := .seq us.toArray }) (nums : IntsAre us ns) (small : ns.length ≤ sizeLine) (room : Room k callerA)
    (F : ∀ base : Heap, K.In base → base.Ns mainGlobals mg → FnG P w K mg base k fa fd [x] sp) (bind : ∀ (s : Shared) (u : Value), BindsTo s fd ⟨[u], []⟩ [(x, u)])
    (want : ∀ H : Hp, SqL K H a (ns.map V.int) → sp [.ref a] H (fun v _ => v = .bl true) fun _ _ _ => False) :
    codeAny (model P w) callerA (.call (.ref fa) ⟨[.ref a], []⟩) (fun r s2 => r = .ok (.ret (.bool true)) ∧ OldK s.heap s2.heap ∧ s2.os = s.os ∧ AllBare s2.gens) s := by
  have rel := vals_ints nums
  cases hk : K.lookup a with
  | some o =>
    have e := inK a o hk
    rw [at_a] at e
    cases e
    refine quiet_end (H := fun _ => none) inK nsG nsB bb nl ng at_a room F bind (want _ (.inr ⟨_, us.toArray, _, hk, rfl, rfl, rfl, ?_, rel⟩)) (fun _ => .inl rfl) (fun b u z => nomatch (show (none : Option HO) = some u from z)) fun b z => absurd rfl z
    rw [List.size_toArray, nums.length]
    exact small
  | none =>
    refine quiet_end (H := upd (fun _ => none) a (.frz { cls := .type "list", data := .seq us.toArray } (.lst (ns.map V.int)))) inK nsG nsB bb nl ng at_a room F bind (want _ (.inl (.inr ⟨_, upd_same⟩))) (fun b => ?_) (fun b u z => ?_) fun b z => ?_
    · by_cases hb : b = a
      · exact .inr ⟨_, _, by rw [hb]; exact upd_same⟩
      · exact .inl (upd_ne hb)
    · by_cases hb : b = a
      · subst hb
        rw [upd_same] at z
        cases z
        exact ⟨at_a, by rw [List.length_map]; exact small, us, _, rel, at_a⟩
      · rw [upd_ne hb] at z
        cases z
    · by_cases hb : b = a
      · exact ⟨hb, hk⟩
      · exact absurd (upd_ne hb) z
theorem walkG {l : PySem.W.OpenLaw} {n k : Nat} {q : Program} {loose : List Str} {XP : (Str → Option Value) → Heap → Prop} {YP : World → Heap → Prop} {d : DefRec} {K : Params → PySem.W.Frag} {x : Str} {sp : PySem.W.Frag → Sp} (most : l.most = some n) (small : n ≤ sizeLine) (plain : d.params.defaults = []) (room : Room k callerA)
    (left : ∀ (w : World) (h : Heap), YP w h → (K w.params).In h)
    (F : ∀ (w : World) (mg : Str → Option Value) (fa : Addr) (h : Heap), (K w.params).In h → h.Ns mainGlobals mg → mg d.name = some (.ref fa) → ∃ fd : FuncData, (∀ (s : Shared) (u : Value), BindsTo s fd ⟨[u], []⟩ [(x, u)]) ∧
      ∀ base : Heap, (K w.params).In base → base.Ns mainGlobals mg → FnG l.prog w (K w.params) mg base k fa fd [x] (sp (K w.params)))
    (want : ∀ (w : World) (H : Hp) (a : Addr) (ns : List Int), ns.length ≤ n → SqL (K w.params) H a (ns.map V.int) → sp (K w.params) [.ref a] H (fun v _ => v = .bl true) fun _ _ _ => False) :
    PySem.W.WalkO q loose XP YP l.row.toRowW d [] (fun f vs => PySem.call f vs) := by
  refine Att.attach_call most plain fun w s0 s mg mb fa o pm cd doc a us ns G Y ho hd hcd hmg at_a nums le ng => ?_
  obtain ⟨fd, bind, fn⟩ := F w mg fa _ (left w _ Y) G.T.g hmg
  exact quiet_call (left w _ Y) G.T.g G.T.b G.T.builtins G.T.nolimit ng at_a nums (Nat.le_trans le small) room fn bind fun H hS => want w H a ns le hS
end Gu
namespace Gu
open PySem PySem.Spec PyProof.Rows L2
/-! ### what can be written out -/
structure Fine (n W : Nat) (d : PyData) : Prop where
  nd : d.hasDict = false
  sh : d.showable = true
  ls : d.leavesShort 80 = true
  dp : d.depth ≤ n
  wt : d.weight ≤ W
structure FineAll (n W : Nat) (ds : List PyData) : Prop where
  nd : PyData.hasDictAll ds = false
  sh : PyData.showableAll ds = true
  ls : PyData.leavesShortAll 80 ds = true
  dp : PyData.depthAll ds ≤ n
  wt : PyData.weightAll ds ≤ ds.length * (W + 1)
theorem FineAll.of {n W : Nat} : ∀ {ds : List PyData}, (∀ d ∈ ds, Fine n W d) → FineAll n W ds
  | [], _ => ⟨rfl, rfl, rfl, Nat.zero_le _, Nat.zero_le _⟩
  | d :: ds, h => by
    have a := h d (List.mem_cons_self ..)
    have b := FineAll.of (ds := ds) fun e he => h e (List.mem_cons_of_mem _ he)
    refine ⟨?_, ?_, ?_, Nat.max_le.mpr ⟨a.dp, b.dp⟩, ?_⟩
    · show (d.hasDict || PyData.hasDictAll ds) = false
      rw [a.nd, b.nd]
      rfl
    · show (d.showable && PyData.showableAll ds) = true
      rw [a.sh, b.sh]
      rfl
    · show (d.leavesShort 80 && PyData.leavesShortAll 80 ds) = true
      rw [a.ls, b.ls]
      rfl
    · show d.weight + 1 + PyData.weightAll ds ≤ (ds.length + 1) * (W + 1)
      have := a.wt
      have := b.wt
      rw [Nat.succ_mul]
      omega
theorem FineAll.list {n W : Nat} {ds : List PyData} (a : FineAll n W ds) : Fine (n + 1) (ds.length * (W + 1)) (.list ds) := ⟨a.nd, a.sh, a.ls, Nat.succ_le_succ a.dp, a.wt⟩
theorem FineAll.tup {n W : Nat} {ds : List PyData} (a : FineAll n W ds) : Fine (n + 1) (ds.length * (W + 1)) (.tuple ds) := ⟨a.nd, a.sh, a.ls, Nat.succ_le_succ a.dp, a.wt⟩
theorem Fine.mono {n m W Z : Nat} {d : PyData} (h : Fine n W d) (a : n ≤ m) (b : W ≤ Z) : Fine m Z d := ⟨h.nd, h.sh, h.ls, Nat.le_trans h.dp a, Nat.le_trans h.wt b⟩
theorem Fine.bool (b : Bool) : Fine 0 0 (.bool b) := ⟨rfl, rfl, rfl, Nat.le_refl _, Nat.le_refl _⟩
theorem Fine.none : Fine 0 0 .none := ⟨rfl, rfl, rfl, Nat.le_refl _, Nat.le_refl _⟩
theorem Fine.int {i : Int} (h : i.natAbs < 2 ^ 70) : Fine 0 70 (.int i) := by
  have l : i.natAbs.log2 < 70 := PySem.Flt.log2_lt_of (by decide) h
  refine ⟨rfl, decide_eq_true (by omega), decide_eq_true ?_, Nat.le_refl _, ?_⟩
  · have e := int_text_length_le (a := i) (k := 70) (by decide) l
    show (Str.ofString (toString i)).length ≤ 80
    rw [PySem.ofString_length]
    omega
  · show (if i == 0 then 0 else i.natAbs.log2 + 1) ≤ 70
    split <;> omega
theorem Fine.str {z : Str} {W : Nat} (h : ∀ c ∈ z.cps.toList, c < 16 ^ 8) (w : z.cps.toList.length ≤ W) : Fine 0 W (.str z) := by
  refine ⟨rfl, rfl, ?_, Nat.le_refl _, w⟩
  show (z.cps.toList.all fun c => decide (c < 16 ^ 8)) = true
  rw [List.all_eq_true]
  exact fun c hc => decide_eq_true (h c hc)
theorem Fine.fits {d : PyData} (h : Fine 60 100000 d) : d.shown.length ≤ sizeLine := by
  have a := PyData.shown_le 80 (by decide) d h.ls
  have b := h.wt
  have c : (80 + 2) * d.weight ≤ 82 * 100000 := Nat.mul_le_mul_left _ b
  have e : sizeLine = 16777216 := by decide
  omega
section
variable {X : Cx}
/-- repr of a list or tuple, where none is being written out -/
theorem call_reprD (quiet : X.A.guards = some []) (hu : X.A.units + 64 < cLine) : CallR X (.builtin "repr") (fun xs H Q => ∃ (a : Addr) (d : PyData), xs = [.ref a] ∧ Dp X.K H (.ref a) d ∧ Fine 60 100000 d ∧ Q (.str d.shown) H) := by
  intro pins s σ H xs us Q I r h
  obtain ⟨a, d, rfl, hd, fine, q⟩ := h
  cases r with
  | cons r rr =>
    cases rr
    cases (show _ = Value.ref a from r)
    obtain ⟨as, rd⟩ := Dp.reads I d (.ref a) (.ref a) hd rfl
    have dp := fine.dp
    exact repr_of_reads' rd fine.sh (PyData.noDict_hsm fine.nd) quiet (by omega) (fun _ _ e => e) (fun g u tk keep => ⟨.str d.shown, H, I.kept (t' := tk) keep, ⟨_, rfl⟩, q⟩) fine.fits
end
end Gu
namespace Gu
open PySem PySem.Spec PyProof.Rows L2
/-! ### tuples: cut, joined, made of a text -/
section
variable {K : PySem.W.Frag} {H : Hp} {a b : Addr} {xs ys : List V} {Q : VK}
theorem cat_ok (ha : H a = some (.tup xs)) (hb : H b = some (.tup ys)) (hl : xs.length + ys.length ≤ sizeLine) (q : ∀ U G, Same H G → G U = some (.tup (xs ++ ys)) → Q (.ref U) G) : rCatA K (.ref a) (.ref b) H Q := by
  refine ⟨a, b, xs, ys, rfl, rfl, .inl (.inl ha), .inl (.inl hb), hl, fun e => q b H (Same.refl H) ?_, fun _ e => q a H (Same.refl H) ?_, fun _ _ p np => q p _ (same_new np) upd_same⟩
  · rw [e]
    exact hb
  · rw [e, List.append_nil]
    exact ha
theorem sl_ok {lo hi : Option Int} (ha : H a = some (.tup xs)) (q : ∀ U G, Same H G → G U = some (.tup (cutV xs lo hi)) → Q (.ref U) G) : rSlA K (.ref a) lo hi H Q := by
  refine ⟨a, xs, rfl, .inl (.inl ha), fun ⟨e1, e2⟩ => q a H (Same.refl H) ?_, fun _ p np => q p _ (same_new np) upd_same⟩
  unfold cutV
  rw [e1, e2, List.drop_zero, Nat.sub_zero, List.take_length]
  exact ha
end
theorem noPart {σ : L2.St} {H : Hp} {Q : Option Int → Hp → Prop} (h : Q none H) : tNoPart σ H Q := h
theorem call_tupS {X : Cx} (hc : X.calm = true) : CallR X (.type "tuple") (fun vs H Q => ∃ z : Str, vs = [.str z] ∧ z.cps.toList.length ≤ 1000 ∧ ∀ q, H q = none → Q (.ref q) (upd H q (.tup (ones z.cps.toList)))) := by
  intro pins s σ H vs us Q I r h
  obtain ⟨z, rfl, hz, q⟩ := h
  cases r with
  | cons r rr =>
    cases rr
    obtain ⟨t, rfl⟩ := r
    have zs : z.cps.size ≤ sizeLine := Nat.le_of_lt (small1000 hz)
    refine call_tuple_str (I.ok.hd hc) z t (fun g tk acc keep its => ?_) zs
    have I2 : Inv X pins σ H { s with heap := g, toks := tk } := I.kept keep
    have rel : Vals (ones z.cps.toList) acc.toList := by
      have el : acc.toList.length = z.cps.toList.length := its.1
      have e : ones z.cps.toList = (List.range acc.toList.length).map fun j => V.str (one (z.cps.toList.getD j 0)) := by
        unfold ones
        rw [el]
        refine List.ext_getElem? fun j => ?_
        rw [List.getElem?_map, List.getElem?_map]
        by_cases hj : j < z.cps.toList.length
        · rw [List.getElem?_eq_getElem hj, List.getElem?_range hj]
          show some (V.str (one z.cps.toList[j])) = some (V.str (one (z.cps.toList.getD j 0)))
          rw [List.getD_eq_getElem?_getD, List.getElem?_eq_getElem hj]
          rfl
        · rw [List.getElem?_eq_none (by omega), List.getElem?_eq_none (by rw [List.length_range]; omega)]
          rfl
      rw [e]
      refine vals_of_get acc.toList _ fun j u hj => ?_
      obtain ⟨c, tt, hc1, rfl⟩ := its.2 j u (by rw [← hj, Array.getElem?_toList])
      refine ⟨tt, ?_⟩
      rw [List.getD_eq_getElem?_getD, Array.getElem?_toList, hc1]
      rfl
    refine ⟨.ref g.objs.size, upd H g.objs.size (.tup (ones z.cps.toList)), I2.laid (t' := tk) (fun c o e => Heap.get?_push_of_some _ e) (Nat.le_refl _) (show ObjOk X.prog X.w _ _ _ (.tup (ones z.cps.toList)) from ⟨?_, acc.toList, rel, ?_⟩), rfl, q _ (I2.hok.fresh (Nat.le_refl _))⟩
    · unfold ones
      rw [List.length_map]
      exact zs
    · rw [Array.toArray_toList]
      exact IsTup.new _ _
def rLenK (K : PySem.W.Frag) : List V → Hp → VK → Prop := fun xs H Q => ∃ (x : V) (n : Nat), xs = [x] ∧ LenV K x H n ∧ Q (.int n) H
/-! ### lengths of what is cut -/
def Rec.len (r : Rec) (n : Nat) : Nat := if n ≤ r.l.toNat then n else min r.h.toNat n + r.z.cps.toList.length + min r.t.toNat n
def lens (rs : List Rec) (n : Nat) : Nat := rs.foldl (fun n r => r.len n) n
theorem cut_len (r : Rec) (xs : List V) : (cut r.l.toNat r.h.toNat r.t.toNat (ones r.z.cps.toList) xs).length = r.len xs.length := by
  unfold cut Rec.len
  split
  · rfl
  · rw [List.length_append, List.length_append, List.length_take, List.length_drop]
    unfold ones
    rw [List.length_map]
    omega
theorem cutsV_length : ∀ (rs : List Rec) (xs : List V), (cutsV rs xs).length = lens rs xs.length
  | [], _ => rfl
  | r :: rs, xs => by
    show (cutsV rs (cut r.l.toNat r.h.toNat r.t.toNat (ones r.z.cps.toList) xs)).length = lens rs (r.len xs.length)
    rw [cutsV_length rs, cut_len]
theorem Rec.fit.len_le {r : Rec} (f : r.fit) {n : Nat} (h : n ≤ 500) : r.len n ≤ 500 := by
  have a := f.zl
  have b := f.h
  have c := f.t
  unfold Rec.len
  split <;> omega
theorem lens_le : ∀ (rs : List Rec) {n : Nat}, (∀ r ∈ rs, r.fit) → n ≤ 500 → lens rs n ≤ 500
  | [], _, _, h => h
  | r :: rs, n, hf, h => lens_le rs (n := r.len n) (fun q hq => hf q (List.mem_cons_of_mem _ hq)) ((hf r (List.mem_cons_self ..)).len_le h)
/-- from 41 signs on all is as for 41 -/
theorem lens_far {rs : List Rec} (hf : ∀ r ∈ rs, r.fit) (h1 : 1 ≤ rs.length) {n : Nat} (h : 41 ≤ n) : lens rs n = lens rs 41 := by
  cases rs with
  | nil => cases h1
  | cons r rs =>
    have f := hf r (List.mem_cons_self ..)
    have a := f.l
    have b := f.h
    have c := f.t
    have e : r.len n = r.len 41 := by
      unfold Rec.len
      rw [if_neg (by omega), if_neg (by omega)]
      omega
    show lens rs (r.len n) = lens rs (r.len 41)
    rw [e]
section
variable {P : Program} {w : World} {K : PySem.W.Frag} {mg : Str → Option Value} {base : Heap} {C : Addr}
/-! ### shortened: of a tuple -/
def spShortT (C : Addr) : Sp := fun vs H Q _ => ∃ (x W M : Addr) (r : Rec) (xs : List V), vs = [.ref x, .ref W, .ref M] ∧ ShAt C H x r ∧ r.fit ∧ H W = some (.tup xs) ∧ xs.length ≤ 1000 ∧ H M = some (.tup (ones r.z.cps.toList)) ∧
  ∀ U G, Same H G → G U = some (.tup (cut r.l.toNat r.h.toNat r.t.toNat (ones r.z.cps.toList) xs)) → Q (.ref U) G
theorem cal_shortT (B : Bi mg) (S : ShC K mg C) (D : At K mg "shortened" s_shortened ps_shortened) : Cal P w K mg base 1 "shortened" ps_shortened (spShortT C) := by
  refine D.cal sc_shortened (fun vs H Q E h => ?_) (fun f cdv A outer s H vs Q E hr h => ?_)
  · obtain ⟨x, W, M, r, xs, rfl, _⟩ := h
    rfl
  · obtain ⟨x, W, M, r, xs, rfl, ⟨dx, b, hx, _⟩, fit, hW, xl, hM, k⟩ := h
    have f1 := fit.l
    have f2 := fit.h
    have f3 := fit.t
    have f4 := fit.zl
    have ol : (ones r.z.cps.toList).length = r.z.cps.toList.length := by
      unfold ones
      rw [List.length_map]
    refine ⟨_, (pss_cons (ps_if (pt_cmpR op_le (pe_callB call_len (by rfl) B.len (by decide +kernel) (pa_cons (pv 1) pa_nil)) (pe_fld (pv 0) rfl) (nomark _)) (pss_one (ps_ret (pv 1))) pss_nil)
      (pss_cons (ps_set (i := 3) sc_shortened.nd rfl (.inl rfl) (pe_callB (call_max2 rfl) (by rfl) B.max (by decide +kernel) (pa_cons pe_int (pa_cons (pe_op op_sub (pe_callB call_len (by rfl) B.len (by decide +kernel) (pa_cons (pv 1) pa_nil)) (pe_fld (pv 0) rfl)) pa_nil))))
      (pss_one (ps_ret (pe_op op_catA (pe_op op_catA (pe_slice sl_tupA (pv 1) po_none (po_some (pe_fld (pv 0) rfl))) (pv 2)) (pe_slice sl_tupA (pv 1) (po_some (pv 3)) po_none)))))), ?_⟩
    refine ⟨_, rfl, _, _, rfl, .inr ⟨_, .inl (.inl hW), rfl⟩, _, rfl, x, C, dx, _, _, rfl, hx, S.cl, S.nL, flds_limit _ _, _, _, rfl, rfl, _, rfl, ite2 (fun e => ?_) (fun e => ?_)⟩
    · have e1 := of_decide_eq_true e
      refine ⟨_, rfl, k W H (Same.refl H) ?_⟩
      unfold cut
      rw [if_pos (by omega)]
      exact hW
    · have e1 : ¬ (xs.length : Int) ≤ r.l := fun h => e (decide_eq_true h)
      refine ⟨_, rfl, _, _, rfl, .inr ⟨_, .inl (.inl hW), rfl⟩, _, rfl, x, C, dx, _, _, rfl, hx, S.cl, S.nT, flds_tail _ _, _, _, rfl, rfl, _, _, rfl, ?_⟩
      refine ⟨_, rfl, _, rfl, x, C, dx, _, _, rfl, hx, S.cl, S.nH, flds_head _ _, _, rfl, sl_ok hW fun U1 G1 s1 e1 => ?_⟩
      have c1 : cutV xs none (some r.h) = xs.take r.h.toNat := cut_front xs f2.1
      rw [c1] at e1
      refine ⟨_, rfl, cat_ok e1 (s1 _ _ hM) (Nat.le_of_lt (Nat.lt_of_le_of_lt (show _ ≤ 2000 by rw [List.length_take]; omega) (by decide))) fun U2 G2 s2 e2 => ?_⟩
      refine ⟨_, rfl, _, rfl, _, rfl, ?_⟩
      refine noPart ?_
      refine sl_ok (s2 _ _ (s1 _ _ hW)) fun U3 G3 s3 e3 => ?_
      have c3 : cutV xs (some (if (xs.length : Int) - r.t > 0 then (xs.length : Int) - r.t else 0)) none = xs.drop (xs.length - r.t.toNat) := by
        have q := cut_back xs (h := if (xs.length : Int) - r.t > 0 then (xs.length : Int) - r.t else 0) (by split <;> omega)
        have n : (if (xs.length : Int) - r.t > 0 then (xs.length : Int) - r.t else 0).toNat = xs.length - r.t.toNat := by split <;> omega
        rw [n] at q
        exact q
      rw [c3] at e3
      refine cat_ok (s3 _ _ e2) e3 (Nat.le_of_lt (Nat.lt_of_le_of_lt (show _ ≤ 4000 by rw [List.length_append, List.length_take, List.length_drop]; omega) (by decide))) fun U4 G4 s4 e4 => k U4 G4 (s1.trans (s2.trans (s3.trans s4))) ?_
      rw [e4]
      unfold cut
      rw [if_neg (show ¬ xs.length ≤ r.l.toNat by omega)]
/-! ### planned, check_length, plan, widest -/
theorem cutsV_snoc' (rs : List (Addr × Rec)) {i : Nat} {q : Addr × Rec} (h : rs[i]? = some q) (xs : List V) :
    cutsV ((rs.take (i + 1)).map (·.2)) xs = cut q.2.l.toNat q.2.h.toNat q.2.t.toNat (ones q.2.z.cps.toList) (cutsV ((rs.take i).map (·.2)) xs) := cutsV_snoc rs h xs
def spPlanned (C : Addr) : Sp := fun vs H Q _ => ∃ (a : Addr) (n : Nat) (rs : List (Addr × Rec)), vs = [.ref a, .int (n : Int)] ∧ RowAt C H a rs ∧ n ≤ 500 ∧ ∀ U G, Same H G → G U = some (.tup (cutsV (rs.map (·.2)) (rgV 0 n))) → Q (.ref U) G
theorem cal_planned (B : Bi mg) (S : ShC K mg C) (D : At K mg "planned" s_planned ps_planned) (C_shortened : Cal P w K mg base 1 "shortened" ps_shortened (spShortT C)) : Cal P w K mg base 2 "planned" ps_planned (spPlanned C) := by
  refine D.cal sc_planned (fun vs H Q E h => ?_) (fun f cdv A outer s H vs Q E hr h => ?_)
  · obtain ⟨a, n, rs, rfl, _⟩ := h
    rfl
  · obtain ⟨a, n, rs, rfl, hR, hn, k⟩ := h
    refine ⟨_, (pss_cons (ps_set (i := 2) sc_planned.nd rfl (.inl rfl) (pe_tupRg (by rfl) (by rfl) B.tuple (prg_1 (by rfl) B.range (pv 1))))
      (pss_cons (ps_for PassesOwn.never rfl (pi_tup (pv 0)) (pg_name (i := 3) sc_planned.nd rfl (.inl rfl))
      (pss_one (ps_set (i := 2) sc_planned.nd rfl (.inl rfl) (pe_own C_shortened hr (by decide) (by rfl) (pa_cons (pv 3) (pa_cons (pv 2) (pa_cons (pe_callTy (call_tupS rfl) (by rfl) B.tuple (by decide +kernel) (pa_cons (pe_fld (pv 3) rfl) pa_nil)) pa_nil)))))))
      (pss_one (ps_ret (pv 2))))), ?_⟩
    refine ⟨_, rfl, _, rfl, RgOk.of_le (by omega) (by omega) (by omega) (by omega), fun T nT => ?_⟩
    have s0 : Same H (upd H T (.tup (rgV 0 n))) := same_new nT
    have R0 := hR.same s0
    refine ⟨_, rfl, a, rfl, ⟨_, .inl (.inl R0.tp)⟩, for_tup (K := K) (a := a) (xs := rs.map fun q => V.ref q.1) (fun i σ J => ∃ (U : Addr) (u : Option V), σ = [some (.ref a), some (.int (n : Int)), some (.ref U), u] ∧ Same H J ∧ J U = some (.tup (cutsV ((rs.take i).map (·.2)) (rgV 0 n))))
      ⟨T, none, rfl, s0, upd_same⟩ (fun i σ J _ ⟨_, _, _, sJ, _⟩ => .inl (.inl (sJ _ _ hR.tp))) ?_ ?_⟩
    · rintro i v σ J hi ⟨U, u, rfl, sJ, eU⟩
      rw [List.getElem?_map] at hi
      cases hq : rs[i]? with
      | none =>
        rw [hq] at hi
        cases hi
      | some q =>
        rw [hq] at hi
        cases hi
        obtain ⟨sq, fq⟩ := (hR.same sJ).sh q (List.mem_of_getElem? hq)
        obtain ⟨dx, b, e1, e2⟩ := id sq
        refine ⟨_, rfl, _, rfl, _, rfl, q.1, C, dx, _, _, rfl, e1, S.cl, S.nM, flds_mark _ _, q.2.z, rfl, by have := fq.zl; omega, fun M nM => ?_⟩
        have s1 : Same J (upd J M (.tup (ones q.2.z.cps.toList))) := same_new nM
        refine ⟨q.1, U, M, q.2, _, rfl, sq.same s1, fq, s1 _ _ eU, ?_, upd_same, fun U2 G s2 e3 => ⟨U2, _, rfl, sJ.trans (s1.trans s2), ?_⟩⟩
        · rw [cutsV_length]
          have := lens_le ((rs.take i).map (·.2)) (n := (rgV 0 n).length) (fun r hr => by
            obtain ⟨p, hp, rfl⟩ := List.mem_map.mp hr
            exact (hR.sh p (List.mem_of_mem_take hp)).2) (by rw [rgV_length]; omega)
          omega
        · rw [e3, cutsV_snoc' rs hq]
    · rintro σ J ⟨U, u, rfl, sJ, eU⟩
      rw [List.length_map, List.take_length] at eU
      exact ⟨_, rfl, k U J sJ eU⟩
def spCheckLength : Sp := fun vs H Q _ => ∃ (n : Nat), vs = [.int (n : Int)] ∧ n ≤ 500 ∧ Q .non H
def spPlan (C : Addr) : Sp := fun vs H Q _ => ∃ (a : Addr) (n : Nat) (rs : List (Addr × Rec)), vs = [.ref a, .int (n : Int)] ∧ RowAt C H a rs ∧ 1 ≤ rs.length ∧ rs.length ≤ 4 ∧ n ≤ 500 ∧ ∀ U G, Same H G → G U = some (.tup (cutsV (rs.map (·.2)) (rgV 0 n))) → Q (.ref U) G
def wides (rs : List Rec) (n : Nat) : List Int := (List.range n).map fun i => (lens rs i : Int)
def Top (m : Int) (ns : List Int) : Prop := m ∈ ns ∧ ∀ y ∈ ns, y ≤ m
theorem Top.one {m k : Int} {ns : List Int} (a : Top m ns) (b : Top k ns) : m = k := Int.le_antisymm (b.2 m a.1) (a.2 k b.1)
theorem wides_top {rs : List Rec} (hf : ∀ r ∈ rs, r.fit) (h1 : 1 ≤ rs.length) {m : Int} {n : Nat} (hn : 42 ≤ n) (h : Top m (wides rs 42)) : Top m (wides rs n) := by
  obtain ⟨a, b⟩ := h
  unfold wides at a b ⊢
  obtain ⟨i, hi, rfl⟩ := List.mem_map.mp a
  refine ⟨List.mem_map.mpr ⟨i, List.mem_range.mpr (by have := List.mem_range.mp hi; omega), rfl⟩, fun y hy => ?_⟩
  obtain ⟨j, hj, rfl⟩ := List.mem_map.mp hy
  by_cases hj2 : j < 42
  · exact b _ (List.mem_map.mpr ⟨j, List.mem_range.mpr hj2, rfl⟩)
  · rw [lens_far hf h1 (show 41 ≤ j by omega)]
    exact b _ (List.mem_map.mpr ⟨41, List.mem_range.mpr (by decide), rfl⟩)
def spWidest (C : Addr) : Sp := fun vs H Q _ => ∃ (a : Addr) (rs : List (Addr × Rec)), vs = [.ref a] ∧ RowAt C H a rs ∧ 1 ≤ rs.length ∧ rs.length ≤ 4 ∧ ∀ m G, Same H G → Top m (wides (rs.map (·.2)) 42) → Q (.int m) G
theorem cal_widest (B : Bi mg) (D : At K mg "widest" s_widest ps_widest) (C_check_row : Cal P w K mg base 2 "check_row" ps_check_row (spCheckRow C)) (C_planned : Cal P w K mg base 2 "planned" ps_planned (spPlanned C)) : Cal P w K mg base 3 "widest" ps_widest (spWidest C) := by
  refine D.cal sc_widest (fun vs H Q E h => ?_) (fun f cdv A outer s H vs Q E hr h => ?_)
  · obtain ⟨a, rs, rfl, _⟩ := h
    rfl
  · obtain ⟨a, rs, rfl, hR, l1, l4, k⟩ := h
    refine ⟨_, (pss_cons (ps_expr (pe_own C_check_row hr (by decide) (by rfl) (pa_cons (pv 0) pa_nil)))
      (pss_one (ps_ret (pe_callB (cr_max rfl) (by rfl) B.max (by decide +kernel) (pa_cons (pe_lc (own := [("length", 1)]) (by rfl) sc_widest.nd (pi_range1 (by rfl) B.range (pa_cons (pe_op op_add (pe_cst B.MOST_SIGNS (by rfl)) pe_int) pa_nil)) (blkOk_by (own := [("length", 1)]) (N := ["row", "length"]) (sc := defScope s_widest) (by decide +kernel)) (fun _ _ _ _ _ => pg_name (i := 1) sc_widest.nd rfl (.inl rfl)) (fun _ _ _ _ _ => pts_nil) (fun _ _ _ _ _ => (pe_callB (id := "len") (r := rLenK K) call_len (by rfl) B.len (by decide +kernel) (pa_cons (pe_own C_planned hr (by decide) (by rfl) (pa_cons (pv 0) (pa_cons (pv 1) pa_nil))) pa_nil)))) pa_nil))))), ?_⟩
    refine ⟨_, rfl, a, rs, rfl, hR, l1, l4, fun G1 s1 => ?_⟩
    refine ⟨_, _, rfl, rfl, _, rfl, by decide, by decide, fun D nD => lc_range (lo := 0) (n := 42) (fun i J => Same H J ∧ J D = some (.lst ((wides (rs.map (·.2)) i).map V.int))) ⟨s1.trans (same_new nD), upd_same⟩ ?_ ?_⟩
    · rintro i J hi ⟨sJ, eD⟩
      refine ⟨rfl, yes (iteT ⟨_, rfl, _, rfl, a, i, rs, ?_, hR.same sJ, by omega, fun U G s2 eU => ?_⟩)⟩
      · rw [Int.zero_add]
        rfl
      · refine ⟨_, _, rfl, .inr ⟨_, .inl (.inl eU), rfl⟩, _, s2 _ _ eD, small1000 ?_, ?_, ?_⟩
        · unfold wides
          rw [List.length_map, List.length_map, List.length_range]
          omega
        · intro b o e
          rw [upd_ne (ne_of_none e (s1.free nD))]
          exact s2 _ _ (sJ _ _ e)
        · rw [upd_same, cutsV_length, rgV_length]
          unfold wides
          rw [List.range_succ, List.map_append, List.map_append]
          simp only [Int.sub_zero, Int.toNat_natCast]
          rfl
    · rintro J ⟨sJ, eD⟩
      refine ⟨D, _, rfl, .inl (.inl eD), ?_, fun m hm hle => k m J sJ ⟨hm, hle⟩⟩
      unfold wides
      rw [List.length_map, List.length_range]
      decide
end
end Gu
namespace Gu
open PySem PySem.Spec PyProof.Rows L2
/-! ### plans as data, and filled in -/
def dat : V → PyData
  | .int i => .int i
  | .str z => .str z
  | _ => .none
/-- a place or a single sign -/
def Plain (n : Nat) (x : V) : Prop := (∃ i : Int, x = .int i ∧ 0 ≤ i ∧ i < (n : Int)) ∨ ∃ c : Nat, x = .str (one c) ∧ c < 128
theorem Plain.fine {n : Nat} {x : V} (hn : n ≤ 500) (h : Plain n x) : Fine 0 70 (dat x) := by
  rcases h with ⟨i, rfl, h0, h1⟩ | ⟨c, rfl, hc⟩
  · exact Fine.int (by omega)
  · exact (Fine.str (z := one c) (W := 1) (fun d hd => by
      rw [List.mem_singleton.mp (show d ∈ [c] from hd)]
      exact Nat.lt_of_lt_of_le hc (by decide)) (Nat.le_refl _)).mono (Nat.le_refl _) (by decide)
theorem Plain.dp {K : PySem.W.Frag} {H : Hp} {n : Nat} {x : V} (h : Plain n x) : Dp K H x (dat x) := by
  rcases h with ⟨i, rfl, _⟩ | ⟨c, rfl, _⟩
  · exact .int i
  · exact .str _
theorem dp_all {K : PySem.W.Frag} {H : Hp} {n : Nat} : ∀ {xs : List V}, (∀ x ∈ xs, Plain n x) → DpAll K H xs (xs.map dat)
  | [], _ => .nil
  | x :: xs, h => .cons (h x (List.mem_cons_self ..)).dp (dp_all fun y hy => h y (List.mem_cons_of_mem _ hy))
theorem ones_plain {n : Nat} {cs : List Nat} (h : Signs cs) : ∀ x ∈ ones cs, Plain n x := by
  intro x hx
  obtain ⟨c, hc, rfl⟩ := List.mem_map.mp hx
  have a : ∀ c ∈ signs.cps.toList, c < 128 := by decide +kernel
  exact .inr ⟨c, rfl, a c (h c hc)⟩
theorem cutsV_all {p : V → Prop} : ∀ (rs : List Rec) {xs : List V}, (∀ r ∈ rs, ∀ x ∈ ones r.z.cps.toList, p x) → (∀ x ∈ xs, p x) → ∀ x ∈ cutsV rs xs, p x
  | [], _, _, h => h
  | r :: rs, xs, hz, h => by
    refine cutsV_all rs (xs := cut r.l.toNat r.h.toNat r.t.toNat (ones r.z.cps.toList) xs) (fun q hq => hz q (List.mem_cons_of_mem _ hq)) fun x hx => ?_
    unfold cut at hx
    split at hx
    · exact h x hx
    · rcases List.mem_append.mp hx with hx | hx
      · rcases List.mem_append.mp hx with hx | hx
        · exact h x (List.mem_of_mem_take hx)
        · exact hz r (List.mem_cons_self ..) x hx
      · exact h x (List.mem_of_mem_drop hx)
theorem plan_plain {rs : List Rec} (hf : ∀ r ∈ rs, r.fit) {n : Nat} : ∀ x ∈ cutsV rs (rgV 0 n), Plain n x :=
  cutsV_all rs (fun r hr => ones_plain (isTxt_signs (hf r hr).z)) fun x hx => by
    unfold rgV at hx
    obtain ⟨i, hi, rfl⟩ := List.mem_map.mp hx
    have := List.mem_range.mp hi
    exact .inl ⟨_, rfl, by omega, by omega⟩
theorem plan_fine {rs : List Rec} (hf : ∀ r ∈ rs, r.fit) {n : Nat} (hn : n ≤ 500) : Fine 60 100000 (.list [.tuple ((cutsV rs (rgV 0 n)).map dat), .tuple ((cutsV rs (rgV 0 n)).map dat)]) := by
  have a : FineAll 0 70 ((cutsV rs (rgV 0 n)).map dat) := .of fun d hd => by
    obtain ⟨x, hx, rfl⟩ := List.mem_map.mp hd
    exact (plan_plain hf x hx).fine hn
  have l : ((cutsV rs (rgV 0 n)).map dat).length ≤ 500 := by
    rw [List.length_map, cutsV_length, rgV_length]
    exact lens_le rs hf (by omega)
  have b := a.tup
  have c : Fine 1 35500 (.tuple ((cutsV rs (rgV 0 n)).map dat)) := b.mono (Nat.le_refl _) (by omega)
  have d : FineAll 1 35500 [.tuple ((cutsV rs (rgV 0 n)).map dat), .tuple ((cutsV rs (rgV 0 n)).map dat)] := .of fun e he => by
    simp only [List.mem_cons, List.not_mem_nil, or_false, or_self] at he
    rw [he]
    exact c
  exact d.list.mono (by decide) (by show 2 * 35501 ≤ 100000; decide)
def fill (cs : List Nat) : V → V
  | .int i => .str (one (cs.getD i.toNat 0))
  | v => v
theorem fill_ones (cs ds : List Nat) : (ones ds).map (fill cs) = ones ds := by
  unfold ones
  rw [List.map_map]
  rfl
theorem fill_cuts (cs : List Nat) : ∀ (rs : List Rec) (xs : List V), (cutsV rs xs).map (fill cs) = cutsV rs (xs.map (fill cs))
  | [], _ => rfl
  | r :: rs, xs => by
    show (cutsV rs (cut r.l.toNat r.h.toNat r.t.toNat (ones r.z.cps.toList) xs)).map (fill cs) = cutsV rs (cut r.l.toNat r.h.toNat r.t.toNat (ones r.z.cps.toList) (xs.map (fill cs)))
    rw [fill_cuts cs rs, ← cut_map, fill_ones]
theorem fill_range (cs : List Nat) : (rgV 0 (cs.length : Nat)).map (fill cs) = ones cs := by
  unfold rgV ones
  rw [List.map_map]
  refine List.ext_getElem? fun j => ?_
  rw [List.getElem?_map, List.getElem?_map]
  simp only [Int.sub_zero, Int.toNat_natCast]
  by_cases hj : j < cs.length
  · rw [List.getElem?_range hj, List.getElem?_eq_getElem hj]
    show some (V.str (one (cs.getD (0 + (j : Int)).toNat 0))) = some (V.str (one cs[j]))
    rw [Int.zero_add, Int.toNat_natCast, List.getD_eq_getElem?_getD, List.getElem?_eq_getElem hj]
    rfl
  · rw [List.getElem?_eq_none (by rw [List.length_range]; omega), List.getElem?_eq_none (by omega)]
    rfl
theorem at_of' {α : Type} {xs : List α} {i : Int} {j : Nat} {v : α} (e : i = (j : Int)) (h : xs[j]? = some v) : atI xs i = some v := by
  rw [e]
  exact atI_nat h
def idl {α : Type} (l : List α) : List α := l
end Gu
namespace Gu
open PySem PySem.Spec PyProof.Rows L2
/-! ### plans that differ, and the least text that tells -/
def planV (rs : List Rec) (n : Nat) : List V := cutsV rs (rgV 0 (n : Int))
theorem fill_plan (rs : List Rec) (cs : List Nat) : (planV rs cs.length).map (fill cs) = ones (cuts rs cs) := by
  unfold planV
  rw [fill_cuts, fill_range, cutsV_ones]
theorem map_injL {α β : Type} {f : α → β} (h : ∀ x y, f x = f y → x = y) : ∀ {xs ys : List α}, xs.map f = ys.map f → xs = ys
  | [], [], _ => rfl
  | [], _ :: _, e => nomatch e
  | _ :: _, [], e => nomatch e
  | x :: xs, y :: ys, e => by
    have e := List.cons.inj e
    rw [h _ _ e.1, map_injL h e.2]
theorem ones_inj {cs ds : List Nat} (h : ones cs = ones ds) : cs = ds := by
  refine map_injL (fun a b e => ?_) h
  have := congrArg (fun z : Str => z.cps.toList) (V.str.inj e)
  exact List.singleton_inj.mp this
theorem shown_iff (rs ss : List Rec) (cs : List Nat) : cuts rs cs = cuts ss cs ↔ (planV rs cs.length).map (fill cs) = (planV ss cs.length).map (fill cs) := by
  rw [fill_plan, fill_plan]
  exact ⟨fun h => by rw [h], ones_inj⟩
theorem map_cuts {f : V → V} (hf : ∀ z, f (.str z) = .str z) : ∀ (rs : List Rec) (xs : List V), cutsV rs (xs.map f) = (cutsV rs xs).map f
  | [], _ => rfl
  | r :: rs, xs => by
    have e : ones r.z.cps.toList = (ones r.z.cps.toList).map f := by
      unfold ones
      rw [List.map_map]
      refine List.map_congr_left fun c _ => ?_
      exact (hf _).symm
    show cutsV rs (cut r.l.toNat r.h.toNat r.t.toNat (ones r.z.cps.toList) (xs.map f)) = (cutsV rs (cut r.l.toNat r.h.toNat r.t.toNat (ones r.z.cps.toList) xs)).map f
    conv => lhs; rw [e]
    rw [cut_map, map_cuts hf rs]
/-! far lengths -/
def far (n : Nat) : V → V
  | .int i => .int (if i < 40 then i else i + ((n : Int) - 80))
  | v => v
theorem far_inj {n : Nat} (h : 80 ≤ n) {x y : V} (e : far n x = far n y) : x = y := by
  cases x <;> cases y <;> first | exact e | cases e | skip
  have e := V.int.inj e
  congr 1
  split at e <;> split at e <;> omega
theorem rg_get (n j : Nat) : (rgV 0 (n : Int))[j]? = if j < n then some (V.int (j : Int)) else none := by
  unfold rgV
  rw [List.getElem?_map, Int.sub_zero, Int.toNat_natCast]
  split
  · next h =>
    rw [List.getElem?_range h]
    show some (V.int (0 + (j : Int))) = _
    rw [Int.zero_add]
  · next h =>
    rw [List.getElem?_eq_none (by rw [List.length_range]; omega)]
    rfl
theorem rg_len (n : Nat) : (rgV 0 (n : Int)).length = n := by
  rw [rgV_length]
  omega
theorem cut_far {r : Rec} (f : r.fit) {n : Nat} (hn : 80 ≤ n) : cut r.l.toNat r.h.toNat r.t.toNat (ones r.z.cps.toList) (rgV 0 (n : Int)) = (cut r.l.toNat r.h.toNat r.t.toNat (ones r.z.cps.toList) (rgV 0 ((80 : Nat) : Int))).map (far n) := by
  have f1 := f.l
  have f2 := f.h
  have f3 := f.t
  unfold cut
  rw [rg_len, rg_len, if_neg (by omega), if_neg (by omega), List.map_append, List.map_append]
  congr 1
  · congr 1
    · refine List.ext_getElem? fun j => ?_
      rw [List.getElem?_map, List.getElem?_take, List.getElem?_take]
      split
      · rw [rg_get, rg_get, if_pos (by omega), if_pos (by omega)]
        show _ = some (V.int _)
        rw [if_pos (by omega)]
      · rfl
    · unfold ones
      rw [List.map_map]
      rfl
  · refine List.ext_getElem? fun j => ?_
    rw [List.getElem?_map, List.getElem?_drop, List.getElem?_drop, rg_get, rg_get]
    by_cases hj : j < r.t.toNat
    · rw [if_pos (by omega), if_pos (by omega)]
      show _ = some (V.int _)
      rw [if_neg (by omega)]
      congr 2
      omega
    · rw [if_neg (by omega), if_neg (by omega)]
      rfl
theorem plan_far {rs : List Rec} (hf : ∀ r ∈ rs, r.fit) (h1 : 1 ≤ rs.length) {n : Nat} (hn : 80 ≤ n) : planV rs n = (planV rs 80).map (far n) := by
  cases rs with
  | nil => cases h1
  | cons r rs =>
    show cutsV rs (cut r.l.toNat r.h.toNat r.t.toNat (ones r.z.cps.toList) (rgV 0 (n : Int))) = (cutsV rs (cut r.l.toNat r.h.toNat r.t.toNat (ones r.z.cps.toList) (rgV 0 ((80 : Nat) : Int)))).map (far n)
    rw [cut_far (hf r (List.mem_cons_self ..)) hn, map_cuts (fun z => rfl)]
theorem map_inj {f : V → V} (h : ∀ x y, f x = f y → x = y) {xs ys : List V} (e : xs.map f = ys.map f) : xs = ys := map_injL h e
/-- what is so up to 80 is so for all lengths -/
theorem alike_all {rs ss : List Rec} (hr : ∀ r ∈ rs, r.fit) (hs : ∀ r ∈ ss, r.fit) (r1 : 1 ≤ rs.length) (s1 : 1 ≤ ss.length) (h : ∀ n, n ≤ 80 → planV rs n = planV ss n) (n : Nat) : planV rs n = planV ss n := by
  rcases Nat.lt_or_ge 80 n with hn | hn
  · rw [plan_far hr r1 (by omega), plan_far hs s1 (by omega), h 80 (by omega)]
  · exact h n hn
/-! least texts -/
def dots (n : Nat) : List Nat := List.replicate n 46
def dotp (n p : Nat) : List Nat := List.replicate p 46 ++ 48 :: List.replicate (n - p - 1) 46
theorem dots_len (n : Nat) : (dots n).length = n := List.length_replicate ..
theorem dotp_len {n p : Nat} (h : p < n) : (dotp n p).length = n := by
  unfold dotp
  rw [List.length_append, List.length_cons, List.length_replicate, List.length_replicate]
  omega
theorem dots_at {n i : Nat} (h : i < n) : (dots n).getD i 0 = 46 := by
  unfold dots
  rw [List.getD_eq_getElem?_getD, List.getElem?_replicate, if_pos h]
  rfl
theorem dotp_at {n p i : Nat} (hp : p < n) (h : i < n) : (dotp n p).getD i 0 = if i = p then 48 else 46 := by
  unfold dotp
  rw [List.getD_eq_getElem?_getD]
  rcases Nat.lt_trichotomy i p with h1 | h1 | h1
  · rw [List.getElem?_append_left (by rw [List.length_replicate]; exact h1), List.getElem?_replicate, if_pos h1, if_neg (by omega)]
    rfl
  · rw [List.getElem?_append_right (by rw [List.length_replicate]; omega), List.length_replicate, h1, Nat.sub_self, if_pos rfl]
    rfl
  · rw [List.getElem?_append_right (by rw [List.length_replicate]; omega), List.length_replicate, if_neg (by omega)]
    obtain ⟨k, hk⟩ : ∃ k, i - p = k + 1 := ⟨i - p - 1, by omega⟩
    rw [hk, List.getElem?_cons_succ, List.getElem?_replicate, if_pos (by omega)]
    rfl
/-- at some place one has the sign p and the other something else -/
def Diff (xs ys : List V) (p : Nat) : Prop := ∃ (i : Nat) (x y : V), xs[i]? = some x ∧ ys[i]? = some y ∧ x ≠ y ∧ (x = V.int (p : Int) ∨ y = V.int (p : Int))
def flat0 : V → V
  | .int _ => .str (one 46)
  | v => v
theorem fill_dots {n : Nat} {x : V} (h : Plain n x) : fill (dots n) x = flat0 x := by
  rcases h with ⟨i, rfl, h0, h1⟩ | ⟨c, rfl, _⟩
  · show V.str (one _) = V.str (one 46)
    rw [dots_at (by omega)]
  · rfl
theorem fill_dotp {n p : Nat} (hp : p < n) {x : V} (h : Plain n x) (ne : x ≠ .int (p : Int)) : fill (dotp n p) x = fill (dots n) x := by
  rcases h with ⟨i, rfl, h0, h1⟩ | ⟨c, rfl, _⟩
  · show V.str (one _) = V.str (one _)
    rw [dots_at (by omega), dotp_at hp (by omega), if_neg]
    intro e
    exact ne (by rw [← e, Int.toNat_of_nonneg h0])
  · rfl
theorem fill_here {n p : Nat} (hp : p < n) : fill (dotp n p) (.int (p : Int)) = .str (one 48) := by
  show V.str (one _) = _
  rw [Int.toNat_natCast, dotp_at hp hp, if_pos rfl]
theorem one_ne : ¬ V.str (one 48) = V.str (one 46) := by
  intro h
  have := congrArg (fun z : Str => z.cps.toList) (V.str.inj h)
  exact absurd this (by decide)
section
variable {n : Nat} {xs ys : List V} (px : ∀ x ∈ xs, Plain n x) (py : ∀ y ∈ ys, Plain n y) (e0 : xs.map (fill (dots n)) = ys.map (fill (dots n)))
include px py e0
theorem same_at {i : Nat} {x y : V} (hx : xs[i]? = some x) (hy : ys[i]? = some y) : fill (dots n) x = fill (dots n) y := by
  have a := congrArg (fun l : List V => l[i]?) e0
  simp only [List.getElem?_map, hx, hy, Option.map_some] at a
  exact Option.some.inj a
theorem not_diff {p : Nat} (hp : p < n) (h : ¬ Diff xs ys p) : xs.map (fill (dotp n p)) = ys.map (fill (dotp n p)) := by
  have el : xs.length = ys.length := by
    have := congrArg List.length e0
    rw [List.length_map, List.length_map] at this
    exact this
  refine List.ext_getElem? fun i => ?_
  rw [List.getElem?_map, List.getElem?_map]
  by_cases hi : i < xs.length
  · have hx := List.getElem?_eq_getElem hi
    have hi2 : i < ys.length := by omega
    have hy := List.getElem?_eq_getElem hi2
    rw [hx, hy]
    show some _ = some _
    by_cases e : xs[i] = ys[i]
    · rw [e]
    · have n1 : xs[i] ≠ .int (p : Int) := fun q => h ⟨i, _, _, hx, hy, e, .inl q⟩
      have n2 : ys[i] ≠ .int (p : Int) := fun q => h ⟨i, _, _, hx, hy, e, .inr q⟩
      rw [fill_dotp hp (px _ (List.getElem_mem hi)) n1, fill_dotp hp (py _ (List.getElem_mem hi2)) n2, same_at px py e0 hx hy]
  · rw [List.getElem?_eq_none (by omega), List.getElem?_eq_none (by omega)]
theorem is_diff {p : Nat} (hp : p < n) (h : Diff xs ys p) : xs.map (fill (dotp n p)) ≠ ys.map (fill (dotp n p)) := by
  intro e
  obtain ⟨i, x, y, hx, hy, ne, h⟩ := h
  have a := congrArg (fun l : List V => l[i]?) e
  simp only [List.getElem?_map, hx, hy, Option.map_some] at a
  have a := Option.some.inj a
  have b := same_at px py e0 hx hy
  have qx := px x (List.mem_of_getElem? hx)
  have qy := py y (List.mem_of_getElem? hy)
  rcases h with rfl | rfl
  · rw [fill_here hp, fill_dotp hp qy (fun q => ne q.symm), ← b, fill_dots qx] at a
    exact one_ne a
  · rw [fill_here hp, fill_dotp hp qx ne, b, fill_dots qy] at a
    exact one_ne a.symm
theorem some_diff (ne : xs ≠ ys) : ∃ p, p < n ∧ Diff xs ys p := by
  have el : xs.length = ys.length := by
    have := congrArg List.length e0
    rw [List.length_map, List.length_map] at this
    exact this
  obtain ⟨i, hi, h⟩ : ∃ i, ∃ hi : i < xs.length, ¬ xs[i] = ys[i] := Decidable.byContradiction fun q => ne (List.ext_getElem el fun i h1 h2 => Decidable.byContradiction fun z => q ⟨i, h1, z⟩)
  have hx := List.getElem?_eq_getElem hi
  have hi2 : i < ys.length := by omega
  have hy := List.getElem?_eq_getElem hi2
  have b := same_at px py e0 hx hy
  have qx := px _ (List.getElem_mem hi)
  have qy := py _ (List.getElem_mem hi2)
  rcases id qx with ⟨j, ej, j0, j1⟩ | ⟨c, ec, _⟩
  · exact ⟨j.toNat, by omega, i, _, _, hx, hy, h, .inl (by rw [ej, Int.toNat_of_nonneg j0])⟩
  · rcases id qy with ⟨j, ej, j0, j1⟩ | ⟨d, ed, _⟩
    · exact ⟨j.toNat, by omega, i, _, _, hx, hy, h, .inr (by rw [ej, Int.toNat_of_nonneg j0])⟩
    · rw [fill_dots qx, fill_dots qy, ec, ed] at b
      exact absurd (by rw [ec, ed]; exact b) h
end
/-! the places that differ, as they are gathered -/
def isI : V → List Int
  | .int i => [i]
  | _ => []
def dpl : List V → List V → List Int
  | x :: xs, y :: ys => (if x = y then [] else isI x ++ isI y) ++ dpl xs ys
  | _, _ => []
theorem dpl_snoc : ∀ {xs ys : List V} (x y : V), xs.length = ys.length → dpl (xs ++ [x]) (ys ++ [y]) = dpl xs ys ++ (if x = y then [] else isI x ++ isI y)
  | [], [], x, y, _ => by
    show (if x = y then [] else isI x ++ isI y) ++ dpl [] [] = [] ++ _
    show _ ++ [] = [] ++ _
    rw [List.append_nil, List.nil_append]
  | a :: xs, b :: ys, x, y, h => by
    show (if a = b then [] else isI a ++ isI b) ++ dpl (xs ++ [x]) (ys ++ [y]) = ((if a = b then [] else isI a ++ isI b) ++ dpl xs ys) ++ _
    rw [dpl_snoc x y (by simpa using h), List.append_assoc]
theorem mem_isI {x : V} {i : Int} : i ∈ isI x ↔ x = .int i := by
  cases x <;> simp [isI, eq_comm]
theorem mem_dpl : ∀ {xs ys : List V} {i : Int}, i ∈ dpl xs ys ↔ ∃ (j : Nat) (x y : V), xs[j]? = some x ∧ ys[j]? = some y ∧ x ≠ y ∧ (x = V.int i ∨ y = V.int i)
  | [], ys, i => by
    refine ⟨fun h => ?_, fun ⟨j, x, y, hx, _⟩ => by simp at hx⟩
    unfold dpl at h
    cases h
  | a :: xs, [], i => by
    refine ⟨fun h => ?_, fun ⟨j, x, y, _, hy, _⟩ => by simp at hy⟩
    unfold dpl at h
    cases h
  | a :: xs, b :: ys, i => by
    show i ∈ (if a = b then [] else isI a ++ isI b) ++ dpl xs ys ↔ _
    rw [List.mem_append, mem_dpl (xs := xs) (ys := ys)]
    constructor
    · rintro (h | ⟨j, x, y, hx, hy, h⟩)
      · split at h
        · cases h
        · next ne => exact ⟨0, a, b, rfl, rfl, ne, (List.mem_append.mp h).imp mem_isI.mp mem_isI.mp⟩
      · exact ⟨j + 1, x, y, hx, hy, h⟩
    · rintro ⟨j, x, y, hx, hy, ne, h⟩
      cases j with
      | zero =>
        cases (Option.some.inj hx : a = x)
        cases (Option.some.inj hy : b = y)
        refine .inl ?_
        rw [if_neg ne]
        exact List.mem_append.mpr (h.imp mem_isI.mpr mem_isI.mpr)
      | succ j => exact .inr ⟨j, x, y, hx, hy, ne, h⟩
/-- the least text of n signs that two rows show differently -/
def LeastAt (rs ss : List Rec) (n : Nat) (cs : List Nat) : Prop :=
  (cs = dots n ∧ cuts rs (dots n) ≠ cuts ss (dots n)) ∨ ∃ p, p < n ∧ cs = dotp n p ∧ cuts rs (dots n) = cuts ss (dots n) ∧ cuts rs (dotp n p) ≠ cuts ss (dotp n p) ∧ ∀ q, p < q → q < n → cuts rs (dotp n q) = cuts ss (dotp n q)
theorem LeastAt.one {rs ss : List Rec} {n : Nat} {cs ds : List Nat} (a : LeastAt rs ss n cs) (b : LeastAt rs ss n ds) : cs = ds := by
  rcases a with ⟨rfl, a⟩ | ⟨p, hp, rfl, a0, a1, a2⟩
  · rcases b with ⟨rfl, _⟩ | ⟨q, _, _, b0, _⟩
    · rfl
    · exact absurd b0 a
  · rcases b with ⟨_, b⟩ | ⟨q, hq, rfl, b0, b1, b2⟩
    · exact absurd a0 b
    · rcases Nat.lt_trichotomy p q with h | h | h
      · exact absurd (a2 q h hq) b1
      · rw [h]
      · exact absurd (b2 p h hp) a1
theorem LeastAt.len {rs ss : List Rec} {n : Nat} {cs : List Nat} (a : LeastAt rs ss n cs) : cs.length = n := by
  rcases a with ⟨rfl, _⟩ | ⟨p, hp, rfl, _⟩
  · exact dots_len n
  · exact dotp_len hp
theorem LeastAt.ne {rs ss : List Rec} {n : Nat} {cs : List Nat} (a : LeastAt rs ss n cs) : cuts rs cs ≠ cuts ss cs := by
  rcases a with ⟨rfl, h⟩ | ⟨p, hp, rfl, _, h, _⟩ <;> exact h
theorem LeastAt.sg {rs ss : List Rec} {n : Nat} {cs : List Nat} (a : LeastAt rs ss n cs) : Signs cs := by
  have d : 46 ∈ signs.cps.toList := by decide +kernel
  have z : 48 ∈ signs.cps.toList := by decide +kernel
  rcases a with ⟨rfl, _⟩ | ⟨p, hp, rfl, _⟩
  · intro c hc
    rw [(List.mem_replicate.mp hc).2]
    exact d
  · intro c hc
    rcases List.mem_append.mp hc with hc | hc
    · rw [(List.mem_replicate.mp hc).2]
      exact d
    · rcases List.mem_cons.mp hc with rfl | hc
      · exact z
      · rw [(List.mem_replicate.mp hc).2]
        exact d
theorem LeastAt.symm {rs ss : List Rec} {n : Nat} {cs : List Nat} (a : LeastAt rs ss n cs) : LeastAt ss rs n cs := by
  rcases a with ⟨rfl, h⟩ | ⟨p, hp, rfl, a0, a1, a2⟩
  · exact .inl ⟨rfl, fun e => h e.symm⟩
  · exact .inr ⟨p, hp, rfl, a0.symm, fun e => a1 e.symm, fun q h1 h2 => (a2 q h1 h2).symm⟩
section
variable {rs ss : List Rec} (hr : ∀ r ∈ rs, r.fit) (hs : ∀ r ∈ ss, r.fit) {n : Nat}
include hr hs
theorem dots_iff : cuts rs (dots n) = cuts ss (dots n) ↔ (planV rs n).map (fill (dots n)) = (planV ss n).map (fill (dots n)) := by
  have := shown_iff rs ss (dots n)
  rw [dots_len] at this
  exact this
theorem dotp_iff {p : Nat} (hp : p < n) : cuts rs (dotp n p) = cuts ss (dotp n p) ↔ (planV rs n).map (fill (dotp n p)) = (planV ss n).map (fill (dotp n p)) := by
  have := shown_iff rs ss (dotp n p)
  rw [dotp_len hp] at this
  exact this
/-- the last place that differs tells it -/
theorem least_last (e0 : cuts rs (dots n) = cuts ss (dots n)) {m : Int} (h : Top m (dpl (planV rs n) (planV ss n))) : ∃ p : Nat, m = (p : Int) ∧ p < n ∧ LeastAt rs ss n (dotp n p) := by
  have px : ∀ x ∈ planV rs n, Plain n x := plan_plain hr
  have py : ∀ y ∈ planV ss n, Plain n y := plan_plain hs
  have f0 := (dots_iff hr hs).mp e0
  obtain ⟨j, x, y, hx, hy, ne, h1⟩ := mem_dpl.mp h.1
  obtain ⟨p, rfl, hp⟩ : ∃ p : Nat, m = (p : Int) ∧ p < n := by
    have a : Plain n (.int m) := by
      rcases h1 with rfl | rfl
      · exact px _ (List.mem_of_getElem? hx)
      · exact py _ (List.mem_of_getElem? hy)
    rcases a with ⟨i, e, i0, i1⟩ | ⟨c, e, _⟩
    · cases e
      exact ⟨m.toNat, by omega, by omega⟩
    · cases e
  refine ⟨p, rfl, hp, .inr ⟨p, hp, rfl, e0, fun e => is_diff px py f0 hp ⟨j, x, y, hx, hy, ne, h1⟩ ((dotp_iff hr hs hp).mp e), fun q h2 h3 => (dotp_iff hr hs h3).mpr (not_diff px py f0 h3 fun ⟨i, u, v, hu, hv, nuv, hh⟩ => ?_)⟩⟩
  have := h.2 (q : Int) (mem_dpl.mpr ⟨i, u, v, hu, hv, nuv, hh⟩)
  omega
theorem dpl_some (e0 : cuts rs (dots n) = cuts ss (dots n)) (ne : planV rs n ≠ planV ss n) : dpl (planV rs n) (planV ss n) ≠ [] := by
  obtain ⟨p, hp, i, x, y, hx, hy, h⟩ := some_diff (plan_plain hr) (plan_plain hs) ((dots_iff hr hs).mp e0) ne
  intro e
  have : (p : Int) ∈ dpl (planV rs n) (planV ss n) := mem_dpl.mpr ⟨i, x, y, hx, hy, h⟩
  rw [e] at this
  cases this
/-- rows whose plans are the same show the same -/
theorem plan_show {cs : List Nat} (h : planV rs cs.length = planV ss cs.length) : cuts rs cs = cuts ss cs := (shown_iff rs ss cs).mpr (by rw [h])
end
/-- the first length at which the plans differ -/
structure First (rs ss : List Rec) (n : Nat) : Prop where
  ne : planV rs n ≠ planV ss n
  eq : ∀ m, m < n → planV rs m = planV ss m
theorem First.one {rs ss : List Rec} {n m : Nat} (a : First rs ss n) (b : First rs ss m) : n = m := by
  rcases Nat.lt_trichotomy n m with h | h | h
  · exact absurd (b.eq n h) a.ne
  · exact h
  · exact absurd (a.eq m h) b.ne
theorem First.symm {rs ss : List Rec} {n : Nat} (a : First rs ss n) : First ss rs n := ⟨fun e => a.ne e.symm, fun m h => (a.eq m h).symm⟩
/-- what is told of two rows -/
def Told (rs ss : List Rec) (v : V) : Prop := (v = .non ∧ ∀ n, planV rs n = planV ss n) ∨ ∃ n y, v = .str y ∧ n ≤ 80 ∧ First rs ss n ∧ LeastAt rs ss n y.cps.toList
theorem Told.one {rs ss : List Rec} {u v : V} (a : Told rs ss u) (b : Told rs ss v) : u = v := by
  rcases a with ⟨rfl, a⟩ | ⟨n, y, rfl, _, a, a1⟩
  · rcases b with ⟨rfl, _⟩ | ⟨m, z, _, _, b, _⟩
    · rfl
    · exact absurd (a m) b.ne
  · rcases b with ⟨_, b⟩ | ⟨m, z, rfl, _, b, b1⟩
    · exact absurd (b n) a.ne
    · cases a.one b
      rw [str_ext (a1.one b1)]
theorem Told.symm {rs ss : List Rec} {v : V} (a : Told rs ss v) : Told ss rs v := by
  rcases a with ⟨rfl, a⟩ | ⟨n, y, rfl, h, a, a1⟩
  · exact .inl ⟨rfl, fun n => (a n).symm⟩
  · exact .inr ⟨n, y, rfl, h, a.symm, a1.symm⟩
/-! signs of what is filled in -/
def fillN (cs : List Nat) : V → Nat
  | .int i => cs.getD i.toNat 0
  | .str z => z.cps.toList.getD 0 0
  | _ => 0
theorem fillN_one {n : Nat} {cs : List Nat} {x : V} (h : Plain n x) : fill cs x = .str (one (fillN cs x)) := by
  rcases h with ⟨i, rfl, _⟩ | ⟨c, rfl, _⟩
  · rfl
  · rfl
theorem fillN_map {n : Nat} {cs : List Nat} {xs : List V} (h : ∀ x ∈ xs, Plain n x) : xs.map (fill cs) = ones (xs.map (fillN cs)) := by
  unfold ones
  rw [List.map_map]
  exact List.map_congr_left fun x hx => fillN_one (h x hx)
end Gu
namespace Gu
open PySem PySem.Spec PyProof.Rows L2
theorem stF_same {K : PySem.W.Frag} {H G : Hp} {l : Addr} {xs : List V} (a : Same H G) (h : SqT K H l xs) : SqT K G l xs := by
  rcases h with (h | ⟨o, h⟩) | h
  · exact .inl (.inl (a _ _ h))
  · exact .inl (.inr ⟨o, a _ _ h⟩)
  · exact .inr h
theorem same_offF {H J : Hp} {M : Addr} {o : HO} (s : Same H J) (n : H M = none) : Same H (upd J M o) := fun b x e => by
  rw [upd_ne (ne_of_none e n)]
  exact s b x e
theorem takeF_next {α : Type} {qs : List α} {i : Nat} {q : α} (h : qs[i]? = some q) : qs.take (i + 1) = qs.take i ++ [q] := by
  rw [List.take_add_one, h]
  rfl
theorem RowAt.fits {C : Addr} {H : Hp} {a : Addr} {rs : List (Addr × Rec)} (h : RowAt C H a rs) : ∀ r ∈ rs.map (·.2), r.fit := fun r hr => by
  obtain ⟨q, hq, rfl⟩ := List.mem_map.mp hr
  exact (h.sh q hq).2
end Gu
namespace Gu
open PySem PySem.Spec PyProof.Rows L2
/-! text * int, however often -/
def rRepN : R2 := fun x y H Q => ∃ z k, x = .str z ∧ y = .int k ∧ 0 ≤ k ∧ k ≤ 1000 ∧ z.length ≤ 1000 ∧ ∀ y : Str, y.cps.toList = (List.replicate k.toNat z.cps.toList).flatten → Q (.str y) H
theorem fold_repN (z : Array Nat) : ∀ (k : Nat) (acc : Array Nat), ((List.replicate k z).foldl (· ++ ·) acc).toList = acc.toList ++ (List.replicate k z.toList).flatten
  | 0, acc => by simp
  | k + 1, acc => by
    rw [List.replicate_succ, List.foldl_cons, fold_repN z k, List.replicate_succ, List.flatten_cons, Array.toList_append, List.append_assoc]
theorem op_mul_strN {X : Cx} : OpR X (binaryOp .Mult) rRepN := by
  intro pins s σ H x y v u Q I rx ry h
  obtain ⟨z, k, rfl, rfl, k0, k1, z1, q⟩ := h
  obtain ⟨t, rfl⟩ := rx
  obtain ⟨t', rfl⟩ := ry
  refine PySem.P.mul_str ?_ (fun h1 _ => Int.not_lt.mpr ((Int.le_ediv_iff_mul_le (by omega)).mpr ?_)) (fun _ _ => decide_eq_false ?_) ?_
  · rw [Bool.or_eq_false_iff]
    exact ⟨decide_eq_false (by omega), decide_eq_false (by omega)⟩
  · have m1 : (z.length : Int) * k ≤ 1000 * 1000 := Int.mul_le_mul (by omega) k1 (by omega) (by omega)
    omega
  · have m2 : z.length * k.toNat ≤ 1000 * 1000 := Nat.mul_le_mul z1 (by omega)
    rw [sizeLine_eq]
    omega
  · split
    · next h1 =>
      refine ⟨by decide, .str Str.empty, H, I.tok _, ⟨_, rfl⟩, q _ ?_⟩
      rw [show k.toNat = 0 by omega]
      rfl
    · split
      · next h1 h2 =>
        refine ⟨.str z, H, I, ⟨_, rfl⟩, q _ ?_⟩
        rcases Bool.or_eq_true _ _ ▸ h2 with e | e
        · have e := eq_of_beq e
          rw [e]
          simp
        · have e : z.cps.toList.length = 0 := eq_of_beq e
          rw [List.eq_nil_of_length_eq_zero e]
          simp
      · have m2 : z.length * k.toNat ≤ 1000 * 1000 := Nat.mul_le_mul z1 (by omega)
        have e : ((List.replicate k.toNat z.cps).foldl (· ++ ·) #[]).toList = (List.replicate k.toNat z.cps.toList).flatten := by
          rw [fold_repN]
          rfl
        refine ⟨?_, .str ⟨(List.replicate k.toNat z.cps).foldl (· ++ ·) #[]⟩, H, I.tok _, ⟨_, rfl⟩, q _ e⟩
        show ((List.replicate k.toNat z.cps).foldl (· ++ ·) #[]).size ≤ _
        rw [← Array.length_toList, e, PyProof.Rows.lm_len_rep_flat]
        show k.toNat * z.length ≤ sizeLine
        rw [Nat.mul_comm, sizeLine_eq]
        omega
/-- a call without arguments -/
theorem pe_own0 {X : Cx} {k j : Nat} {x : Str} {sp : Sp} {p pos : Pos} (c : Cal X.prog X.w X.K X.mg X.base k x [] sp) (hr : Room j X.A) (hk : k ≤ j) (hg : Gl X x) (hdb : (x == ("__debug__" : Str)) = false := by decide) : PE X (.Call (.Name x p) [] [] pos) (tCall sp [] E0 tNil) := by
  obtain ⟨f, fd, F, hm, kp, b, _⟩ := c.ex
  exact pe_call0 F (hr.mono hk) hg hm kp b .nil pass0 hdb
def rIsiK (K : PySem.W.Frag) : List V → Hp → VK → Prop := rIsi K
section
variable {P : Program} {w : World} {K : PySem.W.Frag} {mg : Str → Option Value} {base : Heap} {C : Addr}
theorem Isa.str_int {H : Hp} {z : Str} : Isa K H (.str z) "int" false := ⟨_, .base (.str z), kit_ty (by decide +kernel)⟩
/-! ### telling_lengths -/
def spTelling : Sp := fun vs H Q _ => vs = [] ∧ ∀ (T : Addr), H T = none → Q (.ref T) (upd H T (.lst (rgV 0 ((81 : Nat) : Int))))
theorem cal_telling (B : Bi mg) (D : At K mg "telling_lengths" s_telling_lengths ps_telling_lengths) : Cal P w K mg base 1 "telling_lengths" ps_telling_lengths spTelling := by
  refine D.cal sc_telling_lengths (fun vs H Q E h => ?_) (fun f cdv A outer s H vs Q E hr h => ?_)
  · obtain ⟨rfl, _⟩ := h
    rfl
  · obtain ⟨rfl, k⟩ := h
    refine ⟨_, (pss_one (ps_ret (pe_listRg (by rfl) (by rfl) B.list (prg_1 (by rfl) B.range (pe_op op_add (pe_op op_mul pe_int (pe_cst B.MOST_SIGNS (by rfl))) pe_int))))), ?_⟩
    exact ⟨_, _, rfl, rfl, .inl ⟨by decide, by decide⟩, _, _, rfl, rfl, _, rfl, RgOk.of_le (by decide) (by decide) (by decide) (by decide), fun T nT => k T nT⟩
/-! ### filled_in -/
def spFilled (K : PySem.W.Frag) : Sp := fun vs H Q _ => ∃ (a : Addr) (xs : List V) (z : Str), vs = [.ref a, .str z] ∧ SqT K H a xs ∧ (∀ x ∈ xs, Plain z.cps.toList.length x) ∧ xs.length ≤ 600 ∧ z.cps.toList.length ≤ 600 ∧ ∀ (y : Str) (G : Hp), Same H G → y.cps.toList = xs.map (fillN z.cps.toList) → Q (.str y) G
theorem cal_filled (B : Bi mg) (D : At K mg "filled_in" s_filled_in ps_filled_in) : Cal P w K mg base 1 "filled_in" ps_filled_in (spFilled K) := by
  refine D.cal sc_filled_in (fun vs H Q E h => ?_) (fun f cdv A outer s H vs Q E hr h => ?_)
  · obtain ⟨a, xs, z, rfl, _⟩ := h
    rfl
  · obtain ⟨a, xs, z, rfl, ha, hp, xl, zl, k⟩ := h
    refine ⟨_, (pss_one (ps_ret (pe_join pe_str (pe_lc (own := [("source", 2)]) (by rfl) sc_filled_in.nd (pi_tup (pv 0)) (blkOk_by (own := [("source", 2)]) (N := ["sources", "text", "source"]) (sc := defScope s_filled_in) (by decide +kernel)) (fun _ _ _ _ _ => pg_name (i := 2) sc_filled_in.nd rfl (.inl rfl)) (fun _ _ _ _ _ => pts_nil) (fun _ _ _ _ _ => (pe_mid (pe_ifExp (pt_val (pe_callB (id := "isinstance") (r := rIsi K) call_isi (by rfl) B.isinstance (by decide +kernel) (pa_cons (pv 2) (pa_cons (pe_bltn (v := .ty "int") (by rfl) B.int (by decide +kernel) rfl) pa_nil)))) (pe_ix ix_str (pv 1) (pv 2) (fun _ _ => rfl)) (pv 2)))))))), ?_⟩
    refine ⟨⟨_, rfl⟩, _, rfl, a, rfl, ⟨_, ha⟩, fun M nM => lc_tup (K := K) (a := a) (xs := xs) (fun i J => J M = some (.lst (ones ((xs.take i).map (fillN z.cps.toList)))) ∧ Same H J)
      ⟨upd_same, same_new nM⟩ (fun i J _ ⟨_, sJ⟩ => stF_same sJ ha) ?_ ?_⟩
    · rintro i x J hi ⟨eM, sJ⟩
      refine ⟨rfl, yes (iteT ⟨fun v J1 => v = .str (one (fillN z.cps.toList x)) ∧ J1 = J, ?_, ?_⟩)⟩
      · rcases hp x (List.mem_of_getElem? hi) with ⟨j, rfl, j0, j1⟩ | ⟨c, rfl, _⟩
        · obtain ⟨t, i1, i2⟩ := Isa.int_int (K := K) (H := J) (i := j)
          refine ⟨_, rfl, _, _, t, _, true, rfl, .ty _, i1, i2, _, rfl, iteT ?_⟩
          have jl : j.toNat < z.cps.toList.length := by omega
          refine ⟨_, rfl, _, rfl, z, j, z.cps.toList[j.toNat], rfl, rfl, Nat.le_of_lt (small1000 (by have e : z.length = z.cps.toList.length := rfl; omega)), at_of' (j := j.toNat) (by omega) (List.getElem?_eq_getElem jl), ?_, rfl⟩
          show V.str ⟨#[_]⟩ = V.str (one (z.cps.toList.getD j.toNat 0))
          rw [List.getD_eq_getElem?_getD, List.getElem?_eq_getElem jl]
          rfl
        · obtain ⟨t, i1, i2⟩ := Isa.str_int (K := K) (H := J) (z := one c)
          exact ⟨_, rfl, _, _, t, _, false, rfl, .ty _, i1, i2, _, rfl, iteF ⟨_, rfl, rfl, rfl⟩⟩
      · rintro _ _ ⟨rfl, rfl⟩
        refine ⟨_, eM, small1000 ?_, ?_, same_offF sJ nM⟩
        · unfold ones
          rw [List.length_map, List.length_map, List.length_take]
          omega
        · rw [upd_same, takeF_next hi, List.map_append]
          unfold ones
          rw [List.map_append]
          rfl
    · rintro J ⟨eM, sJ⟩
      rw [List.take_length, ones_map] at eM
      refine ⟨_, M, _, rfl, rfl, .inl (.inl (.inl eM)), ?_, k _ J sJ (tjoin_ones _)⟩
      rw [ones_len, List.length_map, List.length_map]
      have e0 : (("" : String) : Str).length = 0 := by decide +kernel
      rw [e0]
      omega
/-! ### differing_places -/
def spDiffP (K : PySem.W.Frag) : Sp := fun vs H Q _ => ∃ (a b : Addr) (xs ys : List V) (n : Nat), vs = [.ref a, .ref b] ∧ SqT K H a xs ∧ SqT K H b ys ∧ xs.length = ys.length ∧ xs.length ≤ 600 ∧ (∀ x ∈ xs, Plain n x) ∧ (∀ y ∈ ys, Plain n y) ∧ ∀ (p : Addr) (G : Hp), G p = some (.lst ((dpl xs ys).map V.int)) → Same H G → Q (.ref p) G
theorem scal_plain {n m : Nat} {x y : V} (hx : Plain n x) (hy : Plain m y) : scal x y = true := by
  rcases hx with ⟨i, rfl, _⟩ | ⟨c, rfl, _⟩ <;> rcases hy with ⟨j, rfl, _⟩ | ⟨d, rfl, _⟩ <;> rfl
theorem isI_len (x : V) : (isI x).length ≤ 1 := by
  cases x <;> simp [isI]
theorem dpl_len : ∀ xs ys : List V, (dpl xs ys).length ≤ 2 * xs.length
  | [], _ => Nat.le_refl _
  | _ :: _, [] => Nat.zero_le _
  | x :: xs, y :: ys => by
    have a := isI_len x
    have b := isI_len y
    have c := dpl_len xs ys
    show ((if x = y then [] else isI x ++ isI y) ++ dpl xs ys).length ≤ 2 * (xs.length + 1)
    rw [List.length_append]
    split
    · rw [List.length_nil]
      omega
    · rw [List.length_append]
      omega
theorem cal_diffP (B : Bi mg) (D : At K mg "differing_places" s_differing_places ps_differing_places) : Cal P w K mg base 1 "differing_places" ps_differing_places (spDiffP K) := by
  refine D.cal sc_differing_places (fun vs H Q E h => ?_) (fun f cdv A outer s H vs Q E hr h => ?_)
  · obtain ⟨a, b, xs, ys, n, rfl, _⟩ := h
    rfl
  · obtain ⟨a, b, xs, ys, n, rfl, ha, hb, el, xl, px, py, k⟩ := h
    refine ⟨_, (pss_cons (ps_set (i := 2) sc_differing_places.nd rfl (.inl rfl) (pe_lst pa_nil))
      (pss_cons (ps_for PassesOwn.never rfl (RZ.pi_zipA (by rfl) B.zip (pa_cons (pv 0) (pa_cons (pv 1) pa_nil))) (pg_tup rfl (pgs_cons (pg_name (i := 3) sc_differing_places.nd rfl (.inl rfl)) (pgs_cons (pg_name (i := 4) sc_differing_places.nd rfl (.inl rfl)) pgs_nil)))
      (pss_one (ps_if (pt_cmpR op_ne (pv 3) (pv 4) (nomark _)) (pss_one (ps_expr (pe_bm PySem.F.plainAttrs_list PySem.F.slot_list_extend PySem.F.type_list_extend mt_extend (pv 2) (pa_cons (pe_lc (own := [("place", 5)]) (by rfl) sc_differing_places.nd (pi_tup (pe_tup (pa_cons (pv 3) (pa_cons (pv 4) pa_nil)))) (blkOk_by (own := [("place", 5)]) (N := ["sources", "others", "places", "source", "other", "place"]) (sc := defScope s_differing_places) (by decide +kernel)) (fun _ _ _ _ _ => pg_name (i := 5) sc_differing_places.nd rfl (.inl rfl)) (fun _ _ _ _ _ => (pts_one (pt_val (pe_callB (id := "isinstance") (r := rIsi K) call_isi (by rfl) B.isinstance (by decide +kernel) (pa_cons (pv 5) (pa_cons (pe_bltn (v := .ty "int") (by rfl) B.int (by decide +kernel) rfl) pa_nil)))))) (fun _ _ _ _ _ => (pv 5))) pa_nil)))) pss_nil)))
      (pss_one (ps_ret (pv 2))))), ?_⟩
    refine ⟨Nat.zero_le _, fun g ng => ?_⟩
    have s0 : Same H (upd H g (.lst [])) := same_new ng
    refine ⟨_, rfl, _, rfl, a, b, xs, ys, rfl, .inr ⟨stF_same s0 ha, stF_same s0 hb, RZ.for_zipT (K := K) (xs := xs) (ys := ys) el (fun i σ J => ∃ u v z, σ = [some (.ref a), some (.ref b), some (.ref g), u, v, z] ∧ J g = some (.lst ((dpl (xs.take i) (ys.take i)).map V.int)) ∧ Same H J)
      ⟨none, none, none, rfl, upd_same, s0⟩ (fun i σ J ⟨_, _, _, _, _, sJ⟩ => ⟨stF_same sJ ha, stF_same sJ hb⟩) ?_ ?_⟩⟩
    · rintro i x y T σ J hx hy ⟨u, v, z, rfl, eg, sJ⟩ nT
      have qx := px x (List.mem_of_getElem? hx)
      have qy := py y (List.mem_of_getElem? hy)
      have sT : Same J (upd J T (.tup [x, y])) := same_new nT
      have il : i < xs.length := (List.getElem?_eq_some_iff.mp hx).1
      have next : dpl (xs.take (i + 1)) (ys.take (i + 1)) = dpl (xs.take i) (ys.take i) ++ (if x = y then [] else isI x ++ isI y) := by
        rw [takeF_next hx, takeF_next hy, dpl_snoc x y (by rw [List.length_take, List.length_take]; omega)]
      refine ⟨T, _, rfl, .inl (.inl upd_same), rfl, _, _, rfl, _, _, rfl, rfl, ?_⟩
      refine ⟨_, rfl, _, rfl, scal_plain qx qy, _, rfl, ?_⟩
      by_cases e : x = y
      · rw [decide_eq_true e]
        refine iteF ⟨_, _, _, rfl, ?_, sJ.trans sT⟩
        rw [next, if_pos e, List.append_nil]
        exact sT _ _ eg
      · rw [decide_eq_false e]
        refine iteT ⟨_, rfl, .inl ⟨rfl, _, .inl (.inl (sT _ _ eg))⟩, ?_⟩
        refine ⟨_, rfl, _, rfl, by show 2 ≤ sizeLine; decide, fun T2 nT2 => ?_⟩
        have sT2 : Same J (upd (upd J T (.tup [x, y])) T2 (.tup [x, y])) := sT.trans (same_new nT2)
        have eT2 : upd (upd J T (.tup [x, y])) T2 (.tup [x, y]) T2 = some (.tup [x, y]) := upd_same
        generalize upd (upd J T (.tup [x, y])) T2 (.tup [x, y]) = H2 at sT2 eT2
        refine ⟨T2, rfl, ⟨_, .inl (.inl eT2)⟩, fun M nM => lc_tup (K := K) (a := T2) (xs := [x, y]) (fun i J1 => J1 M = some (.lst ((([x, y].take i).map isI).flatten.map V.int)) ∧ Same H2 J1)
          ⟨upd_same, same_new nM⟩ (fun i J1 _ ⟨_, s1⟩ => .inl (.inl (s1 _ _ eT2))) ?_ ?_⟩
        · rintro i3 v3 J3 hi3 ⟨eM, s3⟩
          have mv : Plain n v3 := by
            have := List.mem_of_getElem? hi3
            simp only [List.mem_cons, List.not_mem_nil, or_false] at this
            rcases this with rfl | rfl
            · exact qx
            · exact qy
          have i2 : i3 < 2 := (List.getElem?_eq_some_iff.mp hi3).1
          have nx : ((([x, y].take (i3 + 1)).map isI).flatten.map V.int) = ((([x, y].take i3).map isI).flatten.map V.int) ++ (isI v3).map V.int := by
            rw [takeF_next hi3, List.map_append, List.flatten_append, List.map_append]
            show _ ++ List.map V.int (isI v3 ++ []) = _
            rw [List.append_nil]
          rcases mv with ⟨j, rfl, j0, j1⟩ | ⟨c, rfl, _⟩
          · obtain ⟨t, i1, i2'⟩ := Isa.int_int (K := K) (H := J3) (i := j)
            refine ⟨rfl, _, rfl, _, _, t, _, true, rfl, .ty _, i1, i2', _, rfl, iteT ⟨_, rfl, _, eM, small1000 ?_, ?_, same_offF s3 nM⟩⟩
            · rw [List.length_map]
              have a1 := isI_len x
              have a2 := isI_len y
              have : (([x, y].take i3).map isI).flatten.length ≤ 2 := by
                match i3, i2 with
                | 0, _ => exact Nat.zero_le _
                | 1, _ =>
                  show (isI x ++ []).length ≤ 2
                  rw [List.append_nil]
                  omega
              omega
            · rw [upd_same, nx]
              rfl
          · obtain ⟨t, i1, i2'⟩ := Isa.str_int (K := K) (H := J3) (z := one c)
            refine ⟨rfl, _, rfl, _, _, t, _, false, rfl, .ty _, i1, i2', _, rfl, iteF ⟨?_, s3⟩⟩
            rw [nx]
            show _ = some (HO.lst (_ ++ []))
            rw [List.append_nil]
            exact eM
        · rintro J3 ⟨eM, s3⟩
          have e4 : (([x, y].take [x, y].length).map isI).flatten = isI x ++ isI y := by
            show isI x ++ (isI y ++ []) = _
            rw [List.append_nil]
          rw [e4] at eM
          have gg := s3 _ _ (sT2 _ _ eg)
          have a1 := isI_len x
          have a2 := isI_len y
          have a3 := dpl_len (xs.take i) (ys.take i)
          refine ⟨g, M, _, _, rfl, rfl, gg, eM, ?_, ?_⟩
          · rw [List.length_map, List.length_map, List.length_append]
            rw [List.length_take] at a3
            exact Nat.le_of_lt (Nat.lt_of_le_of_lt (show _ ≤ 2000 by omega) (by decide))
          · refine ⟨_, _, _, rfl, ?_, same_offF (sJ.trans (sT2.trans s3)) ng⟩
            rw [upd_same, next, if_neg e]
            simp only [List.map_append]
    · rintro σ J ⟨u, v, z, rfl, eg, sJ⟩
      rw [List.take_length, el, List.take_length] at eg
      exact ⟨_, rfl, k g J eg sJ⟩
/-! ### least_difference -/
def spLeastD (K : PySem.W.Frag) : Sp := fun vs H Q _ => ∃ (a b : Addr) (rs ss : List Rec) (n : Nat), vs = [.ref a, .ref b, .int (n : Int)] ∧ SqT K H a (planV rs n) ∧ SqT K H b (planV ss n) ∧ (∀ r ∈ rs, r.fit) ∧ (∀ r ∈ ss, r.fit) ∧ n ≤ 80 ∧ planV rs n ≠ planV ss n ∧ ∀ (y : Str) (G : Hp), Same H G → LeastAt rs ss n y.cps.toList → Q (.str y) G
theorem plan_len {rs : List Rec} (hf : ∀ r ∈ rs, r.fit) {n : Nat} (hn : n ≤ 500) : (planV rs n).length ≤ 500 := by
  unfold planV
  rw [cutsV_length, rg_len]
  exact lens_le rs hf hn
theorem rep_dot {z y : Str} (hz : z.cps.toList = [46]) {k : Nat} (e : y.cps.toList = (List.replicate k z.cps.toList).flatten) : y.cps.toList = List.replicate k 46 := by
  rw [e, hz]
  clear e
  induction k with
  | zero => rfl
  | succ k ih => rw [List.replicate_succ, List.flatten_cons, ih]; rfl
def spRaised : Sp := fun vs H Q _ => ∃ (n i : Nat), vs = [.int (n : Int), .int (i : Int)] ∧ i < n ∧ n ≤ 500 ∧ ∀ y : Str, y.cps.toList = List.replicate i 46 ++ 48 :: List.replicate (n - i - 1) 46 → Q (.str y) H
theorem cal_raised (B : Bi mg) (D : At K mg "least_raised_at" s_least_raised_at ps_least_raised_at) : Cal P w K mg base 1 "least_raised_at" ps_least_raised_at spRaised := by
  refine D.cal sc_least_raised_at (fun vs H Q E h => ?_) (fun f cdv A outer s H vs Q E hr h => ?_)
  · obtain ⟨n, i, rfl, _⟩ := h
    rfl
  · obtain ⟨n, i, rfl, hi, n5, k⟩ := h
    have s0 : atI signs.cps.toList 0 = some 46 := by decide +kernel
    have s1 : atI signs.cps.toList 1 = some 48 := by decide +kernel
    refine ⟨_, (pss_one (ps_ret (pe_op op_add_str (pe_op op_add_str (pe_op op_mul_strN (pe_ix ix_str (pe_cst B.SIGNS (by rfl)) pe_int (fun _ _ => rfl)) (pv 1)) (pe_ix ix_str (pe_cst B.SIGNS (by rfl)) pe_int (fun _ _ => rfl))) (pe_op op_mul_strN (pe_ix ix_str (pe_cst B.SIGNS (by rfl)) pe_int (fun _ _ => rfl)) (pe_op op_sub (pe_op op_sub (pv 0) (pv 1)) pe_int))))), ?_⟩
    refine ⟨signs, 0, 46, rfl, rfl, by decide +kernel, s0, _, rfl, one 46, _, rfl, rfl, by omega, by omega, by decide, fun y1 e1 => ?_⟩
    have e1 : y1.cps.toList = List.replicate i 46 := rep_dot (z := one 46) rfl (by rw [Int.toNat_natCast] at e1; exact e1)
    have l1 : y1.length = i := by
      show y1.cps.toList.length = i
      rw [e1, List.length_replicate]
    refine ⟨signs, 1, 48, rfl, rfl, by decide +kernel, s1, _, _, rfl, rfl, Nat.le_of_lt (small1000 (by show y1.length + 1 ≤ 1000; omega)), ?_⟩
    refine ⟨signs, 0, 46, rfl, rfl, by decide +kernel, s0, _, rfl, _, rfl, _, _, rfl, rfl, _, _, rfl, rfl, one 46, _, rfl, rfl, by omega, by omega, by decide, fun y2 e2 => ?_⟩
    have e2 : y2.cps.toList = List.replicate (n - i - 1) 46 := rep_dot (z := one 46) rfl (by rw [e2]; congr 2; omega)
    have l2 : y2.length = n - i - 1 := by
      show y2.cps.toList.length = _
      rw [e2, List.length_replicate]
    refine ⟨_, _, rfl, rfl, ?_, k _ ?_⟩
    · have l3 : (y1 ++ (one 48)).length = i + 1 := by
        show (y1 ++ (one 48)).cps.toList.length = _
        rw [app_cps, List.length_append, e1, List.length_replicate]
        rfl
      exact Nat.le_of_lt (small1000 (by show (y1 ++ (one 48)).length + y2.length ≤ 1000; omega))
    · rw [app_cps, app_cps, e1, e2]
      show List.replicate i 46 ++ [48] ++ List.replicate (n - i - 1) 46 = _
      rw [List.append_assoc]
      rfl
theorem cal_leastD (B : Bi mg) (D : At K mg "least_difference" s_least_difference ps_least_difference) (C_filled_in : Cal P w K mg base 1 "filled_in" ps_filled_in (spFilled K)) (C_differing_places : Cal P w K mg base 1 "differing_places" ps_differing_places (spDiffP K)) (C_least_raised_at : Cal P w K mg base 1 "least_raised_at" ps_least_raised_at spRaised) : Cal P w K mg base 2 "least_difference" ps_least_difference (spLeastD K) := by
  refine D.cal sc_least_difference (fun vs H Q E h => ?_) (fun f cdv A outer s H vs Q E hr h => ?_)
  · obtain ⟨a, b, rs, ss, n, rfl, _⟩ := h
    rfl
  · obtain ⟨a, b, rs, ss, n, rfl, ha, hb, hr1, hs1, n80, ne, k⟩ := h
    have px : ∀ x ∈ planV rs n, Plain n x := plan_plain hr1
    have py : ∀ y ∈ planV ss n, Plain n y := plan_plain hs1
    have lx := plan_len hr1 (n := n) (by omega)
    have ly := plan_len hs1 (n := n) (by omega)
    have sl : (Str.length signs) = 38 := by decide +kernel
    have s0 : atI signs.cps.toList 0 = some 46 := by decide +kernel
    refine ⟨_, (pss_cons (ps_set (i := 3) sc_least_difference.nd rfl (.inl rfl) (pe_op op_mul_strN (pe_ix ix_str (pe_cst B.SIGNS (by rfl)) pe_int (fun _ _ => rfl)) (pv 2)))
      (pss_cons (ps_if (pt_cmpR op_ne (pe_own C_filled_in hr (by decide) (by rfl) (pa_cons (pv 0) (pa_cons (pv 3) pa_nil))) (pe_own C_filled_in hr (by decide) (by rfl) (pa_cons (pv 1) (pa_cons (pv 3) pa_nil))) (nomark _)) (pss_one (ps_ret (pv 3))) pss_nil)
      (pss_one (ps_ret (pe_own C_least_raised_at hr (by decide) (by rfl) (pa_cons (pv 2) (pa_cons (pe_callB (cr_max rfl) (by rfl) B.max (by decide +kernel) (pa_cons (pe_own C_differing_places hr (by decide) (by rfl) (pa_cons (pv 0) (pa_cons (pv 1) pa_nil))) pa_nil)) pa_nil))))))), ?_⟩
    refine ⟨signs, 0, 46, rfl, rfl, by decide +kernel, s0, _, rfl, one 46, _, rfl, rfl, by omega, by omega, by decide, fun y0 e0 => ?_⟩
    have e0 : y0.cps.toList = dots n := rep_dot (z := one 46) rfl (by rw [Int.toNat_natCast] at e0; exact e0)
    have l0 : y0.cps.toList.length = n := by rw [e0, dots_len]
    refine ⟨_, rfl, _, rfl, a, _, y0, rfl, ha, by rw [l0]; exact px, by omega, by omega, fun t1 G1 q1 f1 => ?_⟩
    refine ⟨_, rfl, _, rfl, b, _, y0, rfl, stF_same q1 hb, by rw [l0]; exact py, by omega, by omega, fun t2 G2 q2 f2 => ?_⟩
    rw [e0] at f1 f2
    have eq : t1 = t2 ↔ cuts rs (dots n) = cuts ss (dots n) := by
      rw [dots_iff hr1 hs1, fillN_map px, fillN_map py]
      constructor
      · intro h
        rw [h] at f1
        rw [← f1, ← f2]
      · intro h
        exact str_ext (by rw [f1, f2]; exact ones_inj h)
    refine ⟨rfl, _, rfl, ?_⟩
    by_cases h : cuts rs (dots n) = cuts ss (dots n)
    · rw [decide_eq_true (show V.str t1 = V.str t2 by rw [eq.mpr h])]
      refine iteF ?_
      have el : (planV rs n).length = (planV ss n).length := by
        have := congrArg List.length ((dots_iff hr1 hs1).mp h)
        rw [List.length_map, List.length_map] at this
        exact this
      refine ⟨_, rfl, _, rfl, _, rfl, a, b, _, _, n, rfl, stF_same (q1.trans q2) ha, stF_same (q1.trans q2) hb, el, by omega, px, py, fun p G3 e3 q3 => ?_⟩
      refine ⟨p, _, rfl, .inl (.inl e3), List.length_pos_iff.mpr (dpl_some hr1 hs1 h ne), fun m hm hle => ?_⟩
      obtain ⟨i, rfl, hi, L⟩ := least_last hr1 hs1 h ⟨hm, hle⟩
      refine ⟨n, i, rfl, hi, by omega, fun y ey => k y G3 (q1.trans (q2.trans q3)) ?_⟩
      rw [ey]
      exact L
    · rw [decide_eq_false (fun q => h (eq.mp (V.str.inj q)))]
      refine iteT ⟨_, rfl, k y0 G2 (q1.trans q2) ?_⟩
      rw [e0]
      exact .inl ⟨rfl, h⟩
end
end Gu
namespace Gu
open PySem PySem.Spec PyProof.Rows L2
/-! ### plans compared -/
theorem eqv_one {n m : Nat} {x y : V} (hx : Plain n x) (hy : Plain m y) : PyData.eqv (dat x) (dat y) = decide (x = y) := by
  rcases hx with ⟨i, rfl, _⟩ | ⟨c, rfl, _⟩ <;> rcases hy with ⟨j, rfl, _⟩ | ⟨d, rfl, _⟩
  · rw [dec_int]
    rfl
  · rw [decide_eq_false (fun h => by cases h)]
    rfl
  · rw [decide_eq_false (fun h => by cases h)]
    rfl
  · rw [dec_str]
    rfl
theorem eqv_plain {n m : Nat} : ∀ {xs ys : List V}, (∀ x ∈ xs, Plain n x) → (∀ y ∈ ys, Plain m y) → PyData.eqvAll (xs.map dat) (ys.map dat) = decide (xs = ys)
  | [], [], _, _ => rfl
  | [], _ :: _, _, _ => rfl
  | _ :: _, [], _, _ => rfl
  | x :: xs, y :: ys, hx, hy => by
    show (PyData.eqv (dat x) (dat y) && PyData.eqvAll (xs.map dat) (ys.map dat)) = _
    rw [eqv_one (hx x (List.mem_cons_self ..)) (hy y (List.mem_cons_self ..)), eqv_plain (fun z hz => hx z (List.mem_cons_of_mem _ hz)) fun z hz => hy z (List.mem_cons_of_mem _ hz)]
    by_cases e : x = y
    · subst e
      by_cases f : xs = ys
      · subst f
        rw [decide_eq_true rfl, decide_eq_true rfl, decide_eq_true rfl]
        rfl
      · rw [decide_eq_false f, decide_eq_false (fun h => f (List.cons.inj h).2), Bool.and_false]
    · rw [decide_eq_false (fun h => e (List.cons.inj h).1), decide_eq_false e, Bool.false_and]
theorem lay_plain {n : Nat} : ∀ {xs : List V}, (∀ x ∈ xs, Plain n x) → PyData.canLayAll0 (xs.map dat) = true ∧ PyData.depthAll (xs.map dat) = 0
  | [], _ => ⟨rfl, rfl⟩
  | x :: xs, h => by
    have b := lay_plain fun z hz => h z (List.mem_cons_of_mem _ hz)
    have a : (dat x).canLay0 = true ∧ (dat x).depth = 0 := by
      rcases h x (List.mem_cons_self ..) with ⟨i, rfl, _⟩ | ⟨c, rfl, hc⟩
      · exact ⟨rfl, rfl⟩
      · refine ⟨?_, rfl⟩
        show (one c).cps.all _ = true
        rw [← Array.all_toList, List.all_eq_true]
        intro d hd
        rw [List.mem_singleton.mp (show d ∈ [c] from hd)]
        exact decide_eq_true (Nat.lt_of_lt_of_le hc (by decide))
    refine ⟨?_, ?_⟩
    · show ((dat x).canLay0 && PyData.canLayAll0 (xs.map dat)) = true
      rw [a.1, b.1]
      rfl
    · show max (dat x).depth (PyData.depthAll (xs.map dat)) = 0
      rw [a.2, b.2]
      rfl
theorem shaped_plainT {n : Nat} {xs : List V} (h : ∀ x ∈ xs, Plain n x) : SeqAt.shaped (.tuple (xs.map dat)) = true := by
  have b := lay_plain h
  unfold SeqAt.shaped
  rw [Bool.and_eq_true]
  refine ⟨b.1, decide_eq_true ?_⟩
  show PyData.depthAll (xs.map dat) + 1 ≤ 64
  omega
theorem shaped_plainL {n : Nat} {xs : List V} (h : ∀ x ∈ xs, Plain n x) : SeqAt.shaped (.list (xs.map dat)) = true := by
  have b := lay_plain h
  unfold SeqAt.shaped
  rw [Bool.and_eq_true]
  refine ⟨b.1, decide_eq_true ?_⟩
  show PyData.depthAll (xs.map dat) + 1 ≤ 64
  omega
theorem ne_planT {K : PySem.W.Frag} {H : Hp} {a b : Addr} {n m : Nat} {xs ys : List V} {Q : VK} (ha : SqT K H a xs) (hb : SqT K H b ys) (px : ∀ x ∈ xs, Plain n x) (py : ∀ y ∈ ys, Plain m y) (q : Q (.bl (!decide (xs = ys))) H) : rNeD K (.ref a) (.ref b) H Q :=
  ⟨_, _, .tup ha (dp_all px), .tup hb (dp_all py), shaped_plainT px, shaped_plainT py, by
    rw [show PyData.eqv (.tuple (xs.map dat)) (.tuple (ys.map dat)) = decide (xs = ys) from eqv_plain px py]
    exact q⟩
theorem ne_planL {K : PySem.W.Frag} {H : Hp} {a b : Addr} {n m : Nat} {xs ys : List V} {Q : VK} (ha : SqL K H a xs) (hb : SqL K H b ys) (px : ∀ x ∈ xs, Plain n x) (py : ∀ y ∈ ys, Plain m y) (q : Q (.bl (!decide (xs = ys))) H) : rNeD K (.ref a) (.ref b) H Q :=
  ⟨_, _, .lst ha (dp_all px), .lst hb (dp_all py), shaped_plainL px, shaped_plainL py, by
    rw [show PyData.eqv (.list (xs.map dat)) (.list (ys.map dat)) = decide (xs = ys) from eqv_plain px py]
    exact q⟩
section
variable {P : Program} {w : World} {K : PySem.W.Frag} {mg : Str → Option Value} {base : Heap} {C : Addr}
/-! ### first_difference -/
def spFirstD (C : Addr) : Sp := fun vs H Q _ => ∃ (a b : Addr) (rs ss : List (Addr × Rec)), vs = [.ref a, .ref b] ∧ RowAt C H a rs ∧ RowAt C H b ss ∧ 1 ≤ rs.length ∧ 1 ≤ ss.length ∧ ∀ (v : V) (G : Hp), Same H G → Told (rs.map (·.2)) (ss.map (·.2)) v → Q v G
theorem cal_firstD (B : Bi mg) (D : At K mg "first_difference" s_first_difference ps_first_difference) (C_telling_lengths : Cal P w K mg base 1 "telling_lengths" [] spTelling) (C_planned : Cal P w K mg base 2 "planned" ps_planned (spPlanned C)) (C_least_difference : Cal P w K mg base 2 "least_difference" ps_least_difference (spLeastD K)) : Cal P w K mg base 3 "first_difference" ps_first_difference (spFirstD C) := by
  refine D.cal sc_first_difference (fun vs H Q E h => ?_) (fun f cdv A outer s H vs Q E hr h => ?_)
  · obtain ⟨a, b, rs, ss, rfl, _⟩ := h
    rfl
  · obtain ⟨a, b, rs, ss, rfl, hR, hS, r1, s1, k⟩ := h
    have fr := hR.fits
    have fs := hS.fits
    have l1 : 1 ≤ (rs.map (·.2)).length := by rw [List.length_map]; exact r1
    have l2 : 1 ≤ (ss.map (·.2)).length := by rw [List.length_map]; exact s1
    refine ⟨_, (pss_cons (ps_for PassesOwn.never rfl (pi_list (pe_own0 C_telling_lengths hr (by decide) (by rfl))) (pg_name (i := 2) sc_first_difference.nd rfl (.inl rfl))
      (pss_cons (ps_set (i := 3) sc_first_difference.nd rfl (.inl rfl) (pe_own C_planned hr (by decide) (by rfl) (pa_cons (pv 0) (pa_cons (pv 2) pa_nil))))
      (pss_cons (ps_set (i := 4) sc_first_difference.nd rfl (.inl rfl) (pe_own C_planned hr (by decide) (by rfl) (pa_cons (pv 1) (pa_cons (pv 2) pa_nil))))
      (pss_one (ps_if (pt_cmpR (op_neD hr.units) (pv 3) (pv 4) (nomark _)) (pss_one (ps_ret (pe_own C_least_difference hr (by decide) (by rfl) (pa_cons (pv 3) (pa_cons (pv 4) (pa_cons (pv 2) pa_nil)))))) pss_nil)))))
      (pss_one (ps_ret pe_non))), ?_⟩
    refine ⟨rfl, fun T nT => ?_⟩
    have sT : Same H (upd H T (.lst (rgV 0 ((81 : Nat) : Int)))) := same_new nT
    have eT : upd H T (.lst (rgV 0 ((81 : Nat) : Int))) T = some (.lst (rgV 0 ((81 : Nat) : Int))) := upd_same
    generalize upd H T (.lst (rgV 0 ((81 : Nat) : Int))) = H1 at sT eT
    refine ⟨T, rfl, ⟨_, .inl (.inl eT)⟩, for_list (K := K) (a := T) (xs := rgV 0 ((81 : Nat) : Int)) (fun i σ J => ∃ u v z, σ = [some (.ref a), some (.ref b), u, v, z] ∧ Same H1 J ∧ ∀ m, m < i → planV (rs.map (·.2)) m = planV (ss.map (·.2)) m)
      ⟨none, none, none, rfl, Same.refl _, fun m hm => absurd hm (by omega)⟩ (fun i σ J _ ⟨_, _, _, _, sJ, _⟩ => .inl (.inl (sJ _ _ eT))) ?_ ?_⟩
    · rintro i x σ J hi ⟨u, v, z, rfl, sJ, low⟩
      rw [rg_get] at hi
      have i81 : i < 81 := Decidable.byContradiction fun h => by
        rw [if_neg h] at hi
        cases hi
      rw [if_pos i81] at hi
      cases hi
      have sA := sT.trans sJ
      refine ⟨_, rfl, _, rfl, a, i, rs, rfl, hR.same sA, by omega, fun U G1 q1 e1 => ?_⟩
      refine ⟨_, rfl, _, rfl, b, i, ss, rfl, hS.same (sA.trans q1), by omega, fun W G2 q2 e2 => ?_⟩
      have e1 : SqT K G2 U (planV (rs.map (·.2)) i) := .inl (.inl (q2 _ _ e1))
      have e2 : SqT K G2 W (planV (ss.map (·.2)) i) := .inl (.inl e2)
      refine ⟨_, rfl, _, rfl, ne_planT e1 e2 (plan_plain fr) (plan_plain fs) ⟨_, rfl, ?_⟩⟩
      by_cases e : planV (rs.map (·.2)) i = planV (ss.map (·.2)) i
      · rw [decide_eq_true e]
        refine iteF ⟨_, _, _, rfl, sJ.trans (q1.trans q2), fun m hm => ?_⟩
        rcases Nat.lt_or_ge m i with h | h
        · exact low m h
        · rw [show m = i by omega]
          exact e
      · rw [decide_eq_false e]
        refine iteT ⟨_, rfl, _, rfl, _, rfl, U, W, _, _, i, rfl, e1, e2, fr, fs, by omega, e, fun y G3 q3 L => ?_⟩
        exact k _ G3 (sA.trans (q1.trans (q2.trans q3))) (.inr ⟨i, y, rfl, by omega, ⟨e, low⟩, L⟩)
    · rintro σ J ⟨u, v, z, rfl, sJ, low⟩
      rw [rg_len] at low
      exact k _ J (sT.trans sJ) (.inl ⟨rfl, alike_all fr fs l1 l2 fun n hn => low n (by omega)⟩)
def spFirstU (C : Addr) : Sp := fun vs H Q _ => ∃ (a b : Addr) (rs ss : List (Addr × Rec)), vs = [.ref a, .ref b] ∧ RowAt C H a rs ∧ RowAt C H b ss ∧ 1 ≤ rs.length ∧ rs.length ≤ 4 ∧ 1 ≤ ss.length ∧ ss.length ≤ 4 ∧ ∀ (v : V) (G : Hp), Same H G → Told (rs.map (·.2)) (ss.map (·.2)) v → Q v G
def spUnst (C : Addr) : Sp := fun vs H Q _ => ∃ (a : Addr) (rs : List (Addr × Rec)), vs = [.ref a] ∧ RowAt C H a rs ∧ 1 ≤ rs.length ∧ rs.length ≤ 4 ∧ ∀ (v : V) (G : Hp), Same H G → Told (rs.map (·.2)) (rs.map (·.2) ++ rs.map (·.2)) v → Q v G
theorem RowAt.twice {H G : Hp} {a b : Addr} {rs : List (Addr × Rec)} (h : RowAt C H a rs) (s : Same H G) (e : G b = some (.tup ((rs.map fun q => V.ref q.1) ++ rs.map fun q => V.ref q.1))) : RowAt C G b (rs ++ rs) := by
  refine ⟨by rw [List.map_append]; exact e, fun q hq => ?_⟩
  have hq : q ∈ rs := by
    rcases List.mem_append.mp hq with hq | hq <;> exact hq
  exact ⟨(h.sh q hq).1.same s, (h.sh q hq).2⟩
theorem cal_unst (B : Bi mg) (D : At K mg "first_unstable" s_first_unstable ps_first_unstable) (C_check_row : Cal P w K mg base 2 "check_row" ps_check_row (spCheckRow C)) (C_first_difference : Cal P w K mg base 3 "first_difference" ps_first_difference (spFirstD C)) : Cal P w K mg base 4 "first_unstable" ps_first_unstable (spUnst C) := by
  refine D.cal sc_first_unstable (fun vs H Q E h => ?_) (fun f cdv A outer s H vs Q E hr h => ?_)
  · obtain ⟨a, rs, rfl, _⟩ := h
    rfl
  · obtain ⟨a, rs, rfl, hR, r1, r4, k⟩ := h
    refine ⟨_, (pss_cons (ps_expr (pe_own C_check_row hr (by decide) (by rfl) (pa_cons (pv 0) pa_nil)))
      (pss_one (ps_ret (pe_own C_first_difference hr (by decide) (by rfl) (pa_cons (pv 0) (pa_cons (pe_op op_catA (pv 0) (pv 0)) pa_nil)))))), ?_⟩
    refine ⟨_, rfl, a, rs, rfl, hR, r1, r4, fun G1 q1 => ?_⟩
    have R1 := hR.same q1
    refine ⟨_, rfl, _, rfl, _, rfl, cat_ok R1.tp R1.tp (Nat.le_of_lt (small1000 (by rw [List.length_map]; omega))) fun U G2 q2 e2 => ?_⟩
    refine ⟨a, U, rs, rs ++ rs, rfl, R1.same q2, R1.twice q2 e2, r1, by rw [List.length_append]; omega, fun v G q h => k v G (q1.trans (q2.trans q)) ?_⟩
    rw [List.map_append] at h
    exact h
def spStable (C : Addr) : Sp := fun vs H Q _ => ∃ (a : Addr) (rs : List (Addr × Rec)), vs = [.ref a] ∧ RowAt C H a rs ∧ 1 ≤ rs.length ∧ rs.length ≤ 4 ∧ ∀ (v : V) (G : Hp), Same H G → Told (rs.map (·.2)) (rs.map (·.2) ++ rs.map (·.2)) v → Q (.bl (decide (v = .non))) G
theorem cal_stable (B : Bi mg) (D : At K mg "is_stable" s_is_stable ps_is_stable) (C_first_unstable : Cal P w K mg base 4 "first_unstable" ps_first_unstable (spUnst C)) : Cal P w K mg base 5 "is_stable" ps_is_stable (spStable C) := by
  refine D.cal sc_is_stable (fun vs H Q E h => ?_) (fun f cdv A outer s H vs Q E hr h => ?_)
  · obtain ⟨a, rs, rfl, _⟩ := h
    rfl
  · obtain ⟨a, rs, rfl, hR, r1, r4, k⟩ := h
    refine ⟨_, (pss_one (ps_ret (pe_cmpR op_isN (pe_own C_first_unstable hr (by decide) (by rfl) (pa_cons (pv 0) pa_nil)) pe_non (nomark _)))), ?_⟩
    exact ⟨_, rfl, a, rs, rfl, hR, r1, r4, fun v G q h => ⟨rfl, k v G q h⟩⟩
end
end Gu
namespace Gu
open PySem PySem.Spec PyProof.Rows L2
/-! ### what a Shortener is worth beside its fields: ==, !=, repr, truth -/
structure ShE (K : PySem.W.Frag) (C : Addr) : Prop where
  ci : PySem.W.isClsIn K C = true
  ti : PySem.W.typeIn K (.ref C) = some (.type "type")
  ne : PySem.W.findIn K (.ref C) "__ne__" = some (some (.builtin "object.__ne__"))
  nb : PySem.W.findIn K (.ref C) "__bool__" = some none
  nl : PySem.W.findIn K (.ref C) "__len__" = some none
  ob : PySem.W.mroIn K C (.type "object") = some true
  eq : ∃ (f : Addr) (fd : FuncData), PySem.W.findIn K (.ref C) "__eq__" = some (some (.ref f)) ∧ PySem.W.isFn K (.ref f) = true ∧ Fun K "__eq__" "Shortener.__eq__" s_Shortener_eq f fd ∧ Binds K fd ps_Shortener_eq []
  re : ∃ (f : Addr) (fd : FuncData), PySem.W.findIn K (.ref C) "__repr__" = some (some (.ref f)) ∧ PySem.W.isFn K (.ref f) = true ∧ Fun K "__repr__" "Shortener.__repr__" s_Shortener_repr f fd ∧ Binds K fd ps_Shortener_repr []
theorem far_type {K : PySem.W.Frag} {C : Addr} {T : String} {l : List Value} (h : PySem.fastBuiltinMro T = some l) (n : l.contains (.ref C) = false) : PySem.W.subIn K (.type T) (.ref C) = some false := by
  show (PySem.fastBuiltinMro T).map (·.contains (.ref C)) = some false
  rw [h]
  exact congrArg some n
theorem far_tuple {K : PySem.W.Frag} {C : Addr} : PySem.W.subIn K (.type "tuple") (.ref C) = some false := far_type (l := [.type "tuple", .type "object"]) (by kernel_rfl) (by simp)
theorem far_str {K : PySem.W.Frag} {C : Addr} : PySem.W.subIn K (.type "str") (.ref C) = some false := far_type (l := [.type "str", .type "object"]) (by kernel_rfl) (by simp)
theorem ShE.no {K : PySem.W.Frag} {C : Addr} (S : ShE K C) {T : String} (h : PySem.W.subIn K (.type T) (.ref C) = some false) : PySem.W.kitOne K (.type T) (.ref C) = some false := by
  have c : ((PySem.W.clsIn K C).isSome && PySem.W.typeIn K (.ref C) == some (.type "type")) = true := by
    rw [S.ti, show (PySem.W.clsIn K C).isSome = true from S.ci]
    rfl
  show (if (Value.type T == Value.ref C) = true then some true else PySem.W.kitCls K (.type T) (.ref C)) = some false
  rw [if_neg (by simp)]
  show (if ((PySem.W.clsIn K C).isSome && PySem.W.typeIn K (.ref C) == some (.type "type")) = true then PySem.W.subIn K (.type T) (.ref C) else none) = some false
  rw [if_pos c]
  exact h
theorem first_of {K : PySem.W.Frag} {C : Addr} {t : Value} (h : PySem.W.subIn K t (.ref C) = some false) : PySem.W.notFirst K C t = true := by
  unfold PySem.W.notFirst
  rw [h]
  simp
theorem first_self {K : PySem.W.Frag} {C : Addr} : PySem.W.notFirst K C (.ref C) = true := by
  unfold PySem.W.notFirst
  simp
section
variable {X : Cx} {n : Nat} {C f : Addr} {fd : FuncData} {ps : List Str} {sp : Sp}
/-- a def called with an instance and one thing more gives a bool: from the promise to the machine -/
theorem run_two {pins : List (Addr × Obj)} {σ : L2.St} {H : Hp} {s : Shared} {A : Around} {R : Bool → Hp → Prop} {x : Addr} {y : V} {u : Value} (F : FnOk X.prog X.w X.K X.mg X.base CX0 n f fd ps sp) (hb : Binds X.K fd ps []) (hr : Room n A) (fr : A.frames = X.A.frames) (I : Inv X pins σ H s) (ry : RelV y u)
    (h : sp [.ref x, y] H (fun v G => ∃ b, v = .bl b ∧ R b G) E0) : wpAny (model X.prog X.w) A (call (.ref f) [.ref x, u]) (fun v s1 => ∃ b, v = .bool b ∧ ∃ G, Inv X pins σ G s1 ∧ R b G) X.xe s := by
  have r2 : Vals [V.ref x, y] [Value.ref x, u] := .cons rfl (.cons ry .nil)
  have l2 := F.len _ _ _ _ h
  have e0 : Env0 X.prog X.w X.K X.mg X.base A X.stack s H := by
    have e := I.env0
    exact ⟨by rw [fr]; exact e.frames, e.mod, e.bs, e.bsz, e.funs, e.frf, e.hok, e.bare⟩
  have bt := hb s [.ref x, u] I.kIn l2
  rw [List.append_nil] at bt
  refine wpAny_call (codeAny_mono (F.run A X.stack s H ⟨[.ref x, u], []⟩ [.ref x, u] [.ref x, y] _ E0 hr e0 bt r2 h) fun r s1 h1 => ?_)
  cases r with
  | error e => exact (h1 : False).elim
  | ok fl =>
    cases fl with
    | ret v =>
      obtain ⟨z, G, I1, rz, b, rfl, q⟩ := I.after h1
      cases (show v = Value.bool b from rz)
      exact ⟨b, rfl, G, I1, q⟩
    | next => exact (h1 : False).elim
    | brk => exact (h1 : False).elim
    | cont => exact (h1 : False).elim
def rOwn (C : Addr) (K : PySem.W.Frag) (sp : Sp) (neg : Bool) : R2 := fun x y H Q => ∃ (a dx : Addr) (fs : List (Str × V)) (t : Value), x = .ref a ∧ H a = some (.ins C dx fs) ∧ TyX K H y t ∧ PySem.W.notFirst K C t = true ∧
  sp [.ref a, y] H (fun v G => ∃ b, v = .bl b ∧ Q (.bl (if neg then !b else b)) G) E0
theorem op_eqOwn (F : FnOk X.prog X.w X.K X.mg X.base CX0 n f fd ps sp) (hb : Binds X.K fd ps []) (hr : Room n X.A) (hs : PySem.W.findIn X.K (.ref C) "__eq__" = some (some (.ref f))) (hf : PySem.W.isFn X.K (.ref f) = true) : OpR X (compareOp .Eq) (rOwn C X.K sp false) := by
  intro pins s σ H x y v u Q I rx ry h
  obtain ⟨a, dx, fs, t, rfl, ha, ty, nf, want⟩ := h
  cases rx
  obtain ⟨m1, J, _⟩ := ins_get I.hok ha
  obtain ⟨od, J, _⟩ := J.look
  obtain ⟨m, fr⟩ := I.fr
  obtain ⟨Pt, kx, pt, _⟩ := kit_of I ry ty
  show wpAny (model X.prog X.w) X.A (richCompare .Eq (.ref a) u) (EP X pins σ Q) X.xe s
  refine PySem.W.cmp_K (op := .Eq) (tb := t) hr.units0 fr I.ok.mod.kin J (kx.ty _ _ I.kIn pt) nf hs hf ?_
  refine wpAny_mono (run_two (R := fun b G => Q (.bl b) G) F hb hr rfl I ry want) (fun r s1 h1 => ?_) fun _ _ e => e
  obtain ⟨b, rfl, G, I1, q⟩ := h1
  exact ⟨.bl b, G, I1, rfl, q⟩
theorem ne_slot {A : Around} {s : Shared} {x : Addr} {u : Value} {ox : Obj} {od : Option Obj} {K : PySem.W.Frag} {prog : Program} {w : World} {E : Value → Shared → Prop} {Q : Value → Shared → Prop} (hu : A.units + 1 < cLine) (inK : K.In s.heap) (J : PySem.W.InstAt s.heap x ox C od) (ob : PySem.W.mroIn K C (.type "object") = some true)
    (he : PySem.W.findIn K (.ref C) "__eq__" = some (some (.ref f))) (hf : PySem.W.isFn K (.ref f) = true) (h : wpAny (model prog w) A.in1 (call (.ref f) [.ref x, u]) (fun v s1 => ∃ b, v = .bool b ∧ Q (.bool (!b)) s1) E s) :
    wpAny (model prog w) A (call (.builtin "object.__ne__") [.ref x, u]) Q E s := by
  have isObj : PySem.W.Looks (model prog w) s.heap (isInstance (.ref x) (.type "object")) true := J.type.andThen (PySem.W.looks_mroIn inK ob)
  refine wpAny_call (codeAny_call_builtin F.cmp_object.ne.plain F.cmpEntry_ne (PySem.W.check_slot F.cmpKind_ne F.cmpSplit_ne isObj (F.cmpArgs_ne _ _) ?_))
  show wpAny (model prog w) A.in1 (Builtin.«object.__ne__» ⟨[.ref x, u], []⟩) _ E s
  unfold Builtin.«object.__ne__»
  refine wpAny_bind (m := slotArgs "__ne__" 1 _) (wpAny_pure ?_)
  refine wpAny_bind (wpAny_cRoomFor (by exact hu) ?_)
  refine wpAny_bind (PySem.W.ifBound_K inK J he hf (wpAny_mono h (fun v s1 h1 => ?_) fun _ _ e => e))
  obtain ⟨b, rfl, q⟩ := h1
  refine wpAny_bind (wpAny_truthy_bool ?_)
  exact wpAny_pure q
/-- != by the own == -/
theorem op_neOwn (F : FnOk X.prog X.w X.K X.mg X.base CX0 n f fd ps sp) (hb : Binds X.K fd ps []) (hr : Room (n + 1) X.A) (S : PySem.W.findIn X.K (.ref C) "__ne__" = some (some (.builtin "object.__ne__"))) (ob : PySem.W.mroIn X.K C (.type "object") = some true)
    (hs : PySem.W.findIn X.K (.ref C) "__eq__" = some (some (.ref f))) (hf : PySem.W.isFn X.K (.ref f) = true) : OpR X (compareOp .NotEq) (rOwn C X.K sp true) := by
  intro pins s σ H x y v u Q I rx ry h
  obtain ⟨a, dx, fs, t, rfl, ha, ty, nf, want⟩ := h
  cases rx
  obtain ⟨m1, J, _⟩ := ins_get I.hok ha
  obtain ⟨od, J, _⟩ := J.look
  obtain ⟨Pt, kx, pt, _⟩ := kit_of I ry ty
  have lt := kx.ty (model X.prog X.w) _ I.kIn pt
  have one : wpAny (model X.prog X.w) X.A (tryCompare (.ref a) "__ne__" u) (fun r s1 => ∃ v, r = some v ∧ EP X pins σ Q v s1) X.xe s := by
    have back : wpAny (model X.prog X.w) X.A (call (.builtin "object.__ne__") [.ref a, u]) (fun v s1 => ∃ b, v = .bool b ∧ EP X pins σ Q v s1) X.xe s := by
      refine ne_slot (hu_of hr) I.kIn J ob hs hf (wpAny_mono (run_two (A := X.A.in1) (R := fun b G => Q (.bl (!b)) G) F hb hr.in1 rfl I ry want) (fun v s1 h1 => ?_) fun _ _ e => e)
      obtain ⟨b, rfl, G, I1, q⟩ := h1
      exact ⟨b, rfl, !b, rfl, .bl (!b), G, I1, rfl, q⟩
    unfold tryCompare
    simp only [callSpecialIfBound?, bindSpecialIfBound?]
    refine wpAny_bind (wpAny_holding (wpAny_bind (wpAny_bind (wpAny_bind (J.type.here ((PySem.W.looks_findIn I.kIn S).here ?_))))))
    simp only [PySem.F.cmp_object.ne.bind]
    refine wpAny_bind (wpAny_askSetting (wpAny_ite ?_))
    have fin : wpAny (model X.prog X.w) X.A (call (.builtin "object.__ne__") ([.ref a] ++ [u]) >>= fun v => pure (some v)) (fun r s1 => ∃ v, r = some (.bool v) ∧ EP X pins σ Q (.bool v) s1) X.xe s := wpAny_bind (wpAny_mono back (fun v s1 h1 => by
      obtain ⟨b, rfl, q⟩ := h1
      exact wpAny_pure ⟨b, rfl, q⟩) fun _ _ e => e)
    have told : ∀ (r : Option Value) (s1 : Shared), (∃ v, r = some (Value.bool v) ∧ EP X pins σ Q (.bool v) s1) → wpAny (model X.prog X.w) X.A (match r with
        | some Value.notImplemented => pure none
        | none => pure none
        | some z => pure (some z)) (fun r s1 => ∃ v, r = some v ∧ EP X pins σ Q v s1) X.xe s1 := fun r s1 h1 => by
      obtain ⟨v, rfl, q⟩ := h1
      exact wpAny_pure ⟨_, rfl, q⟩
    split
    · exact wpAny_bind (wpAny_pure (wpAny_pure (wpAny_mono fin told fun _ _ e => e)))
    · exact wpAny_tryCatch (wpAny_bind (wpAny_pure (wpAny_pure (wpAny_mono fin told fun _ _ e => e))))
  show wpAny (model X.prog X.w) X.A (richCompare .NotEq (.ref a) u) (EP X pins σ Q) X.xe s
  unfold richCompare
  simp only [oneThing_ref]
  refine wpAny_holding (wpAny_bind (wpAny_cRoomFor hr.units0 (wpAny_bind (J.type.here (wpAny_bind (lt.here ?_))))))
  split
  · next q =>
    have e : PySem.W.subIn X.K t (.ref C) = some false := by
      rcases Bool.or_eq_true_iff.mp nf with z | z
      · rw [beq_iff_eq.mp z] at q
        simp at q
      · exact beq_iff_eq.mp z
    refine wpAny_bind ((PySem.W.looks_subIn I.kIn e).here ?_)
    rw [if_neg Bool.false_ne_true]
    exact wpAny_bind (wpAny_mono one (fun r s1 h1 => by
      obtain ⟨v, rfl, q⟩ := h1
      exact wpAny_pure q) fun _ _ e => e)
  · refine wpAny_bind (wpAny_pure ?_)
    rw [if_neg Bool.false_ne_true]
    exact wpAny_bind (wpAny_mono one (fun r s1 h1 => by
      obtain ⟨v, rfl, q⟩ := h1
      exact wpAny_pure q) fun _ _ e => e)
/-- repr of such an instance -/
theorem call_reprOwn (F : FnOk X.prog X.w X.K X.mg X.base CX0 n f fd ps sp) (hb : Binds X.K fd ps []) (hr : Room (n + 1) X.A) (hs : PySem.W.findIn X.K (.ref C) "__repr__" = some (some (.ref f))) (hf : PySem.W.isFn X.K (.ref f) = true) :
    CallR X (.builtin "repr") (fun vs H Q => ∃ (a dx : Addr) (fs : List (Str × V)), vs = [.ref a] ∧ H a = some (.ins C dx fs) ∧ sp [.ref a] H (fun v G => ∃ z, v = .str z ∧ Q (.str z) G) E0) := by
  intro pins s σ H vs us Q I r h
  obtain ⟨a, dx, fs, rfl, ha, want⟩ := h
  cases r with
  | cons r rr =>
    cases rr
    cases (show _ = Value.ref a from r)
    obtain ⟨m1, J, _⟩ := ins_get I.hok ha
    obtain ⟨od, J, _⟩ := J.look
    obtain ⟨m, fr⟩ := I.fr
    refine PySem.W.repr_K (by have := hu_of hr; exact this) fr I.ok.mod.kin J hs hf ?_
    have e0 : Env0 X.prog X.w X.K X.mg X.base X.A.in1 X.stack s H := I.env0.in1
    have bt := hb s [.ref a] I.kIn (F.len _ _ _ _ want)
    rw [List.append_nil] at bt
    refine wpAny_call (codeAny_mono (F.run X.A.in1 X.stack s H ⟨[.ref a], []⟩ [.ref a] [.ref a] _ E0 hr.in1 e0 bt (.cons rfl .nil) want) fun r s1 h1 => ?_)
    cases r with
    | error e => exact (h1 : False).elim
    | ok fl =>
      cases fl with
      | ret v =>
        obtain ⟨z, G, I1, rz, b, rfl, q⟩ := I.after h1
        obtain ⟨tk, rfl⟩ := rz
        exact ⟨.str b, G, I1, ⟨tk, rfl⟩, q⟩
      | next => exact (h1 : False).elim
      | brk => exact (h1 : False).elim
      | cont => exact (h1 : False).elim
/-- bool of it: True -/
theorem bool_new (a : Addr) (ox : Obj) (od : Option Obj) (K : PySem.W.Frag) (nb : PySem.W.findIn K (.ref C) "__bool__" = some none) (nl : PySem.W.findIn K (.ref C) "__len__" = some none) :
    Meets (Builtin.«bool.__new__» ⟨[.type "bool", .ref a], []⟩) (fun _ R s => ((∃ h₀ L m, Fr h₀ L s.heap m ∧ K.In h₀) ∧ PySem.W.InstAt s.heap a ox C od) ∧ R (.ok (.ret (.bool true))) s) := Meets.of_wp fun prog w A R s hs => by
  obtain ⟨⟨⟨h₀, L, m, fr, inK⟩, J⟩, hs⟩ := hs
  obtain ⟨s1, s2, s3, s4, s5⟩ := s
  have f1 := F.conv_sub_bool
  have tr : ∀ (A : Around) (Q : Bool → Shared → Prop) (E : Value → Shared → Prop), Q true ⟨s1, s2, s3, s4, s5⟩ → wpAny (model prog w) A (truthy (.ref a)) Q E ⟨s1, s2, s3, s4, s5⟩ := fun A Q E q => PySem.W.truthy_K0 fr inK J nb nl q
  repeat (any_goals (first | assumption | (with_reducible refine tr _ _ _ ?_) | wp_step))
  all_goals first | exact ⟨_, rfl, hs⟩ | exact hs | skip
theorem call_boolOwn (nb : PySem.W.findIn X.K (.ref C) "__bool__" = some none) (nl : PySem.W.findIn X.K (.ref C) "__len__" = some none) : CallR X (.type "bool") (fun vs H Q => ∃ (a dx : Addr) (fs : List (Str × V)), vs = [.ref a] ∧ H a = some (.ins C dx fs) ∧ Q (.bl true) H) := by
  intro pins s σ H vs us Q I r h
  obtain ⟨a, dx, fs, rfl, ha, q⟩ := h
  cases r with
  | cons r rr =>
    cases rr
    cases (show _ = Value.ref a from r)
    obtain ⟨m1, J, _⟩ := ins_get I.hok ha
    obtain ⟨od, J, _⟩ := J.look
    obtain ⟨m, fr⟩ := I.fr
    exact call_bool_1 (bool_new a _ _ X.K nb nl) ⟨⟨⟨_, _, _, fr, I.ok.mod.kin⟩, J⟩, rfl, .bl true, H, I, rfl, q⟩
end
end Gu
namespace Gu
open PySem PySem.Spec PyProof.Rows L2
def Rec.dat (r : Rec) : PyData := .tuple [.int r.l, .int r.h, .int r.t, .str r.z]
theorem Rec.fit.shaped {r : Rec} (f : r.fit) : SeqAt.shaped r.dat = true := by
  have a := signs_ok (isTxt_signs f.z)
  show (((PyData.str r.z).canLay0 && true) && true) = true
  rw [a]
  rfl
theorem Rec.dp {K : PySem.W.Frag} {H : Hp} {b : Addr} {r : Rec} (h : H b = some (.tup r.vs)) : Dp K H (.ref b) r.dat := .tup (.inl (.inl h)) (.cons (.int _) (.cons (.int _) (.cons (.int _) (.cons (.str _) .nil))))
def num (i : Int) : Str := toString i
def Rec.line (r : Rec) : Str := Str.empty ++ "Shortener(" ++ num r.l ++ ", " ++ num r.h ++ ", " ++ num r.t ++ ", " ++ reprText r.z ++ ")"
theorem num_len {i : Int} (h0 : 0 ≤ i) (h1 : i ≤ 40) : (num i).length ≤ 7 := by
  have l : i.natAbs.log2 < 6 := PySem.Flt.log2_lt_of (by decide) (show i.natAbs < 2 ^ 6 by omega)
  have e := int_text_length_le (a := i) (k := 6) (by decide) l
  show (Str.ofString (toString i)).length ≤ 7
  rw [PySem.ofString_length]
  exact e
theorem mark_text {z : Str} (h : z ∈ marks) : reprText z = "'" ++ z ++ "'" := by
  have a : ∀ z ∈ marks, reprText z = "'" ++ z ++ "'" := by decide +kernel
  exact a z h
theorem app_len (a b : Str) : (a ++ b).length = a.length + b.length := by
  show (a ++ b).cps.toList.length = a.cps.toList.length + b.cps.toList.length
  rw [app_cps, List.length_append]
section
variable {P : Program} {w : World} {K : PySem.W.Frag} {mg : Str → Option Value} {base : Heap} {C : Addr}
def spEqS (K : PySem.W.Frag) (C : Addr) : Sp := fun vs H Q _ => ∃ (a : Addr) (r : Rec) (y : V), vs = [.ref a, y] ∧ ShAt C H a r ∧ r.fit ∧
  ((∃ (b : Addr) (q : Rec), y = .ref b ∧ ShAt C H b q ∧ q.fit ∧ Q (.bl (PyData.eqv r.dat q.dat)) H) ∨ (∃ t, TyX K H y t ∧ PySem.W.kitOne K t (.ref C) = some false ∧ Q (.bl false) H))
theorem ok_eq {f : Addr} {fd : FuncData} (B : Bi mg) (S : ShC K mg C) (F : Fun K "__eq__" "Shortener.__eq__" s_Shortener_eq f fd) : FnOk P w K mg base CX0 1 f fd ps_Shortener_eq (spEqS K C) := by
  refine F.ok sc_Shortener_eq (fun vs H Q E h => ?_) (fun cdv A outer s H vs Q E hr h => ?_)
  · obtain ⟨a, r, y, rfl, _⟩ := h
    rfl
  · obtain ⟨a, r, y, rfl, ⟨dx, b, ha, hb⟩, fit, h⟩ := h
    refine ⟨_, (pss_one (ps_ret (pe_and (pe_callB call_isi (by rfl) B.isinstance (by decide +kernel) (pa_cons (pv 1) (pa_cons (pe_glob (v := .ref C) (by rfl) S.g rfl) pa_nil))) (pe_one (pe_cmpR (op_eqD hr.units) (pe_fld (pv 0) rfl) (pe_fld (pv 1) rfl) (nomark _)))))), ?_⟩
    rcases h with ⟨c, q, rfl, ⟨dy, e, hc, he⟩, fq, k⟩ | ⟨t, ty, kt, k⟩
    · refine ⟨_, rfl, _, _, _, _, true, rfl, .own C, .base (.ins hc S.cl S.ha S.hn S.ht S.hm), S.kk, _, rfl, iteT ⟨_, rfl, a, C, dx, _, _, rfl, ha, S.cl, S.nD, flds_told _ _, _, rfl, c, C, dy, _, _, rfl, hc, S.cl, S.nD, flds_told _ _, ?_⟩⟩
      exact ⟨_, _, Rec.dp hb, Rec.dp he, fit.shaped, fq.shaped, k⟩
    · exact ⟨_, rfl, _, _, t, _, false, rfl, .own C, ty, kt, _, rfl, iteF k⟩
def spReprS (C : Addr) : Sp := fun vs H Q _ => ∃ (a : Addr) (r : Rec), vs = [.ref a] ∧ ShAt C H a r ∧ r.ok ∧ Q (.str r.line) H
theorem ok_repr {f : Addr} {fd : FuncData} (B : Bi mg) (S : ShC K mg C) (F : Fun K "__repr__" "Shortener.__repr__" s_Shortener_repr f fd) : FnOk P w K mg base CX0 1 f fd ps_Shortener_repr (spReprS C) := by
  refine F.ok sc_Shortener_repr (fun vs H Q E h => ?_) (fun cdv A outer s H vs Q E hr h => ?_)
  · obtain ⟨a, r, rfl, _⟩ := h
    rfl
  · obtain ⟨a, r, rfl, ⟨dx, b, ha, _⟩, ok, k⟩ := h
    have n1 := num_len ok.l0 ok.l1
    have n2 := num_len ok.h0 ok.h1
    have n3 := num_len ok.t0 ok.t1
    have zl := marks_len ok.z
    have ez : r.z.length = r.z.cps.toList.length := rfl
    have e1 : (("Shortener(" : String) : Str).length = 10 := by decide +kernel
    have e2 : ((", " : String) : Str).length = 2 := by decide +kernel
    have e3 : ((")" : String) : Str).length = 1 := by decide +kernel
    have e4 : (("'" : String) : Str).length = 1 := by decide +kernel
    have e5 : (Str.empty).length = 0 := rfl
    have rz : (reprText r.z).length ≤ 5 := by
      rw [mark_text ok.z, app_len, app_len, e4]
      omega
    have big : ∀ n : Nat, n ≤ 200 → n ≤ sizeLine := fun n h => Nat.le_of_lt (small1000 (by omega))
    have lg : ∀ i : Int, 0 ≤ i → i ≤ 40 → i.natAbs.log2 < 1920 := fun i h0 h1 => Nat.lt_of_lt_of_le (PySem.Flt.log2_lt_of (k := 6) (by decide) (show i.natAbs < 2 ^ 6 by omega)) (by decide)
    refine ⟨_, (pss_one (ps_ret (pe_joined (.cons pe_str (.cons (pe_fmt (pe_fld (pv 0) rfl)) (.cons pe_str (.cons (pe_fmt (pe_fld (pv 0) rfl)) (.cons pe_str (.cons (pe_fmt (pe_fld (pv 0) rfl)) (.cons pe_str (.cons (pe_fmtR (pe_fld (pv 0) rfl)) (.cons pe_str .nil)))))))))))), ?_⟩
    refine ⟨_, rfl, big _ ?_, _, rfl, a, C, dx, _, _, rfl, ha, S.cl, S.nL, flds_limit _ _, .inr ⟨_, rfl, lg _ ok.l0 ok.l1, _, rfl, big _ ?_, _, rfl, big _ ?_, _, rfl, a, C, dx, _, _, rfl, ha, S.cl, S.nH, flds_head _ _, .inr ⟨_, rfl, lg _ ok.h0 ok.h1, _, rfl, big _ ?_, _, rfl, big _ ?_,
      _, rfl, a, C, dx, _, _, rfl, ha, S.cl, S.nT, flds_tail _ _, .inr ⟨_, rfl, lg _ ok.t0 ok.t1, _, rfl, big _ ?_, _, rfl, big _ ?_, _, rfl, a, C, dx, _, _, rfl, ha, S.cl, S.nM, flds_mark _ _, .inl ⟨_, rfl, big _ (by omega), _, rfl, big _ ?_, _, rfl, big _ ?_, k⟩⟩⟩⟩⟩
    all_goals
      simp only [app_len]
      have m1 : (Str.ofString (toString r.l)).length ≤ 7 := n1
      have m2 : (Str.ofString (toString r.h)).length ≤ 7 := n2
      have m3 : (Str.ofString (toString r.t)).length ≤ 7 := n3
      omega
end
end Gu
namespace Gu
open PySem PySem.Spec PyProof.Rows L2
/-! ### sets made of a list or a tuple of keys -/
/-- each once, in the order of their first coming -/
def dds {α : Type} [DecidableEq α] (ks : List α) : List α := ks.foldl (fun acc k => if k ∈ acc then acc else acc ++ [k]) []
/-- j is among ks -/
def isIn {α : Type} [DecidableEq α] (ks : List α) (j : α) : Bool := decide (j ∈ ks)
theorem dds_snoc {α : Type} [DecidableEq α] (ks : List α) (k : α) : dds (ks ++ [k]) = if k ∈ dds ks then dds ks else dds ks ++ [k] := by
  unfold dds
  rw [List.foldl_append]
  rfl
theorem mem_dds {α : Type} [DecidableEq α] {j : α} (ks : List α) : j ∈ dds ks ↔ j ∈ ks := by
  have main : ∀ (ks acc : List α), j ∈ ks.foldl (fun acc k => if k ∈ acc then acc else acc ++ [k]) acc ↔ j ∈ acc ∨ j ∈ ks := by
    intro ks
    induction ks with
    | nil =>
      intro acc
      show j ∈ acc ↔ _
      simp
    | cons k ks ih =>
      intro acc
      show j ∈ ks.foldl _ (if k ∈ acc then acc else acc ++ [k]) ↔ _
      rw [ih]
      by_cases h : k ∈ acc
      · rw [if_pos h, List.mem_cons]
        constructor
        · rintro (h1 | h1)
          · exact .inl h1
          · exact .inr (.inr h1)
        · rintro (h1 | h1 | h1)
          · exact .inl h1
          · exact .inl (h1 ▸ h)
          · exact .inr h1
      · rw [if_neg h, List.mem_append, List.mem_singleton, List.mem_cons, or_assoc]
  have := main ks []
  unfold dds
  rw [this]
  simp
theorem dds_nodup {α : Type} [DecidableEq α] (ks : List α) : (dds ks).Nodup := by
  have main : ∀ (ks acc : List α), acc.Nodup → (ks.foldl (fun acc k => if k ∈ acc then acc else acc ++ [k]) acc).Nodup := by
    intro ks
    induction ks with
    | nil => exact fun acc h => h
    | cons k ks ih =>
      intro acc h
      show (ks.foldl _ (if k ∈ acc then acc else acc ++ [k])).Nodup
      apply ih
      by_cases e : k ∈ acc
      · rw [if_pos e]
        exact h
      · rw [if_neg e, List.nodup_append]
        refine ⟨h, by simp, fun a ha b hb => ?_⟩
        rw [List.mem_singleton.mp hb]
        exact fun q => e (q ▸ ha)
  exact main ks [] List.nodup_nil
theorem dds_len {α : Type} [DecidableEq α] (ks : List α) : (dds ks).length ≤ ks.length := by
  have main : ∀ (ks acc : List α), (ks.foldl (fun acc k => if k ∈ acc then acc else acc ++ [k]) acc).length ≤ acc.length + ks.length := by
    intro ks
    induction ks with
    | nil => exact fun acc => Nat.le_refl _
    | cons k ks ih =>
      intro acc
      refine Nat.le_trans (ih _) ?_
      show (if k ∈ acc then acc else acc ++ [k]).length + _ ≤ _
      split
      · simp only [List.length_cons]
        omega
      · simp only [List.length_cons, List.length_append, List.length_nil]
        omega
  have e := main ks []
  rw [List.length_nil, Nat.zero_add] at e
  exact e
section
variable {prog : Program} {w : World} {A : Around} {R : Result → Shared → Prop} {I : Addr} {fp wr : List Addr} {G : Array GenState → Array GenState → Prop} {n : Nat} {Py : Nat → Value → Prop} {St : Nat → Shared → Prop} {α : Type} [DecidableEq α] {knd : KeyKind prog w α}
theorem fill_set (W : WalksS prog w A.in1 I fp wr G n Py St) (T : Addr) (away : T ∉ fp) (ks : List α) (many : n = ks.length) (few : ks.length + 1 < scanBound)
    (drawn : ∀ i v, Py i v → ∃ k, ks[i]? = some k ∧ knd.is k v = true ∧ v.scannable = true) :
    ∀ (left i : Nat) (s : Shared), n - i = left → i ≤ n → St i s → s.heap.SetOf knd T (isIn (ks.take i)) (dds (ks.take i)).length →
      (∀ t, Moved (T :: wr) G s t → t.heap.SetOf knd T (isIn ks) (dds ks).length → R (.ok (.ret .none)) t) →
      codeAny (model prog w) A (.builtin "set.update.loop" ⟨[.ref T, .ref I], []⟩) R s := by
  have awayW : T ∉ wr := fun h => away (W.sub _ h)
  have wider : ∀ b ∈ wr, b ∈ T :: wr := fun b q => List.mem_cons_of_mem _ q
  intro left
  induction left with
  | zero =>
    intro i s el il st so goal
    have ei : i = n := by omega
    subst ei
    refine codeAny_builtin F.entry_set_update_loop ?_
    rw [Around.under_plainId F.plain_set_update_loop _]
    show wpAny _ A.in1 (pyNext (.ref I) >>= _) _ _ s
    refine wpAny_bind (W.done s _ _ st fun t mv => ?_)
    show wpAny _ A.in1 (ret Value.none) _ _ t
    have full : ks.take i = ks := List.take_of_length_le (by omega)
    rw [full] at so
    refine wpAny_pure (goal t (mv.mono wider) ?_)
    obtain ⟨o, es, ep, tb, ho, more⟩ := so
    exact ⟨o, es, ep, tb, mv.heap T _ awayW ho, more⟩
  | succ left ih =>
    intro i s el il st so goal
    have less : i < n := by omega
    refine codeAny_builtin F.entry_set_update_loop ?_
    rw [Around.under_plainId F.plain_set_update_loop _]
    show wpAny _ A.in1 (pyNext (.ref I) >>= _) _ _ s
    refine wpAny_bind (W.item i s _ _ less st fun v t py st1 mv => ?_)
    obtain ⟨k, ek, isk, sc⟩ := drawn i v py
    have so1 : t.heap.SetOf knd T (isIn (ks.take i)) (dds (ks.take i)).length := by
      obtain ⟨o, es, ep, tb, ho, more⟩ := so
      exact ⟨o, es, ep, tb, mv.heap T _ awayW ho, more⟩
    show wpAny _ A.in1 (holding [v] (setAdd T v) >>= _) _ _ t
    refine wpAny_bind (wpAny_holding ?_)
    unfold setAdd
    refine wpAny_holding ?_
    refine wpAny_bind (knd.pyHash isk ?_)
    have room1 : (dds (ks.take i)).length + 1 < scanBound := by
      have a := dds_len (ks.take i)
      rw [List.length_take] at a
      omega
    refine wpAny_setAddHashed_of (knd := knd) (s := { t with toks := t.toks + 1 }) isk sc so1 room1 fun h2 sb so2 => ?_
    have snoc : ks.take (i + 1) = ks.take i ++ [k] := by
      rw [List.take_add_one, ek]
      rfl
    have so3 : h2.SetOf knd T (isIn (ks.take (i + 1))) (dds (ks.take (i + 1))).length := by
      have e1 : (fun j => isIn (ks.take i) j || decide (j = k)) = isIn (ks.take (i + 1)) := by
        funext j
        unfold isIn
        rw [snoc]
        simp [List.mem_append]
      have e2 : (if isIn (ks.take i) k = true then (dds (ks.take i)).length else (dds (ks.take i)).length + 1) = (dds (ks.take (i + 1))).length := by
        rw [snoc, dds_snoc]
        unfold isIn
        by_cases q : k ∈ ks.take i
        · rw [if_pos (decide_eq_true q), if_pos ((mem_dds _).mpr q)]
        · rw [if_neg (fun z => q (of_decide_eq_true z)), if_neg (fun z => q ((mem_dds _).mp z)), List.length_append]
          rfl
      rw [← e1, ← e2]
      exact so2
    refine wpAny_pure ⟨plainId_quiet F.plain_set_update_loop _, ih (i + 1) _ (by omega) less (W.frame _ t _ _ st1 (Nat.le_succ _) fun b q o e => ?_) so3 fun t2 mv2 so4 => ?_⟩
    · rw [sb.2 b (fun z : b = T => away (z ▸ q))]
      exact e
    · refine goal t2 (Moved.trans W.gtrans ((mv.mono wider).then_heap (Nat.le_succ _) fun b o q e => ?_) mv2) so4
      rw [sb.2 b (fun z : b = T => q (by rw [z]; exact List.mem_cons_self))]
      exact e
end
section
variable {prog : Program} {w : World} {A : Around} {E : Value → Shared → Prop} {s : Shared}
/-- the empty set's object, by its way of order -/
abbrev noneIn (b : Bool) : Obj := { cls := .type "set", dict := none, data := .set #[] 0 (.fresh 0 0 b) }
set_option maxHeartbeats 3200000 in
theorem init_goes {T l : Addr} {b : Bool} {Q : PySem.Fin → Shared → Prop} {TY : String} {od : Option Addr} {dt : Data} {sl : Array (Option Value)} (at_T : s.heap.get? T = some (noneIn b)) (at_l : s.heap.get? l = some { cls := .type TY, dict := od, data := dt, slots := sl })
    (notS : isSubtype (.type TY) (.type "set") = pure false) (notF : isSubtype (.type TY) (.type "frozenset") = pure false) (notD : (Value.type TY == Value.type "dict") = false)
    (h : wpAny (model prog w) A (pyIter (.ref l)) (fun a t => wpAny (model prog w) A (do let _ ← runValue (Code.builtin "set.update.loop" { pos := [Value.ref T, a] }); pure ()) (fun _ t2 => wpAny (model prog w) A (ret Value.none) Q E t2) E t) E s) :
    wpAny (model prog w) A (Builtin.«set.__init__» ⟨[.ref T, .ref l], []⟩) Q E s := by
  have isS : Shared.TypeIs s (.ref T) "set" := ⟨_, at_T, rfl⟩
  unfold Builtin.«set.__init__» noKeywords Builtin.Frozenset.updateFrom
  revert h
  generalize pyIter = PI
  intro h
  wp_walk
  exact h
end
section
variable {prog : Program} {w : World} {A : Around} {E : Value → Shared → Prop} {s : Shared} {α : Type} [DecidableEq α] {knd : KeyKind prog w α}
set_option maxHeartbeats 3200000 in
theorem call_setOfL {l : Addr} {items : Array Value} (ks : List α) {Q : Value → Shared → Prop} (calm : A.handled = none) (at_l : s.heap.IsList l items) (size : items.size = ks.length) (few : ks.length + 1 < scanBound)
    (keys : ∀ (i : Nat) (v : Value), items[i]? = some v → ∃ k : α, ks[i]? = some k ∧ knd.is k v = true ∧ v.scannable = true)
    (h : ∀ (g : Heap) (tk : Nat), g.SetOf knd s.heap.objs.size (isIn ks) (dds ks).length → (∀ b o, s.heap.get? b = some o → g.get? b = some o) → Q (.ref s.heap.objs.size) { s with heap := g, toks := tk }) :
    wpAny (model prog w) A (call (.type "set") [.ref l]) Q E s := by
  obtain ⟨c0, tl0, mro0⟩ := F.called_set.mro
  have made0 := F.called_set.made
  have sub0 := F.called_set.sub
  refine wpAny_call (codeAny_of_tree ?_)
  show wpAny _ _ (callAny (.type "set") _) _ _ _
  refine wpAny_pure ⟨Code.quiet_builtin _ (by decide +kernel), codeAny_builtin F.entry_type_call ?_⟩
  rw [Around.under_plain (weight_type_call_type "set" [.ref l] []) rfl]
  have nt0 := F.called_set.notType
  have cc0 := F.called_set.canCreate
  have tc0 := F.typeCall_set_1 (.ref l)
  repeat (any_goals (first | assumption | wp_step))
  refine codeAny_mono (code_set_new_1 (.ref l) (E := E) (Q₁ := fun x t => ∃ b : Bool, x = .ref s.heap.objs.size ∧ t = { s with heap := s.heap.push (noneIn b) }) fun b => ⟨b, rfl, rfl⟩) fun r t hr => ?_
  cases r with
  | error e => exact hr
  | ok fl =>
    cases fl with
    | next => exact (hr : False).elim
    | brk => exact (hr : False).elim
    | cont => exact (hr : False).elim
    | ret x =>
      obtain ⟨b0, rfl, rfl⟩ := hr
      have new0 : (s.heap.push (noneIn b0)).get? s.heap.objs.size = some (noneIn b0) := Heap.get?_push_size _ rfl
      have isS : Shared.TypeIs { s with heap := s.heap.push (noneIn b0) } (.ref s.heap.objs.size) "set" := ⟨_, new0, rfl⟩
      have li0 := F.called_set.init.lookup
      have bi0 := F.called_set.init.bind (.ref s.heap.objs.size)
      repeat (any_goals (first | assumption | wp_step))
      refine codeAny_mono (codeAny_call_builtin (R := wants (fun y t2 => y = .none ∧ ∃ (g : Heap) (tk : Nat), t2 = { s with heap := g, toks := tk } ∧ g.SetOf knd s.heap.objs.size (isIn ks) (dds ks).length ∧ (∀ b o, s.heap.get? b = some o → g.get? b = some o)) E)
        F.called_set.init.plain F.entry_set_init (check_set_init_1 isS ?_)) fun r2 t2 hr2 => ?_
      · obtain ⟨ol, hol, cl0, nl, dl0⟩ := at_l
        obtain ⟨ocls, odict, odata, oslots⟩ := ol
        simp only at cl0 dl0
        subst cl0
        subst dl0
        have hol1 : (s.heap.push (noneIn b0)).get? l = some { cls := .type "list", dict := odict, data := .seq items nl, slots := oslots } := Heap.get?_push_of_some _ hol
        have notS := F.sub_list_set
        have notF := F.sub_list_frozenset
        have notD : (Value.type "list" == Value.type "dict") = false := by decide
        have at1 : (s.heap.push (noneIn b0)).IsList l items := ⟨_, hol1, rfl, nl, rfl⟩
        refine init_goes (b := b0) new0 hol1 notS notF notD ?_
        refine wpAny_pyIter_list at1 ?_
        refine wpAny_bind (wpAny_runValue ?_)
        have lt0 : l < s.heap.objs.size := Heap.lt_size hol
        have calm3 : A.in1.in1.in1.handled = none := by simp [calm]
        have z1 : (s.heap.push (noneIn b0)).objs.size = s.heap.objs.size + 1 := Heap.size_push ..
        have apart : l ≠ (s.heap.push (noneIn b0)).objs.size := by
          rw [z1]
          exact Nat.ne_of_lt (Nat.lt_succ_of_lt lt0)
        have off : s.heap.objs.size ∉ [(s.heap.push (noneIn b0)).objs.size, l] := by
          rw [z1]
          intro q
          rcases List.mem_cons.mp q with q | q
          · exact absurd q (Nat.ne_of_lt (Nat.lt_succ_self _))
          · exact absurd (List.mem_singleton.mp q) (Nat.ne_of_gt lt0)
        refine fill_set ((Walks.list calm3 _ l apart items).toS) s.heap.objs.size off ks size few keys (items.size - 0) 0 _ (by omega) (Nat.zero_le _) ⟨⟨_, Heap.get?_push_size _ rfl, rfl, rfl⟩, (at1.push _)⟩ ?first ?last
        case first =>
          have got : ((s.heap.push (noneIn b0)).push { cls := .type "list_iterator", data := .fields #[.ref l, .int 0 0] }).get? s.heap.objs.size = some (noneIn b0) := Heap.get?_push_of_some _ new0
          refine ⟨_, #[], 0, _, got, ⟨rfl, rfl, rfl⟩, rfl, (fun e he => by simp at he), (fun k => by simp [isIn]), (by decide), (by rfl), rfl⟩
        case last =>
          intro t3 mv so
          obtain ⟨g, gn, dr, tk, os⟩ := t3
          have e1 : gn = s.gens := mv.gens
          have e2 : dr = s.drawn := mv.drawn
          have e3 : os = s.os := mv.os
          subst e1
          subst e2
          subst e3
          show wpAny _ _ _ _ _ _
          refine wpAny_pure ?_
          show wpAny _ _ (ret Value.none) _ _ _
          refine wpAny_pure ⟨rfl, g, tk, rfl, so, fun b o e => ?_⟩
          have below : b < s.heap.objs.size := Heap.lt_size e
          refine mv.heap b o (fun q => ?_) (Heap.get?_push_of_some _ (Heap.get?_push_of_some _ e))
          rcases List.mem_cons.mp q with q | q
          · exact absurd q (Nat.ne_of_lt below)
          · have q2 := List.mem_singleton.mp q
            rw [z1] at q2
            exact absurd q2 (Nat.ne_of_lt (Nat.lt_succ_of_lt below))
      · cases r2 with
        | error e => exact hr2
        | ok fl2 =>
          cases fl2 with
          | next => exact (hr2 : False).elim
          | brk => exact (hr2 : False).elim
          | cont => exact (hr2 : False).elim
          | ret y =>
            obtain ⟨rfl, g, tk, rfl, so, keep⟩ := hr2
            repeat (any_goals (first | assumption | wp_step))
            exact h _ _ so keep
end
section
variable {prog : Program} {w : World} {A : Around} {E : Value → Shared → Prop} {s : Shared} {α : Type} [DecidableEq α] {knd : KeyKind prog w α}
set_option maxHeartbeats 3200000 in
theorem call_setOfT {l : Addr} {items : Array Value} (ks : List α) {Q : Value → Shared → Prop} (calm : A.handled = none) (at_l : s.heap.IsTuple l items) (size : items.size = ks.length) (few : ks.length + 1 < scanBound)
    (keys : ∀ (i : Nat) (v : Value), items[i]? = some v → ∃ k : α, ks[i]? = some k ∧ knd.is k v = true ∧ v.scannable = true)
    (h : ∀ (g : Heap) (tk : Nat), g.SetOf knd s.heap.objs.size (isIn ks) (dds ks).length → (∀ b o, s.heap.get? b = some o → g.get? b = some o) → Q (.ref s.heap.objs.size) { s with heap := g, toks := tk }) :
    wpAny (model prog w) A (call (.type "set") [.ref l]) Q E s := by
  obtain ⟨c0, tl0, mro0⟩ := F.called_set.mro
  have made0 := F.called_set.made
  have sub0 := F.called_set.sub
  refine wpAny_call (codeAny_of_tree ?_)
  show wpAny _ _ (callAny (.type "set") _) _ _ _
  refine wpAny_pure ⟨Code.quiet_builtin _ (by decide +kernel), codeAny_builtin F.entry_type_call ?_⟩
  rw [Around.under_plain (weight_type_call_type "set" [.ref l] []) rfl]
  have nt0 := F.called_set.notType
  have cc0 := F.called_set.canCreate
  have tc0 := F.typeCall_set_1 (.ref l)
  repeat (any_goals (first | assumption | wp_step))
  refine codeAny_mono (code_set_new_1 (.ref l) (E := E) (Q₁ := fun x t => ∃ b : Bool, x = .ref s.heap.objs.size ∧ t = { s with heap := s.heap.push (noneIn b) }) fun b => ⟨b, rfl, rfl⟩) fun r t hr => ?_
  cases r with
  | error e => exact hr
  | ok fl =>
    cases fl with
    | next => exact (hr : False).elim
    | brk => exact (hr : False).elim
    | cont => exact (hr : False).elim
    | ret x =>
      obtain ⟨b0, rfl, rfl⟩ := hr
      have new0 : (s.heap.push (noneIn b0)).get? s.heap.objs.size = some (noneIn b0) := Heap.get?_push_size _ rfl
      have isS : Shared.TypeIs { s with heap := s.heap.push (noneIn b0) } (.ref s.heap.objs.size) "set" := ⟨_, new0, rfl⟩
      have li0 := F.called_set.init.lookup
      have bi0 := F.called_set.init.bind (.ref s.heap.objs.size)
      repeat (any_goals (first | assumption | wp_step))
      refine codeAny_mono (codeAny_call_builtin (R := wants (fun y t2 => y = .none ∧ ∃ (g : Heap) (tk : Nat), t2 = { s with heap := g, toks := tk } ∧ g.SetOf knd s.heap.objs.size (isIn ks) (dds ks).length ∧ (∀ b o, s.heap.get? b = some o → g.get? b = some o)) E)
        F.called_set.init.plain F.entry_set_init (check_set_init_1 isS ?_)) fun r2 t2 hr2 => ?_
      · obtain ⟨ol, hol, cl0, nl, dl0⟩ := at_l
        obtain ⟨ocls, odict, odata, oslots⟩ := ol
        simp only at cl0 dl0
        subst cl0
        subst dl0
        have hol1 : (s.heap.push (noneIn b0)).get? l = some { cls := .type "tuple", dict := odict, data := .seq items nl, slots := oslots } := Heap.get?_push_of_some _ hol
        have notS := F.sub_tuple_set
        have notF := F.sub_tuple_frozenset
        have notD : (Value.type "tuple" == Value.type "dict") = false := by decide
        have at1 : (s.heap.push (noneIn b0)).IsTuple l items := ⟨_, hol1, rfl, nl, rfl⟩
        refine init_goes (b := b0) new0 hol1 notS notF notD ?_
        refine wpAny_pyIter_tuple at1 ?_
        refine wpAny_bind (wpAny_runValue ?_)
        have lt0 : l < s.heap.objs.size := Heap.lt_size hol
        have calm3 : A.in1.in1.in1.handled = none := by simp [calm]
        have z1 : (s.heap.push (noneIn b0)).objs.size = s.heap.objs.size + 1 := Heap.size_push ..
        have apart : l ≠ (s.heap.push (noneIn b0)).objs.size := by
          rw [z1]
          exact Nat.ne_of_lt (Nat.lt_succ_of_lt lt0)
        have off : s.heap.objs.size ∉ [(s.heap.push (noneIn b0)).objs.size, l] := by
          rw [z1]
          intro q
          rcases List.mem_cons.mp q with q | q
          · exact absurd q (Nat.ne_of_lt (Nat.lt_succ_self _))
          · exact absurd (List.mem_singleton.mp q) (Nat.ne_of_gt lt0)
        refine fill_set ((Walks.tuple calm3 _ l apart items).toS) s.heap.objs.size off ks size few keys (items.size - 0) 0 _ (by omega) (Nat.zero_le _) ⟨⟨_, Heap.get?_push_size _ rfl, rfl, rfl⟩, (at1.push _)⟩ ?first ?last
        case first =>
          have got : ((s.heap.push (noneIn b0)).push { cls := .type "tuple_iterator", data := .fields #[.ref l, .int 0 0] }).get? s.heap.objs.size = some (noneIn b0) := Heap.get?_push_of_some _ new0
          refine ⟨_, #[], 0, _, got, ⟨rfl, rfl, rfl⟩, rfl, (fun e he => by simp at he), (fun k => by simp [isIn]), (by decide), (by rfl), rfl⟩
        case last =>
          intro t3 mv so
          obtain ⟨g, gn, dr, tk, os⟩ := t3
          have e1 : gn = s.gens := mv.gens
          have e2 : dr = s.drawn := mv.drawn
          have e3 : os = s.os := mv.os
          subst e1
          subst e2
          subst e3
          show wpAny _ _ _ _ _ _
          refine wpAny_pure ?_
          show wpAny _ _ (ret Value.none) _ _ _
          refine wpAny_pure ⟨rfl, g, tk, rfl, so, fun b o e => ?_⟩
          have below : b < s.heap.objs.size := Heap.lt_size e
          refine mv.heap b o (fun q => ?_) (Heap.get?_push_of_some _ (Heap.get?_push_of_some _ e))
          rcases List.mem_cons.mp q with q | q
          · exact absurd q (Nat.ne_of_lt below)
          · have q2 := List.mem_singleton.mp q
            rw [z1] at q2
            exact absurd q2 (Nat.ne_of_lt (Nat.lt_succ_of_lt below))
      · cases r2 with
        | error e => exact hr2
        | ok fl2 =>
          cases fl2 with
          | next => exact (hr2 : False).elim
          | brk => exact (hr2 : False).elim
          | cont => exact (hr2 : False).elim
          | ret y =>
            obtain ⟨rfl, g, tk, rfl, so, keep⟩ := hr2
            repeat (any_goals (first | assumption | wp_step))
            exact h _ _ so keep
end
theorem key_at : ∀ {ks : List Key} {us : List Value}, Vals (ks.map kV) us → ∀ (i : Nat) (v : Value), us[i]? = some v → ∃ k, ks[i]? = some k ∧ RelV (kV k) v
  | [], _, .nil, i, v, h => by simp at h
  | k :: ks, _, .cons r t, 0, v, h => by
    cases h
    exact ⟨k, rfl, r⟩
  | k :: ks, _, .cons r t, i + 1, v, h => key_at t i v h
/-- len(set(x)): how many different keys -/
def tLenSetK (K : PySem.W.Frag) (ta : TE) : TE := fun σ H Q => ta σ H fun x G => ∃ (l : Addr) (ks : List Key), x = .ref l ∧ (SqL K G l (ks.map kV) ∨ SqT K G l (ks.map kV)) ∧ ks.length ≤ 4000 ∧ Q (.int ((dds ks).length : Nat)) G
theorem pe_lenSetK {X : Cx} {a : Expr} {ta : TE} {p p2 q pos : Pos} (hg : Gl X "len") (hm : X.mg "len" = none) (hg2 : Gl X "set") (hm2 : X.mg "set" = none) (ha : PE X a ta) (calm : X.calm = true := by rfl)
    (na : starEach [a] X.env = (false, eval a X.env) :: starEach [] X.env := by rfl) : PE X (.Call (.Name "len" p) [.Call (.Name "set" p2) [a] [] q] [] pos) (tLenSetK X.K ta) := by
  refine ⟨fun pins s σ H Q I h => Call_ (ld_blt I hg hm boot_len (PyProof.Rows.callWith_builtin1 (PyProof.Rows.args_cons ?_ rfl) rfl rfl))⟩
  refine Call_ (ld_blt I hg2 hm2 boot_set (PyProof.Rows.callWith_type1 (PyProof.Rows.args_cons (thn (ha.run pins s σ H _ I h) fun v s1 ⟨x, G, I1, r1, q1⟩ => PyProof.Rows.args_nil ?_) na) na rfl))
  obtain ⟨l, ks, rfl, hq, few, q1⟩ := q1
  cases r1
  have fin : ∀ (g : Heap) (tk : Nat), g.SetOf (mixKind X.prog X.w) s1.heap.objs.size (isIn ks) (dds ks).length → (∀ b o, s1.heap.get? b = some o → g.get? b = some o) →
      wpAny (model X.prog X.w) X.A (call (.builtin "len") [.ref s1.heap.objs.size]) (fun v s' => ∃ (y : V) (J : Hp), Inv X pins σ J s' ∧ RelV y v ∧ Q y J) X.xe { s1 with heap := g, toks := tk } := by
    intro g tk so keep
    obtain ⟨o, es, ep, t, ho, hex, hd, _, _, _, hf, hn⟩ := so
    have I2 : Inv X pins σ G { s1 with heap := g, toks := tk } := I1.kept keep
    have b1 := dds_len ks
    exact call_len_set ho hex hd hf (by rw [hn]; omega) ⟨.int ((dds ks).length : Nat), G, I2.tok _, ⟨_, by rw [hn]⟩, q1⟩
  rcases hq with hq | hq
  · obtain ⟨its, r, pl, hz⟩ := I1.list hq
    have el : its.toArray.size = ks.length := by rw [List.size_toArray, ← r.length, List.length_map]
    refine call_setOfL (knd := mixKind X.prog X.w) ks (I1.ok.hd calm) pl.isList el (by unfold scanBound; omega) (fun i v hv => ?_) fun g tk so keep => PyProof.Rows.args_nil (fin g tk so keep)
    obtain ⟨k, e1, e2⟩ := key_at r i v (by simpa using hv)
    exact ⟨k, e1, kV_is e2, key_scan e2⟩
  · obtain ⟨its, r, pl, hz⟩ := I1.tuple hq
    have el : its.toArray.size = ks.length := by rw [List.size_toArray, ← r.length, List.length_map]
    refine call_setOfT (knd := mixKind X.prog X.w) ks (I1.ok.hd calm) pl el (by unfold scanBound; omega) (fun i v hv => ?_) fun g tk so keep => PyProof.Rows.args_nil (fin g tk so keep)
    obtain ⟨k, e1, e2⟩ := key_at r i v (by simpa using hv)
    exact ⟨k, e1, kV_is e2, key_scan e2⟩
end Gu
namespace Gu
open PySem PySem.Spec PyProof.Rows L2
/-! ### families of shorteners -/
inductive Kd where
  | e
  | s
  | m
def Kd.word : Kd → Str
  | .e => "end"
  | .s => "start"
  | .m => "middle"
def fam (k : Kd) (z : Str) (w : Int) : Rec := match k with
  | .e => ⟨w, w - z.length, 0, z⟩
  | .s => ⟨w, 0, w - z.length, z⟩
  | .m => ⟨w, (w - z.length) - (w - z.length) / 2, (w - z.length) / 2, z⟩
theorem fam_fit (k : Kd) {z : Str} {w : Int} (hz : isTxt z 3 = true) (h1 : (z.length : Int) ≤ w) (h2 : w ≤ 40) : (fam k z w).fit := by
  cases k
  · exact ⟨⟨show (0 : Int) ≤ w by omega, h2⟩, ⟨show (0 : Int) ≤ w - z.length by omega, show w - z.length ≤ 40 by omega⟩, ⟨show (0 : Int) ≤ 0 by omega, show (0 : Int) ≤ 40 by omega⟩, hz⟩
  · exact ⟨⟨show (0 : Int) ≤ w by omega, h2⟩, ⟨show (0 : Int) ≤ 0 by omega, show (0 : Int) ≤ 40 by omega⟩, ⟨show (0 : Int) ≤ w - z.length by omega, show w - z.length ≤ 40 by omega⟩, hz⟩
  · exact ⟨⟨show (0 : Int) ≤ w by omega, h2⟩, ⟨show (0 : Int) ≤ (w - z.length) - (w - z.length) / 2 by omega, show (w - z.length) - (w - z.length) / 2 ≤ 40 by omega⟩, ⟨show (0 : Int) ≤ (w - z.length) / 2 by omega, show (w - z.length) / 2 ≤ 40 by omega⟩, hz⟩
theorem str_eqL {y z : Str} (h : y.cps.toList = z.cps.toList) : y = z := by
  cases y with
  | mk a =>
    cases z with
    | mk b =>
      congr 1
      exact Array.toList_inj.mp h
/-- what is shown, as a text -/
def shown (rs : List Rec) (z : Str) : Str := ⟨(cuts rs z.cps.toList).toArray⟩
theorem shown_cps (rs : List Rec) (z : Str) : (shown rs z).cps.toList = cuts rs z.cps.toList := rfl
theorem shown_of {rs : List Rec} {y z : Str} (h : y.cps.toList = cuts rs z.cps.toList) : y = shown rs z := str_eqL h
theorem dds_map {α β : Type} [DecidableEq α] [DecidableEq β] {f : α → β} (inj : ∀ a b, f a = f b → a = b) (xs : List α) : dds (xs.map f) = (dds xs).map f := by
  have main : ∀ (xs acc : List α), (xs.map f).foldl (fun acc k => if k ∈ acc then acc else acc ++ [k]) (acc.map f) = (xs.foldl (fun acc k => if k ∈ acc then acc else acc ++ [k]) acc).map f := by
    intro xs
    induction xs with
    | nil => exact fun _ => rfl
    | cons x xs ih =>
      intro acc
      show (xs.map f).foldl _ (if f x ∈ acc.map f then acc.map f else acc.map f ++ [f x]) = (xs.foldl _ (if x ∈ acc then acc else acc ++ [x])).map f
      by_cases e : x ∈ acc
      · rw [if_pos e, if_pos (List.mem_map.mpr ⟨x, e, rfl⟩)]
        exact ih acc
      · rw [if_neg e, if_neg (fun h => by
          obtain ⟨y, h1, h2⟩ := List.mem_map.mp h
          exact e (inj _ _ h2 ▸ h1))]
        have := ih (acc ++ [x])
        rw [List.map_append] at this
        exact this
  exact main xs []
theorem keyS_len (zs : List Str) : (dds (zs.map (Sum.inr : Str → Key))).length = (dds zs).length := by
  rw [dds_map (fun a b h => Sum.inr.inj h), List.length_map]
/-- different texts are shown in different ways -/
def sepB (rs : List Rec) (zs : List Str) : Bool := decide ((dds (zs.map (shown rs))).length = (dds zs).length)
theorem atP_strs' {ts : List Str} {i : Nat} {x : V} (h : (ts.map V.str)[i]? = some x) : ∃ t, ts[i]? = some t ∧ x = .str t := by
  rw [List.getElem?_map] at h
  cases e : ts[i]? with
  | none =>
    rw [e] at h
    cases h
  | some t =>
    rw [e] at h
    cases h
    exact ⟨t, rfl, rfl⟩
theorem sameT {K : PySem.W.Frag} {H G : Hp} {l : Addr} {xs : List V} (a : Same H G) (h : SqT K H l xs) : SqT K G l xs := by
  rcases h with (h | ⟨o, h⟩) | h
  · exact .inl (.inl (a _ _ h))
  · exact .inl (.inr ⟨o, a _ _ h⟩)
  · exact .inr h
theorem offH {H J : Hp} {M : Addr} {o : HO} (s : Same H J) (n : H M = none) : Same H (upd J M o) := fun b x e => by
  rw [upd_ne (ne_of_none e n)]
  exact s b x e
theorem takeN {α : Type} {qs : List α} {i : Nat} {q : α} (h : qs[i]? = some q) : qs.take (i + 1) = qs.take i ++ [q] := by
  rw [List.take_add_one, h]
  rfl
section
variable {P : Program} {w : World} {K : PySem.W.Frag} {mg : Str → Option Value} {base : Heap} {C : Addr}
def spWidthsOf : Sp := fun vs H Q _ => ∃ (z : Str), vs = [.str z] ∧ isTxt z 3 = true ∧ ∀ (T : Addr), H T = none → Q (.ref T) (upd H T (.lst (rgV (z.length : Int) 41)))
def spMemberOf (C : Addr) : Sp := fun vs H Q _ => ∃ (k : Kd) (z : Str) (w : Int), vs = [.str k.word, .str z, .int w] ∧ isTxt z 3 = true ∧ (z.length : Int) ≤ w ∧ w ≤ 40 ∧ ∀ (x : Addr) (G : Hp), H x = none → ShAt C G x (fam k z w) → Same H G → Q (.ref x) G
theorem made_sh {H G : Hp} {x dx : Addr} {o1 o2 : HO} (nx : H x = none) (ndx : H dx = none) (keep : ∀ c o, upd (upd H dx o1) x o2 c = some o → c ≠ x → G c = some o) : Same H G := fun c o e => keep c o (by rw [upd_ne (ne_of_none e nx), upd_ne (ne_of_none e ndx)]; exact e) (ne_of_none e nx)
theorem cal_memberOf (B : Bi mg) (D : At K mg "member_of" s_member_of ps_member_of) (M_sh : Mak P w K mg base 3 "Shortener" C (spInit C)) : Cal P w K mg base 5 "member_of" ps_member_of (spMemberOf C) := by
  refine D.cal sc_member_of (fun vs H Q E h => ?_) (fun f cdv A outer s H vs Q E hr h => ?_)
  · obtain ⟨k, z, w, rfl, _⟩ := h
    rfl
  · obtain ⟨kd, z, w, rfl, hz, w1, w2, k⟩ := h
    have zl := isTxt_len hz
    have fit := fam_fit kd hz w1 w2
    have e1 : V.str "end" ≠ V.str "start" := by decide +kernel
    have e2 : V.str "end" ≠ V.str "middle" := by decide +kernel
    have e3 : V.str "start" ≠ V.str "middle" := by decide +kernel
    refine ⟨_, (pss_cons (ps_set (i := 3) sc_member_of.nd rfl (.inl rfl) (pe_op op_sub (pv 2) (pe_callB call_len (by rfl) B.len (by decide +kernel) (pa_cons (pv 1) pa_nil))))
      (pss_cons (ps_if (pt_cmpR op_eq (pv 0) pe_str (nomark _)) (pss_one (ps_ret (pe_new M_sh hr (by decide) (by rfl) (pa_cons (pv 2) (pa_cons (pv 3) (pa_cons pe_int (pa_cons (pv 1) pa_nil))))))) pss_nil)
      (pss_cons (ps_if (pt_cmpR op_eq (pv 0) pe_str (nomark _)) (pss_one (ps_ret (pe_new M_sh hr (by decide) (by rfl) (pa_cons (pv 2) (pa_cons pe_int (pa_cons (pv 3) (pa_cons (pv 1) pa_nil))))))) pss_nil)
      (pss_one (ps_ret (pe_new M_sh hr (by decide) (by rfl) (pa_cons (pv 2) (pa_cons (pe_op op_sub (pv 3) (pe_op op_fdiv (pv 3) pe_int)) (pa_cons (pe_op op_fdiv (pv 3) pe_int) (pa_cons (pv 1) pa_nil)))))))))), ?_⟩
    refine ⟨_, rfl, _, rfl, _, _, rfl, ⟨Nat.le_of_lt (small1000 (by omega)), rfl⟩, _, _, rfl, rfl, ?_⟩
    cases kd with
    | e =>
      refine ⟨_, rfl, rfl, _, rfl, ?_⟩
      rw [decide_eq_true (show V.str Kd.e.word = V.str "end" from rfl)]
      refine iteT ⟨_, rfl, _, rfl, _, rfl, fun x dx nx ndx nex => ⟨x, dx, fam .e z w, rfl, upd_same, fit, fun b G nb gx gb keep => ?_⟩⟩
      exact ⟨rfl, k x G nx ⟨dx, b, gx, gb⟩ (made_sh nx ndx keep)⟩
    | s =>
      refine ⟨_, rfl, rfl, _, rfl, ?_⟩
      rw [decide_eq_false (show V.str Kd.s.word ≠ V.str "end" from Ne.symm e1)]
      refine iteF ⟨_, rfl, rfl, _, rfl, ?_⟩
      rw [decide_eq_true (show V.str Kd.s.word = V.str "start" from rfl)]
      refine iteT ⟨_, rfl, _, rfl, _, rfl, fun x dx nx ndx nex => ⟨x, dx, fam .s z w, rfl, upd_same, fit, fun b G nb gx gb keep => ?_⟩⟩
      exact ⟨rfl, k x G nx ⟨dx, b, gx, gb⟩ (made_sh nx ndx keep)⟩
    | m =>
      refine ⟨_, rfl, rfl, _, rfl, ?_⟩
      rw [decide_eq_false (show V.str Kd.m.word ≠ V.str "end" from Ne.symm e2)]
      refine iteF ⟨_, rfl, rfl, _, rfl, ?_⟩
      rw [decide_eq_false (show V.str Kd.m.word ≠ V.str "start" from Ne.symm e3)]
      refine iteF ⟨_, rfl, _, rfl, _, rfl, _, _, rfl, rfl, ⟨by decide, by decide⟩, _, _, rfl, rfl, _, rfl, _, _, rfl, rfl, ⟨by decide, by decide⟩, _, rfl, fun x dx nx ndx nex => ⟨x, dx, fam .m z w, rfl, upd_same, fit, fun b G nb gx gb keep => ?_⟩⟩
      exact ⟨rfl, k x G nx ⟨dx, b, gx, gb⟩ (made_sh nx ndx keep)⟩
/-! ### separates -/
def spSep (K : PySem.W.Frag) (C : Addr) : Sp := fun vs H Q _ => ∃ (a T : Addr) (rs : List (Addr × Rec)) (zs : List Str), vs = [.ref a, .ref T] ∧ RowAt C H a rs ∧ SqT K H T (zs.map V.str) ∧ (∀ z ∈ zs, z.cps.toList.length ≤ 600) ∧ zs.length ≤ 100 ∧ ∀ G, Same H G → Q (.bl (sepB (rs.map (·.2)) zs)) G
end
end Gu
namespace Gu
open PySem PySem.Spec PyProof.Rows L2
/-! ### checks of kinds and texts -/
/-- a module's tuple of texts -/
structure TupC (K : PySem.W.Frag) (mg : Str → Option Value) (x : Str) (ys : List Str) : Prop where
  ex : ∃ T, mg x = some (.ref T) ∧ ∀ H : Hp, SqT K H T (ys.map V.str)
def kinds : List Str := ["end", "start", "middle"]
theorem Kd.mem (k : Kd) : k.word ∈ kinds := by
  cases k
  · exact List.mem_cons_self ..
  · exact List.mem_cons_of_mem _ (List.mem_cons_self ..)
  · exact List.mem_cons_of_mem _ (List.mem_cons_of_mem _ (List.mem_cons_self ..))
theorem kind_of {y : Str} (h : y ∈ kinds) : ∃ k : Kd, y = k.word := by
  unfold kinds at h
  simp only [List.mem_cons, List.not_mem_nil, or_false] at h
  rcases h with rfl | rfl | rfl
  · exact ⟨.e, rfl⟩
  · exact ⟨.s, rfl⟩
  · exact ⟨.m, rfl⟩
theorem inV_strs (y : Str) (ys : List Str) : inV (.str y) (ys.map V.str) = decide (y ∈ ys) := by
  induction ys with
  | nil => rfl
  | cons x xs ih =>
    show (eqV (.str x) (.str y) || inV (.str y) (xs.map V.str)) = _
    rw [ih]
    by_cases h : x = y
    · subst h
      have e : eqV (.str x) (.str x) = true := decide_eq_true rfl
      rw [e, Bool.true_or, decide_eq_true (List.mem_cons_self ..)]
    · have e : eqV (.str x) (.str y) = false := decide_eq_false fun q => h q
      rw [e, Bool.false_or]
      refine decide_eq_decide.mpr ⟨fun q => List.mem_cons_of_mem _ q, fun q => ?_⟩
      rcases List.mem_cons.mp q with q | q
      · exact absurd q.symm h
      · exact q
theorem flatS (ys : List Str) : (ys.map V.str).all flatV = true := by
  rw [List.all_map, List.all_eq_true]
  exact fun _ _ => rfl
section
variable {P : Program} {w : World} {K : PySem.W.Frag} {mg : Str → Option Value} {base : Heap} {C : Addr}
def spCheckKind : Sp := fun vs H Q _ => ∃ (k : Kd), vs = [.str k.word] ∧ Q .non H
theorem cal_checkKind (B : Bi mg) (Z : TupC K mg "KINDS" kinds) (D : At K mg "check_kind" s_check_kind ps_check_kind) : Cal P w K mg base 1 "check_kind" ps_check_kind spCheckKind := by
  refine D.cal sc_check_kind (fun vs H Q E h => ?_) (fun f cdv A outer s H vs Q E hr h => ?_)
  · obtain ⟨k, rfl, _⟩ := h
    rfl
  · obtain ⟨kd, rfl, k⟩ := h
    obtain ⟨T, gT, hT⟩ := Z.ex
    refine ⟨_, (pss_one (ps_if (PW.pt (pw_or (pt_not (pt_val (pe_callB call_isi (by rfl) B.isinstance (by decide +kernel) (pa_cons (pv 0) (pa_cons (pe_bltn (v := .ty "str") (by rfl) B.str (by decide +kernel) rfl) pa_nil))))) (pw_or1 (pt_cmpR op_notIn_seq (pv 0) (pe_glob (v := .ref T) (by rfl) gT rfl) (by rfl))))) pss_never pss_nil)), ?_⟩
    obtain ⟨t, i1, i2⟩ := Isa.str_str (K := K) (H := H) (z := kd.word)
    refine ⟨_, rfl, _, _, t, _, true, rfl, .ty _, i1, i2, _, rfl, iteF ?_⟩
    refine ⟨_, rfl, T, _, rfl, .inr (hT H), rfl, flatS kinds, _, rfl, ?_⟩
    rw [inV_strs, decide_eq_true kd.mem]
    exact iteF k
def spTexts (K : PySem.W.Frag) : Sp := fun vs H Q _ => ∃ (l : Addr) (ts : List Str) (m : Int), vs = [.ref l, .int m] ∧ SqT K H l (ts.map V.str) ∧ (ts.length : Int) ≤ m ∧ (∀ t ∈ ts, isTxt t 200 = true) ∧ ∀ G, Same H G → Q .non G
/-! ### tells_apart, widths, narrowest -/
def spTells (K : PySem.W.Frag) (C : Addr) : Sp := fun vs H Q _ => ∃ (a T : Addr) (rs : List (Addr × Rec)) (zs : List Str), vs = [.ref a, .ref T] ∧ RowAt C H a rs ∧ 1 ≤ rs.length ∧ rs.length ≤ 4 ∧ SqT K H T (zs.map V.str) ∧ (∀ z ∈ zs, isTxt z 200 = true) ∧ zs.length ≤ 20 ∧ ∀ G, Same H G → Q (.bl (sepB (rs.map (·.2)) zs)) G
theorem txt_len {z : Str} (h : isTxt z 200 = true) : z.cps.toList.length ≤ 200 := by
  have a := isTxt_len h
  have e : z.length = z.cps.toList.length := rfl
  omega
/-- the widths from m on, n of them, that tell apart -/
def widL (k : Kd) (z : Str) (zs : List Str) (n : Nat) : List Int := ((List.range n).map fun i => (z.length : Int) + (i : Nat)).filter fun w => sepB [fam k z w] zs
theorem widL_succ (k : Kd) (z : Str) (zs : List Str) (n : Nat) : widL k z zs (n + 1) = widL k z zs n ++ if sepB [fam k z ((z.length : Int) + (n : Nat))] zs = true then [(z.length : Int) + (n : Nat)] else [] := by
  unfold widL
  rw [List.range_succ, List.map_append, List.filter_append]
  congr 1
  show List.filter _ [_] = _
  rw [List.filter_cons, List.filter_nil]
theorem widL_len (k : Kd) (z : Str) (zs : List Str) (n : Nat) : (widL k z zs n).length ≤ n := by
  unfold widL
  refine Nat.le_trans (List.length_filter_le _ _) ?_
  rw [List.length_map, List.length_range]
  exact Nat.le_refl n
theorem rgV_at {a b : Int} {i : Nat} {x : V} (h : (rgV a b)[i]? = some x) : x = .int (a + (i : Nat)) ∧ (i : Int) < b - a := by
  unfold rgV at h
  rw [List.getElem?_map] at h
  cases e : (List.range (b - a).toNat)[i]? with
  | none =>
    rw [e] at h
    cases h
  | some j =>
    rw [e] at h
    cases h
    obtain ⟨h1, h2⟩ := List.getElem?_eq_some_iff.mp e
    rw [List.getElem_range] at h2
    subst h2
    rw [List.length_range] at h1
    exact ⟨rfl, by omega⟩
def widAll (k : Kd) (z : Str) (zs : List Str) : List Int := widL k z zs ((41 : Int) - z.length).toNat
def spWidths (K : PySem.W.Frag) : Sp := fun vs H Q _ => ∃ (kd : Kd) (z : Str) (T : Addr) (zs : List Str), vs = [.str kd.word, .str z, .ref T] ∧ isTxt z 3 = true ∧ SqT K H T (zs.map V.str) ∧ (∀ z ∈ zs, isTxt z 200 = true) ∧ zs.length ≤ 20 ∧ ∀ (U : Addr) (G : Hp), Same H G → G U = some (.tup ((widAll kd z zs).map V.int)) → Q (.ref U) G
def firstW : List Int → V
  | [] => .non
  | i :: _ => .int i
def spNarrow (K : PySem.W.Frag) : Sp := fun vs H Q _ => ∃ (kd : Kd) (z : Str) (T : Addr) (zs : List Str), vs = [.str kd.word, .str z, .ref T] ∧ isTxt z 3 = true ∧ SqT K H T (zs.map V.str) ∧ (∀ z ∈ zs, isTxt z 200 = true) ∧ zs.length ≤ 20 ∧ ∀ (G : Hp), Same H G → Q (firstW (widAll kd z zs)) G
end
end Gu
namespace Gu
open PySem PySem.Spec PyProof.Rows L2
/-! ### member; what members of families are like -/
theorem fam_z (k : Kd) (z : Str) (w : Int) : (fam k z w).z = z := by cases k <;> rfl
theorem fam_l (k : Kd) (z : Str) (w : Int) : (fam k z w).l = w := by cases k <;> rfl
theorem fam_sum (k : Kd) (z : Str) (w : Int) : (fam k z w).h + (fam k z w).t = w - z.length := by
  cases k
  · show w - (z.length : Int) + 0 = _
    omega
  · show (0 : Int) + (w - (z.length : Int)) = _
    omega
  · show (w - (z.length : Int)) - (w - (z.length : Int)) / 2 + (w - (z.length : Int)) / 2 = _
    omega
theorem fam_len (k : Kd) {z : Str} {w : Int} (hz : isTxt z 3 = true) (h1 : (z.length : Int) ≤ w) (h2 : w ≤ 40) {n : Nat} (hn : ¬ (n : Int) ≤ w) : ((fam k z w).len n : Int) = w := by
  have f := fam_fit k hz h1 h2
  have s := fam_sum k z w
  have a := f.h.1
  have b := f.t.1
  have e : z.length = z.cps.toList.length := rfl
  unfold Rec.len
  rw [fam_l, fam_z, if_neg (by omega)]
  omega
theorem fam_lenW (k : Kd) {z : Str} {w : Int} {n : Nat} (hn : (n : Int) ≤ w) : (fam k z w).len n = n := by
  unfold Rec.len
  rw [fam_l, if_pos (by omega)]
theorem fam_wide (k : Kd) {z : Str} {w m : Int} (hz : isTxt z 3 = true) (h1 : (z.length : Int) ≤ w) (h2 : w ≤ 40) (h : Top m (wides [fam k z w] 42)) : m = w := by
  obtain ⟨h3, h4⟩ := h
  unfold wides at h3 h4
  obtain ⟨i, hi, rfl⟩ := List.mem_map.mp h3
  have q := h4 _ (List.mem_map.mpr ⟨w.toNat, List.mem_range.mpr (by omega), rfl⟩)
  have e : ∀ n, lens [fam k z w] n = (fam k z w).len n := fun _ => rfl
  rw [e] at q
  rw [e, fam_lenW k (n := w.toNat) (by omega)] at q
  rw [e]
  by_cases c : (i : Int) ≤ w
  · rw [fam_lenW k c] at q ⊢
    omega
  · exact fam_len k hz h1 h2 c
theorem fam_again (k : Kd) {z : Str} {w : Int} (hz : isTxt z 3 = true) (h1 : (z.length : Int) ≤ w) (h2 : w ≤ 40) (n : Nat) : planV [fam k z w] n = planV ([fam k z w] ++ [fam k z w]) n := by
  unfold planV cutsV
  show cut _ _ _ _ _ = cut _ _ _ _ (cut _ _ _ _ _)
  have l : (cut (fam k z w).l.toNat (fam k z w).h.toNat (fam k z w).t.toNat (ones (fam k z w).z.cps.toList) (rgV 0 (n : Int))).length ≤ (fam k z w).l.toNat := by
    rw [cut_len, rg_len, fam_l]
    by_cases c : (n : Int) ≤ w
    · rw [fam_lenW k c]
      omega
    · have := fam_len k hz h1 h2 c
      omega
  generalize cut (fam k z w).l.toNat (fam k z w).h.toNat (fam k z w).t.toNat (ones (fam k z w).z.cps.toList) (rgV 0 (n : Int)) = ys at l ⊢
  unfold cut
  rw [if_pos l]
theorem fam_stable (k : Kd) {z : Str} {w : Int} (hz : isTxt z 3 = true) (h1 : (z.length : Int) ≤ w) (h2 : w ≤ 40) {v : V} (h : Told [fam k z w] ([fam k z w] ++ [fam k z w]) v) : v = .non := by
  rcases h with ⟨rfl, _⟩ | ⟨n, y, rfl, _, f, _⟩
  · rfl
  · exact absurd (fam_again k hz h1 h2 n) f.ne
section
variable {P : Program} {w : World} {K : PySem.W.Frag} {mg : Str → Option Value} {base : Heap} {C : Addr}
def spMember (C : Addr) : Sp := fun vs H Q _ => ∃ (k : Kd) (z : Str) (w : Int), vs = [.str k.word, .str z, .int w] ∧ isTxt z 3 = true ∧ (z.length : Int) ≤ w ∧ w ≤ 40 ∧ ∀ (x : Addr) (G : Hp), H x = none → ShAt C G x (fam k z w) → Same H G → Q (.ref x) G
theorem cal_member (B : Bi mg) (D : At K mg "member" s_member ps_member) (C_check_kind : Cal P w K mg base 1 "check_kind" ps_check_kind spCheckKind) (C_check_mark : Cal P w K mg base 2 "check_mark" ps_check_mark spCheckMark) (C_is_integer : Cal P w K mg base 1 "is_integer" ps_is_integer (spIsInteger K)) (C_member_of : Cal P w K mg base 5 "member_of" ps_member_of (spMemberOf C)) : Cal P w K mg base 6 "member" ps_member (spMember C) := by
  refine D.cal sc_member (fun vs H Q E h => ?_) (fun f cdv A outer s H vs Q E hr h => ?_)
  · obtain ⟨kd, z, w, rfl, _⟩ := h
    rfl
  · obtain ⟨kd, z, w, rfl, hz, w1, w2, k⟩ := h
    have ml := isTxt_len hz
    refine ⟨_, (pss_cons (ps_expr (pe_own C_check_kind hr (by decide) (by rfl) (pa_cons (pv 0) pa_nil)))
      (pss_cons (ps_expr (pe_own C_check_mark hr (by decide) (by rfl) (pa_cons (pv 1) pa_nil)))
      (pss_cons (ps_if (pt_not (pt_val (pe_own C_is_integer hr (by decide) (by rfl) (pa_cons (pv 2) (pa_cons (pe_callB call_len (by rfl) B.len (by decide +kernel) (pa_cons (pv 1) pa_nil)) (pa_cons (pe_cst B.MOST_SIGNS (by rfl)) pa_nil)))))) pss_never pss_nil)
      (pss_one (ps_ret (pe_own C_member_of hr (by decide) (by rfl) (pa_cons (pv 0) (pa_cons (pv 1) (pa_cons (pv 2) pa_nil))))))))), ?_⟩
    refine ⟨_, rfl, kd, rfl, _, rfl, z, rfl, hz, fun G1 s1 => ?_⟩
    refine ⟨_, rfl, _, rfl, _, _, rfl, ⟨Nat.le_of_lt (small1000 (by omega)), rfl⟩, _, _, _, rfl, .inl ⟨_, rfl, _, rfl, ?_⟩⟩
    rw [decide_eq_true ⟨w1, w2⟩]
    exact iteF ⟨_, rfl, _, rfl, _, rfl, kd, z, w, rfl, hz, w1, w2, fun x G nx gx sG => k x G (s1.free nx) gx (s1.trans sG)⟩
end
end Gu
namespace Gu
open PySem PySem.Spec PyProof.Rows L2
def spRight : Sp := fun vs H Q _ => ∃ (p : Addr), vs = [.ref p] ∧ Pot H p ∧ ∀ G, Ladled p H G → Q (.bl true) G
end Gu
namespace Gu
open PySem PySem.Spec PyProof.Rows L2
def rev3 {α : Type} : List α → List α
  | [a, b, c] => [c, b, a]
  | l => l
theorem rev3_vals {zs : List V} {ws : List Value} (r : Vals zs ws) : Vals (rev3 zs) (rev3 ws) := by
  cases r with
  | nil => exact .nil
  | cons a r =>
    cases r with
    | nil => exact .cons a .nil
    | cons b r =>
      cases r with
      | nil => exact .cons a (.cons b .nil)
      | cons c r =>
        cases r with
        | nil => exact .cons c (.cons b (.cons a .nil))
        | cons d r => exact .cons a (.cons b (.cons c (.cons d r)))
/-- what == looks into -/
theorem shapedL {ds : List PyData} (h : ∀ d ∈ ds, d.canLay0 = true ∧ d.depth ≤ 10) : SeqAt.shaped (.list ds) = true := by
  have a : ∀ ds : List PyData, (∀ d ∈ ds, d.canLay0 = true ∧ d.depth ≤ 10) → PyData.canLayAll0 ds = true ∧ PyData.depthAll ds ≤ 10 := by
    intro ds
    induction ds with
    | nil => exact fun _ => ⟨rfl, Nat.zero_le _⟩
    | cons d ds ih =>
      intro h
      have b := ih fun e he => h e (List.mem_cons_of_mem _ he)
      have c := h d (List.mem_cons_self ..)
      refine ⟨?_, Nat.max_le.mpr ⟨c.2, b.2⟩⟩
      show (d.canLay0 && PyData.canLayAll0 ds) = true
      rw [c.1, b.1]
      rfl
  have b := a ds h
  unfold SeqAt.shaped
  rw [Bool.and_eq_true]
  refine ⟨b.1, decide_eq_true ?_⟩
  show PyData.depthAll ds + 1 ≤ 64
  omega
theorem dp_ints {K : PySem.W.Frag} {H : Hp} : ∀ is : List Int, DpAll K H (is.map V.int) (is.map PyData.int)
  | [] => .nil
  | _ :: r => .cons (.int _) (dp_ints r)
theorem fine_ints {is : List Int} (l : is.length ≤ 100) (h : ∀ i ∈ is, i.natAbs < 2 ^ 70) : Fine 1 (100 * 71) (.tuple (is.map PyData.int)) := by
  have a : FineAll 0 70 (is.map PyData.int) := .of fun d hd => by
    obtain ⟨i, hi, rfl⟩ := List.mem_map.mp hd
    exact .int (h i hi)
  refine a.tup.mono (Nat.le_refl _) ?_
  rw [List.length_map]
  exact Nat.mul_le_mul_right _ l
theorem fine_two {n W : Nat} {d e : PyData} (a : Fine n W d) (b : Fine n W e) (hn : n + 1 ≤ 60) (hW : 2 * (W + 1) ≤ 100000) : Fine 60 100000 (.list [d, e]) := by
  have c : FineAll n W [d, e] := .of fun x hx => by
    simp only [List.mem_cons, List.not_mem_nil, or_false] at hx
    rcases hx with rfl | rfl
    · exact a
    · exact b
  exact c.list.mono hn hW
theorem marks_txt {z : Str} (h : z ∈ marks) : isTxt z 3 = true := by
  have a : ∀ y ∈ marks, isTxt y 3 = true := by decide +kernel
  exact a z h
theorem fam_ok {kd : Kd} {z : Str} {w : Int} (hz : z ∈ marks) (h1 : (z.length : Int) ≤ w) (h2 : w ≤ 40) : (fam kd z w).ok := by
  have f := fam_fit kd (marks_txt hz) h1 h2
  have e : (fam kd z w).z = z := by cases kd <;> rfl
  exact ⟨f.l.1, f.l.2, f.h.1, f.h.2, f.t.1, f.t.2, by rw [e]; exact hz⟩
end Gu
namespace Gu
open PySem PySem.Spec PyProof.Rows L2
def of3 (k : Kd) (a b c : V) : V := match k with
  | .e => a
  | .s => b
  | .m => c
theorem pick3 (k : Kd) (a b c : V) : valV (mergeK [] [(Sum.inr ("end" : Str), a), (Sum.inr ("start" : Str), b), (Sum.inr ("middle" : Str), c)]) (Sum.inr k.word) = some (of3 k a b c) := by
  have x1 : (Sum.inr ("end" : Str) : Key) ≠ Sum.inr ("start" : Str) := by decide +kernel
  have x2 : (Sum.inr ("end" : Str) : Key) ≠ Sum.inr ("middle" : Str) := by decide +kernel
  have x3 : (Sum.inr ("start" : Str) : Key) ≠ Sum.inr ("middle" : Str) := by decide +kernel
  have e : mergeK [] [(Sum.inr ("end" : Str), a), (Sum.inr ("start" : Str), b), (Sum.inr ("middle" : Str), c)] = putK (putK (putK ([] : List (Key × V)) (Sum.inr ("end" : Str)) a) (Sum.inr ("start" : Str)) b) (Sum.inr ("middle" : Str)) c := rfl
  rw [e]
  cases k
  · rw [valV_put, if_neg (show (Sum.inr Kd.e.word : Key) ≠ Sum.inr ("middle" : Str) from x2), valV_put, if_neg (show (Sum.inr Kd.e.word : Key) ≠ Sum.inr ("start" : Str) from x1), valV_put, if_pos (show (Sum.inr Kd.e.word : Key) = Sum.inr ("end" : Str) from rfl)]
    rfl
  · rw [valV_put, if_neg (show (Sum.inr Kd.s.word : Key) ≠ Sum.inr ("middle" : Str) from x3), valV_put, if_pos (show (Sum.inr Kd.s.word : Key) = Sum.inr ("start" : Str) from rfl)]
    rfl
  · rw [valV_put, if_pos (show (Sum.inr Kd.m.word : Key) = Sum.inr ("middle" : Str) from rfl)]
    rfl
theorem ShAt.lad {C : Addr} {H G : Hp} {p x : Addr} {r : Rec} (h : ShAt C H x r) (L : Ladled p H G) (hp : Pot H p) : ShAt C G x r := by
  obtain ⟨dx, b, h1, h2⟩ := h
  obtain ⟨u, v, w, e⟩ := hp
  exact ⟨dx, b, L.keep _ _ h1 (ne_of h1 e (by intro z; cases z)), L.keep _ _ h2 (ne_of h2 e (by intro z; cases z))⟩
theorem seen_whole {k : Kd} {z y l : Str} {w : Int} (h : (l.length : Int) ≤ w) (e : y.cps.toList = cuts [fam k z w] l.cps.toList) : y = l := by
  refine str_eqL ?_
  rw [e]
  show (fam k z w).cut l.cps.toList = _
  unfold Rec.cut cut
  rw [fam_l, if_pos (show l.cps.toList.length ≤ w.toNat from by
    have : l.length = l.cps.toList.length := rfl
    omega)]
theorem seen_cut {k : Kd} {z y l : Str} {w : Int} (hz : isTxt z 3 = true) (h1 : (z.length : Int) ≤ w) (h2 : w ≤ 40) (h : ¬ (l.length : Int) ≤ w) (e : y.cps.toList = cuts [fam k z w] l.cps.toList) :
    (y.length : Int) = w ∧ y = cutS l none (some (fam k z w).h) ++ z ++ cutS l (some ((l.length : Int) - (fam k z w).t)) none := by
  have f := fam_fit k hz h1 h2
  have s := fam_sum k z w
  have el : l.length = l.cps.toList.length := rfl
  have ez : z.length = z.cps.toList.length := rfl
  have e2 : y.cps.toList = l.cps.toList.take (fam k z w).h.toNat ++ z.cps.toList ++ l.cps.toList.drop (l.cps.toList.length - (fam k z w).t.toNat) := by
    rw [e]
    show (fam k z w).cut l.cps.toList = _
    unfold Rec.cut cut
    rw [fam_l, fam_z, if_neg (show ¬ l.cps.toList.length ≤ w.toNat by omega)]
  refine ⟨?_, str_eqL ?_⟩
  · show (y.cps.toList.length : Int) = w
    rw [e2, List.length_append, List.length_append, List.length_take, List.length_drop]
    have a := f.h.1
    have b := f.t.1
    omega
  · rw [e2, app_cps, app_cps]
    have a : (cutS l none (some (fam k z w).h)).cps.toList = l.cps.toList.take (fam k z w).h.toNat := by
      show ((l.cps.toList.drop _).take _).toArray.toList = _
      rw [List.toList_toArray]
      exact cut_front l.cps.toList f.h.1
    have c : (cutS l (some ((l.length : Int) - (fam k z w).t)) none).cps.toList = l.cps.toList.drop (l.cps.toList.length - (fam k z w).t.toNat) := by
      show ((l.cps.toList.drop _).take _).toArray.toList = _
      rw [List.toList_toArray]
      have q := cut_back l.cps.toList (h := (l.length : Int) - (fam k z w).t) (by have := f.t.1; have := f.h.1; omega)
      have n : ((l.length : Int) - (fam k z w).t).toNat = l.cps.toList.length - (fam k z w).t.toNat := by have := f.t.1; have := f.h.1; omega
      rw [n] at q
      exact q
    rw [a, c]
section
variable {P : Program} {w : World} {K : PySem.W.Frag} {mg : Str → Option Value} {base : Heap} {C fE : Addr} {fdE : FuncData}
theorem cal_right (B : Bi mg) (S : ShC K mg C) (Z : ShE K C) (D : At K mg "_law_right" s_law_right ps_law_right) (C_law_ladle : Cal P w K mg base 1 "_law_ladle" ps_law_ladle spLadle) (C_law_one_of : Cal P w K mg base 2 "_law_one_of" ps_law_one_of (spOneOf K)) (C_law_line : Cal P w K mg base 3 "_law_line" ps_law_line spLine)
    (FE : FnOk P w K mg base CX0 1 fE fdE ps_Shortener_eq (spEqS K C)) (bE : Binds K fdE ps_Shortener_eq []) (sE : PySem.W.findIn K (.ref C) "__eq__" = some (some (.ref fE))) (iE : PySem.W.isFn K (.ref fE) = true)
    (C_member : Cal P w K mg base 6 "member" ps_member (spMember C)) (CK_member : CalK P w K mg base 6 "member" ["width", "mark", "kind"] rev3 (spMember C)) (C_widest : Cal P w K mg base 3 "widest" ps_widest (spWidest C)) (C_is_stable : Cal P w K mg base 5 "is_stable" ps_is_stable (spStable C)) (C_show : Cal P w K mg base 3 "show" ps_show (spShow C)) : CalG P w K mg base 7 "_law_right" ps_law_right spRight := by
  refine D.calG sc_law_right (fun vs H Q E h => ?_) (fun f cdv A outer s H vs Q E hr quiet h => ?_)
  · obtain ⟨p, rfl, _⟩ := h
    rfl
  · obtain ⟨p, rfl, hp, k⟩ := h
    have hr2 := hr.mono (show 2 ≤ 6 by decide)
    have hu := hu_of hr
    refine ⟨_, (pss_cons (ps_for PassesOwn.never rfl (pi_range1 (by rfl) B.range (pa_cons pe_int pa_nil)) (pg_name (i := 1) sc_law_right.nd rfl (.inl rfl))
      (pss_cons (ps_par (i := 2) (j := 3) (by rfl) sc_law_right.nd rfl rfl (by decide) rfl rfl (pa_cons (pe_own C_law_one_of hr (by decide) (by rfl) (pa_cons (pv 0) (pa_cons (pe_lst (pa_cons pe_str (pa_cons pe_str (pa_cons pe_str pa_nil)))) pa_nil))) (pa_cons (pe_own C_law_one_of hr (by decide) (by rfl) (pa_cons (pv 0) (pa_cons (pe_lst (pa_cons pe_str (pa_cons pe_str (pa_cons pe_str (pa_cons pe_str (pa_cons pe_str pa_nil)))))) pa_nil))) pa_nil)) (by rfl))
      (pss_cons (ps_set (i := 4) sc_law_right.nd rfl (.inl rfl) (pe_op op_add (pe_callB call_len (by rfl) B.len (by decide +kernel) (pa_cons (pv 3) pa_nil)) (pe_own C_law_ladle hr (by decide) (by rfl) (pa_cons (pv 0) (pa_cons (pe_op op_sub pe_int (pe_callB call_len (by rfl) B.len (by decide +kernel) (pa_cons (pv 3) pa_nil))) pa_nil)))))
      (pss_cons (ps_par (i := 5) (j := 6) (by rfl) sc_law_right.nd rfl rfl (by decide) rfl rfl (pa_cons (pe_own C_member hr (by decide) (by rfl) (pa_cons (pv 2) (pa_cons (pv 3) (pa_cons (pv 4) pa_nil)))) (pa_cons (pe_op op_sub (pv 4) (pe_callB call_len (by rfl) B.len (by decide +kernel) (pa_cons (pv 3) pa_nil))) pa_nil)) (by rfl))
      (pss_cons (ps_set (i := 7) sc_law_right.nd rfl (.inl rfl) (pe_op op_fdiv (pv 6) pe_int))
      (pss_cons (ps_set (i := 8) sc_law_right.nd rfl (.inl rfl) (pe_dget hu (pe_disp (pps_cons pe_str (pe_tup (pa_cons (pv 6) (pa_cons pe_int pa_nil))) (pps_cons pe_str (pe_tup (pa_cons pe_int (pa_cons (pv 6) pa_nil))) (pps_cons pe_str (pe_tup (pa_cons (pe_op op_sub (pv 6) (pv 7)) (pa_cons (pv 7) pa_nil))) pps_nil))) (by rfl) (by rfl) (fun z => by cases z) (by decide)) (pv 2) (fun _ _ => rfl)))
      (pss_cons (ps_if (PW.pt (pw_or (pt_cmpR (op_neD hr.units) (pe_fld (pv 5) rfl) (pe_tup (pa_cons (pv 4) (pa_cons (pe_ix ix_tup (pv 8) pe_int (fun _ _ => rfl)) (pa_cons (pe_ix ix_tup (pv 8) pe_int (fun _ _ => rfl)) (pa_cons (pv 3) pa_nil))))) (nomark _)) (pw_or1 (pt_cmpR (op_neOwn (C := C) FE bE hr2 Z.ne Z.ob sE iE) (pe_kw CK_member hr (by decide) (by rfl) (pk_cons (pv 4) (pk_cons (pv 3) (pk_cons (pv 2) pk_nil)))) (pv 5) (nomark _))))) (pss_one (ps_ret pe_bl)) pss_nil)
      (pss_cons (ps_if (PW.pt (pw_or (pt_not (pt_val (pe_callB call_isi (by rfl) B.isinstance (by decide +kernel) (pa_cons (pv 5) (pa_cons (pe_glob (v := .ref C) (by rfl) S.g rfl) pa_nil))))) (pw_or (pt_cmpR op_ne (pe_own C_widest hr (by decide) (by rfl) (pa_cons (pe_tup (pa_cons (pv 5) pa_nil)) pa_nil)) (pv 4) (nomark _)) (pw_or1 (pt_cmpR op_notBl (pe_own C_is_stable hr (by decide) (by rfl) (pa_cons (pe_tup (pa_cons (pv 5) pa_nil)) pa_nil)) pe_bl (nomark _)))))) (pss_one (ps_ret pe_bl)) pss_nil)
      (pss_one (ps_for PassesOwn.never rfl (pi_range1 (by rfl) B.range (pa_cons pe_int pa_nil)) (pg_name (i := 9) sc_law_right.nd rfl (.inl rfl))
      (pss_cons (ps_set (i := 10) sc_law_right.nd rfl (.inl rfl) (pe_own C_law_line hr (by decide) (by rfl) (pa_cons (pv 0) (pa_cons (pe_own C_law_ladle hr (by decide) (by rfl) (pa_cons (pv 0) (pa_cons (pe_own C_law_one_of hr (by decide) (by rfl) (pa_cons (pv 0) (pa_cons (pe_lst (pa_cons pe_int (pa_cons pe_int pa_nil))) pa_nil))) pa_nil))) pa_nil))))
      (pss_cons (ps_set (i := 11) sc_law_right.nd rfl (.inl rfl) (pe_own C_show hr (by decide) (by rfl) (pa_cons (pe_tup (pa_cons (pv 5) pa_nil)) (pa_cons (pv 10) pa_nil))))
      (pss_cons (ps_if (PW.pt (pw_or (PW.pt (pw_and (pt_cmpR op_le (pe_callB call_len (by rfl) B.len (by decide +kernel) (pa_cons (pv 10) pa_nil)) (pv 4) (nomark _)) (pw_and1 (pt_cmpR op_ne (pv 11) (pv 10) (nomark _))))) (pw_or1 (PW.pt (pw_and (pt_cmpR op_gt (pe_callB call_len (by rfl) B.len (by decide +kernel) (pa_cons (pv 10) pa_nil)) (pv 4) (nomark _)) (pw_and1 (pt_cmpR op_ne (pe_callB call_len (by rfl) B.len (by decide +kernel) (pa_cons (pv 11) pa_nil)) (pv 4) (nomark _)))))))) (pss_one (ps_ret pe_bl)) pss_nil)
      (pss_one (ps_if (pt_cmpR op_gt (pe_callB call_len (by rfl) B.len (by decide +kernel) (pa_cons (pv 10) pa_nil)) (pv 4) (nomark _)) (pss_cons (ps_set (i := 12) sc_law_right.nd rfl (.inl rfl) (pe_slice sl_str (pv 10) (po_some (pe_op op_sub (pe_callB call_len (by rfl) B.len (by decide +kernel) (pa_cons (pv 10) pa_nil)) (pe_ix ix_tup (pv 8) pe_int (fun _ _ => rfl)))) po_none))
      (pss_one (ps_if (pt_cmpR op_ne (pv 11) (pe_op op_add_str (pe_op op_add_str (pe_slice sl_str (pv 10) po_none (po_some (pe_ix ix_tup (pv 8) pe_int (fun _ _ => rfl)))) (pv 3)) (pv 12)) (nomark _)) (pss_one (ps_ret pe_bl)) pss_nil))) pss_nil)))))))))))))))
      (pss_one (ps_ret pe_bl))), ?_⟩
    refine ⟨6, rfl, by decide, by decide, for_range (lo := 0) (n := 6) (fun i σ J => ∃ a1 a2 a3 a4 a5 a6 a7 a8 a9 b1 b2 b3, σ = [some (.ref p), a1, a2, a3, a4, a5, a6, a7, a8, a9, b1, b2, b3] ∧ Ladled p H J) ⟨none, none, none, none, none, none, none, none, none, none, none, none, rfl, .refl hp⟩ ?_ ?_⟩
    · rintro i σ J hi ⟨a1, a2, a3, a4, a5, a6, a7, a8, a9, b1, b2, b3, rfl, M⟩
      clear hi
      generalize (V.int (0 + (i : Int))) = again
      -- the kind and the mark
      refine ⟨_, rfl, by show 3 ≤ sizeLine; decide, fun q2 nq2 => ?_⟩
      have M5 : Ladled p H (upd J q2 (.lst [.str "end", .str "start", .str "middle"])) := M.new nq2
      refine ⟨p, M5.pot, .inl ⟨q2, _, rfl, .inl (.inl upd_same), M.pot.ne nq2, by decide, by decide, fun v G5 hv L5 => ?_⟩⟩
      obtain ⟨sd, rfl⟩ : ∃ kd : Kd, v = .str kd.word := by
        simp only [List.mem_cons, List.not_mem_nil, or_false] at hv
        rcases hv with rfl | rfl | rfl
        · exact ⟨.e, rfl⟩
        · exact ⟨.s, rfl⟩
        · exact ⟨.m, rfl⟩
      clear hv
      have M6 := M5.trans L5
      refine ⟨_, rfl, by show 5 ≤ sizeLine; decide, fun q nq => ?_⟩
      have M2 : Ladled p H (upd G5 q (.lst [.str "", .str "~", .str "..", .str "...", .str "a.b"])) := M6.new nq
      refine ⟨p, M2.pot, .inl ⟨q, _, rfl, .inl (.inl upd_same), M6.pot.ne nq, by decide, by decide, fun v G2 hv L2 => ⟨_, _, rfl, ?_⟩⟩⟩
      obtain ⟨z, rfl, mz⟩ : ∃ z : Str, v = .str z ∧ z ∈ marks := by
        have e : ([.str "", .str "~", .str "..", .str "...", .str "a.b"] : List V) = (["", "~", "..", "...", "a.b"] : List Str).map V.str := rfl
        rw [e] at hv
        obtain ⟨z, h1, h2⟩ := List.mem_map.mp hv
        exact ⟨z, h2.symm, List.mem_append_left [("~" : Str)] h1⟩
      clear hv
      have M3 := M2.trans L2
      have hz : isTxt z 3 = true := marks_txt mz
      have zz := isTxt_len hz
      have zs1 : z.length ≤ sizeLine := Nat.le_of_lt (small1000 (by omega))
      -- the width
      refine ⟨_, rfl, _, _, rfl, ⟨zs1, rfl⟩, _, rfl, _, rfl, _, _, rfl, ⟨zs1, rfl⟩, _, _, rfl, rfl, p, _, rfl, M3.pot, by omega, by omega, fun d G6 d0 d1 L6 => ⟨_, _, rfl, rfl, ?_⟩⟩
      have M7 := M3.trans L6
      have sz1 : (z.length : Int) ≤ ((z.length : Int) + d) := by omega
      have sz2 : ((z.length : Int) + d) ≤ 40 := by omega
      have fit := fam_fit sd hz sz1 sz2
      clear L2 L5 L6 M2 M3 M5 M6
      refine ⟨_, rfl, _, rfl, _, rfl, sd, z, ((z.length : Int) + d), rfl, hz, sz1, sz2, fun x G7 nx gx s7 => ?_⟩
      refine ⟨_, rfl, _, rfl, _, _, rfl, ⟨zs1, rfl⟩, _, _, rfl, rfl, _, _, rfl, ?_⟩
      have M8 := M7.same s7
      -- the half, and what is due
      refine ⟨_, rfl, _, _, rfl, rfl, ⟨by decide, by decide⟩, ?_⟩
      intro pd npd
      refine ⟨_, rfl, by show 2 ≤ sizeLine; decide, fun t1 n1 => ⟨_, rfl, by show 2 ≤ sizeLine; decide, fun t2 n2 => ⟨_, rfl, _, rfl, _, _, rfl, rfl, _, rfl, by show 2 ≤ sizeLine; decide, fun t3 n3 => ?_⟩⟩⟩
      have ed : upd (upd (upd (upd G7 pd (.dK [])) t1 (.tup [.int (((z.length : Int) + d) - z.length), .int 0])) t2 (.tup [.int 0, .int (((z.length : Int) + d) - z.length)])) t3 (.tup [.int ((((z.length : Int) + d) - z.length) - (((z.length : Int) + d) - z.length) / 2), .int ((((z.length : Int) + d) - z.length) / 2)]) pd = some (.dK []) := same_new n3 _ _ (same_new n2 _ _ (same_new n1 _ _ upd_same))
      have s8 : Same G7 (upd (upd (upd (upd G7 pd (.dK [])) t1 (.tup [.int (((z.length : Int) + d) - z.length), .int 0])) t2 (.tup [.int 0, .int (((z.length : Int) + d) - z.length)])) t3 (.tup [.int ((((z.length : Int) + d) - z.length) - (((z.length : Int) + d) - z.length) / 2), .int ((((z.length : Int) + d) - z.length) / 2)])) := (same_new npd).trans ((same_new n1).trans ((same_new n2).trans (same_new n3)))
      have f1 : upd (upd (upd (upd G7 pd (.dK [])) t1 (.tup [.int (((z.length : Int) + d) - z.length), .int 0])) t2 (.tup [.int 0, .int (((z.length : Int) + d) - z.length)])) t3 (.tup [.int ((((z.length : Int) + d) - z.length) - (((z.length : Int) + d) - z.length) / 2), .int ((((z.length : Int) + d) - z.length) / 2)]) t1 = some (.tup [.int (((z.length : Int) + d) - z.length), .int 0]) := same_new n3 _ _ (same_new n2 _ _ upd_same)
      have f2 : upd (upd (upd (upd G7 pd (.dK [])) t1 (.tup [.int (((z.length : Int) + d) - z.length), .int 0])) t2 (.tup [.int 0, .int (((z.length : Int) + d) - z.length)])) t3 (.tup [.int ((((z.length : Int) + d) - z.length) - (((z.length : Int) + d) - z.length) / 2), .int ((((z.length : Int) + d) - z.length) / 2)]) t2 = some (.tup [.int 0, .int (((z.length : Int) + d) - z.length)]) := same_new n3 _ _ upd_same
      have f3 : upd (upd (upd (upd G7 pd (.dK [])) t1 (.tup [.int (((z.length : Int) + d) - z.length), .int 0])) t2 (.tup [.int 0, .int (((z.length : Int) + d) - z.length)])) t3 (.tup [.int ((((z.length : Int) + d) - z.length) - (((z.length : Int) + d) - z.length) / 2), .int ((((z.length : Int) + d) - z.length) / 2)]) t3 = some (.tup [.int ((((z.length : Int) + d) - z.length) - (((z.length : Int) + d) - z.length) / 2), .int ((((z.length : Int) + d) - z.length) / 2)]) := upd_same
      generalize upd (upd (upd (upd G7 pd (.dK [])) t1 (.tup [.int (((z.length : Int) + d) - z.length), .int 0])) t2 (.tup [.int 0, .int (((z.length : Int) + d) - z.length)])) t3 (.tup [.int ((((z.length : Int) + d) - z.length) - (((z.length : Int) + d) - z.length) / 2), .int ((((z.length : Int) + d) - z.length) / 2)]) = G8 at ed s8 f1 f2 f3
      obtain ⟨dd, edd, fdd⟩ : ∃ dd : Addr, valV (mergeK [] [(Sum.inr ("end" : Str), V.ref t1), (Sum.inr ("start" : Str), V.ref t2), (Sum.inr ("middle" : Str), V.ref t3)]) (Sum.inr sd.word) = some (.ref dd) ∧ G8 dd = some (.tup [.int (fam sd z ((z.length : Int) + d)).h, .int (fam sd z ((z.length : Int) + d)).t]) := by
        cases sd
        · exact ⟨t1, pick3 .e _ _ _, f1⟩
        · exact ⟨t2, pick3 .s _ _ _, f2⟩
        · exact ⟨t3, pick3 .m _ _ _, f3⟩
      have gpd : G7 pd = none := npd
      have npx : ∀ b o, G8 b = some o → (∀ kvs, o ≠ .dK kvs) → upd G8 pd (.dK (mergeK [] [(Sum.inr ("end" : Str), V.ref t1), (Sum.inr ("start" : Str), V.ref t2), (Sum.inr ("middle" : Str), V.ref t3)])) b = some o := fun b o e ne => by
        rw [upd_ne (fun zz => by
          rw [zz, ed] at e
          exact ne [] (Option.some.inj e).symm)]
        exact e
      refine ⟨ed, [(Sum.inr ("end" : Str), V.ref t1), (Sum.inr ("start" : Str), V.ref t2), (Sum.inr ("middle" : Str), V.ref t3)], rfl, by show 3 ≤ 15; decide, _, rfl, pd, _, rfl, edd ▸ DGet.k (k := Sum.inr sd.word) upd_same, ?_⟩
      have s9 : Same G7 (upd G8 pd (.dK (mergeK [] [(Sum.inr ("end" : Str), V.ref t1), (Sum.inr ("start" : Str), V.ref t2), (Sum.inr ("middle" : Str), V.ref t3)]))) := offH s8 gpd
      have fdd : upd G8 pd (.dK (mergeK [] [(Sum.inr ("end" : Str), V.ref t1), (Sum.inr ("start" : Str), V.ref t2), (Sum.inr ("middle" : Str), V.ref t3)])) dd = some (.tup [.int (fam sd z ((z.length : Int) + d)).h, .int (fam sd z ((z.length : Int) + d)).t]) := npx _ _ fdd (fun _ q => by cases q)
      generalize upd G8 pd (.dK (mergeK [] [(Sum.inr ("end" : Str), V.ref t1), (Sum.inr ("start" : Str), V.ref t2), (Sum.inr ("middle" : Str), V.ref t3)])) = G9 at s9 fdd
      have M9 := M8.same s9
      have gx9 := gx.same s9
      clear edd ed s8 f1 f2 f3 npx n1 n2 n3
      -- told, and made by keyword
      obtain ⟨dx, b, e1, e2⟩ := id gx9
      refine ⟨_, rfl, x, C, dx, _, _, rfl, e1, S.cl, S.nD, flds_told _ _, ?_⟩
      refine ⟨_, rfl, _, rfl, dd, _, _, _, rfl, rfl, .inl (.inl fdd), (rfl : atI [V.int (fam sd z ((z.length : Int) + d)).h, V.int (fam sd z ((z.length : Int) + d)).t] 0 = some (V.int (fam sd z ((z.length : Int) + d)).h)), _, rfl, dd, _, _, _, rfl, rfl, .inl (.inl fdd), (rfl : atI [V.int (fam sd z ((z.length : Int) + d)).h, V.int (fam sd z ((z.length : Int) + d)).t] 1 = some (V.int (fam sd z ((z.length : Int) + d)).t)), _, rfl, by show 4 ≤ sizeLine; decide, fun t nt => ?_⟩
      have ev : ([.int ((z.length : Int) + d), .int (fam sd z ((z.length : Int) + d)).h, .int (fam sd z ((z.length : Int) + d)).t, .str z] : List V) = (fam sd z ((z.length : Int) + d)).vs := by
        unfold Rec.vs
        rw [fam_l, fam_z]
      have s10 : Same G9 (upd G9 t (.tup [.int ((z.length : Int) + d), .int (fam sd z ((z.length : Int) + d)).h, .int (fam sd z ((z.length : Int) + d)).t, .str z])) := same_new nt
      have e3 : upd G9 t (.tup [.int ((z.length : Int) + d), .int (fam sd z ((z.length : Int) + d)).h, .int (fam sd z ((z.length : Int) + d)).t, .str z]) t = some (.tup (fam sd z ((z.length : Int) + d)).vs) := by rw [upd_same, ev]
      generalize upd G9 t (.tup [.int ((z.length : Int) + d), .int (fam sd z ((z.length : Int) + d)).h, .int (fam sd z ((z.length : Int) + d)).t, .str z]) = G10 at s10 e3
      refine ⟨_, _, Rec.dp (s10 _ _ e2), Rec.dp e3, fit.shaped, fit.shaped, _, rfl, ?_⟩
      rw [SeqAt.eqv_refl _ (SeqAt.canLay_of_shaped fit.shaped)]
      refine iteF ⟨_, rfl, _, rfl, _, rfl, rfl, sd, z, ((z.length : Int) + d), rfl, hz, sz1, sz2, fun x2 G11 nx2 gx2 s11 => ?_⟩
      have gx11 := (gx9.same s10).same s11
      obtain ⟨dx2, b2, e4, e5⟩ := id gx2
      obtain ⟨dx3, b3, e6, e7⟩ := id gx11
      refine ⟨_, rfl, x2, dx2, _, _, rfl, e4, TyX.base (TyOf.ins (K := K) e6 S.cl S.ha S.hn S.ht S.hm), first_self, x2, _, _, rfl, gx2, fit, .inl ⟨x, _, rfl, gx11, fit, _, rfl, ?_⟩⟩
      rw [SeqAt.eqv_refl _ (SeqAt.canLay_of_shaped fit.shaped)]
      refine ⟨_, rfl, iteF ?_⟩
      have s1b := s9.trans (s10.trans s11)
      have fdd := s11 _ _ (s10 _ _ fdd)
      have M11 := M9.same (s10.trans s11)
      -- a shortener, how wide, stable
      have rowAt : ∀ (G : Hp) (t : Addr), ShAt C G x (fam sd z ((z.length : Int) + d)) → G t = none → RowAt C (upd G t (.tup [.ref x])) t [(x, fam sd z ((z.length : Int) + d))] := fun G t g nt => ⟨upd_same, fun q hq => by
        rw [List.mem_singleton.mp hq]
        exact ⟨g.same (same_new nt), fit⟩⟩
      refine ⟨_, rfl, _, _, _, _, true, rfl, .own C, .base (.ins e6 S.cl S.ha S.hn S.ht S.hm), S.kk, _, rfl, iteF ?_⟩
      refine ⟨_, rfl, by show 1 ≤ sizeLine; decide, fun t4 n4 => ?_⟩
      refine ⟨t4, _, rfl, rowAt _ _ gx11 n4, by show 1 ≤ 1; decide, by show 1 ≤ 4; decide, fun m G12 s12 top => ?_⟩
      obtain rfl := fam_wide sd hz sz1 sz2 top
      refine ⟨_, rfl, rfl, _, rfl, ?_⟩
      rw [decide_eq_true rfl]
      refine iteF ⟨_, rfl, by show 1 ≤ sizeLine; decide, fun t5 n5 => ?_⟩
      have gx12 := (gx11.same (same_new n4)).same s12
      refine ⟨t5, _, rfl, rowAt _ _ gx12 n5, by show 1 ≤ 1; decide, by show 1 ≤ 4; decide, fun v G13 s13 told => ?_⟩
      obtain rfl := fam_stable sd hz sz1 sz2 told
      refine ⟨_, _, rfl, rfl, _, rfl, iteF ?_⟩
      have s11e : Same G11 G13 := (same_new n4).trans (s12.trans ((same_new n5).trans s13))
      have gx13 := gx11.same s11e
      have fdd := s11e _ _ fdd
      have M13 := M11.same s11e
      clear s11e s13 told n5 gx12 s12 top n4 e6 e7 e4 e5 gx2 s11 nx2 e3 s10 nt e1 e2
      -- texts
      refine ⟨4, rfl, by decide, by decide, for_range (lo := 0) (n := 4) (fun i σ J => ∃ c1 c2 c3 c4, σ = [some (.ref p), some again, some (.str sd.word), some (.str z), some (.int ((z.length : Int) + d)), some (.ref x), some (.int (((z.length : Int) + d) - z.length)), some (.int ((((z.length : Int) + d) - z.length) / 2)), some (.ref dd), c1, c2, c3, c4] ∧ Ladled p H J ∧ ShAt C J x (fam sd z ((z.length : Int) + d)) ∧ J dd = some (.tup [.int (fam sd z ((z.length : Int) + d)).h, .int (fam sd z ((z.length : Int) + d)).t]))
        ⟨_, _, _, _, rfl, M13, gx13, fdd⟩ ?_ ?_⟩
      · rintro i σ J hi ⟨c1, c2, c3, c4, rfl, M, g, fdd⟩
        clear hi
        generalize (V.int (0 + (i : Int))) = turn
        refine ⟨_, rfl, _, rfl, _, rfl, by show 2 ≤ sizeLine; decide, fun q0 n0 => ?_⟩
        have L0 : Ladled p H (upd J q0 (.lst [.int 12, .int 120])) := M.new n0
        refine ⟨p, L0.pot, .inl ⟨q0, _, rfl, .inl (.inl upd_same), M.pot.ne n0, by decide, by decide, fun v G1 hv L1 => ?_⟩⟩
        obtain ⟨n, e0, e1, rfl⟩ : ∃ n : Int, 1 ≤ n ∧ n ≤ 120 ∧ v = .int n := by
          simp only [List.mem_cons, List.not_mem_nil, or_false] at hv
          rcases hv with rfl | rfl <;> exact ⟨_, by decide, by decide, rfl⟩
        have M1 := L0.trans L1
        refine ⟨p, n, rfl, M1.pot, by omega, by omega, fun d5 G2 d50 d51 L2 => ?_⟩
        have M2 := M1.trans L2
        refine ⟨p, d5, rfl, M2.pot, d50, by omega, fun l G3 L3 ll tl => ?_⟩
        have M3 := M2.trans L3
        have g3 : ShAt C G3 x (fam sd z ((z.length : Int) + d)) := ((((g.same (same_new n0)).lad L1 L0.pot).lad L2 M1.pot)).lad L3 M2.pot
        have nd3 : ∀ {A B : Hp}, Ladled p A B → Pot A p → A dd = some (.tup [.int (fam sd z ((z.length : Int) + d)).h, .int (fam sd z ((z.length : Int) + d)).t]) → B dd = some (.tup [.int (fam sd z ((z.length : Int) + d)).h, .int (fam sd z ((z.length : Int) + d)).t]) := fun L hp e => L.keep _ _ e (by
          obtain ⟨x, y, z, e9⟩ := hp
          exact ne_of e e9 (by intro z; cases z))
        have fdd := nd3 L3 M2.pot (nd3 L2 M1.pot (nd3 L1 L0.pot (same_new n0 _ _ fdd)))
        have lz : l.length = l.cps.toList.length := rfl
        have l2 := isTxt_len tl
        have ls : l.length ≤ sizeLine := Nat.le_of_lt (small1000 (by omega))
        refine ⟨_, rfl, by show 1 ≤ sizeLine; decide, fun t6 n6 => ?_⟩
        refine ⟨_, rfl, t6, _, l, rfl, rowAt _ _ g3 n6, by show 1 ≤ 1; decide, by show 1 ≤ 4; decide, tl, fun y G4 s4 ey => ?_⟩
        have s34 : Same G3 G4 := (same_new n6).trans s4
        have g4 := g3.same s34
        have fdd := s34 _ _ fdd
        have M4 := M3.same s34
        have ey : y.cps.toList = cuts [fam sd z ((z.length : Int) + d)] l.cps.toList := ey
        by_cases c : (l.length : Int) ≤ ((z.length : Int) + d)
        · obtain rfl := seen_whole c ey
          refine ⟨_, rfl, _, _, rfl, ⟨ls, rfl⟩, _, rfl, _, _, rfl, rfl, _, rfl, ?_⟩
          rw [decide_eq_true c]
          refine iteT ⟨_, rfl, _, rfl, rfl, _, rfl, ?_⟩
          rw [decide_eq_true rfl]
          refine iteF ⟨_, rfl, _, _, rfl, ⟨ls, rfl⟩, _, rfl, _, _, rfl, rfl, _, rfl, ?_⟩
          rw [decide_eq_false (show ¬ (y.length : Int) > ((z.length : Int) + d) by omega)]
          refine iteF (iteF ⟨_, rfl, _, _, rfl, ⟨ls, rfl⟩, _, rfl, _, _, rfl, rfl, _, rfl, ?_⟩)
          rw [decide_eq_false (show ¬ (y.length : Int) > ((z.length : Int) + d) by omega)]
          exact iteF ⟨_, _, _, _, rfl, M4, g4, fdd⟩
        · obtain ⟨yl, yc⟩ := seen_cut hz sz1 sz2 c ey
          have ys : y.length ≤ sizeLine := Nat.le_of_lt (small1000 (by omega))
          refine ⟨_, rfl, _, _, rfl, ⟨ls, rfl⟩, _, rfl, _, _, rfl, rfl, _, rfl, ?_⟩
          rw [decide_eq_false c]
          refine iteF (iteF ⟨_, rfl, _, _, rfl, ⟨ls, rfl⟩, _, rfl, _, _, rfl, rfl, _, rfl, ?_⟩)
          rw [decide_eq_true (show (l.length : Int) > ((z.length : Int) + d) by omega)]
          refine iteT ⟨_, rfl, _, _, rfl, ⟨ys, rfl⟩, _, rfl, rfl, _, rfl, ?_⟩
          rw [decide_eq_true (show V.int (y.length : Int) = V.int ((z.length : Int) + d) by rw [yl])]
          refine iteF ⟨_, rfl, _, _, rfl, ⟨ls, rfl⟩, _, rfl, _, _, rfl, rfl, _, rfl, ?_⟩
          rw [decide_eq_true (show (l.length : Int) > ((z.length : Int) + d) by omega)]
          refine iteT ⟨_, rfl, _, rfl, _, _, rfl, ⟨ls, rfl⟩, _, rfl, dd, _, _, _, rfl, rfl, .inl (.inl fdd), (rfl : atI [V.int (fam sd z ((z.length : Int) + d)).h, V.int (fam sd z ((z.length : Int) + d)).t] 1 = some (V.int (fam sd z ((z.length : Int) + d)).t)), _, _, rfl, rfl, _, rfl, l, rfl, ls, ?_⟩
          have k1 := cutS_length l none (some (fam sd z ((z.length : Int) + d)).h)
          have k2 := cutS_length l (some ((l.length : Int) - (fam sd z ((z.length : Int) + d)).t)) none
          have k3 := app_len (cutS l none (some (fam sd z ((z.length : Int) + d)).h)) z
          refine ⟨_, rfl, _, rfl, _, rfl, dd, _, _, _, rfl, rfl, .inl (.inl fdd), (rfl : atI [V.int (fam sd z ((z.length : Int) + d)).h, V.int (fam sd z ((z.length : Int) + d)).t] 0 = some (V.int (fam sd z ((z.length : Int) + d)).h)), _, rfl, l, rfl, ls, _, rfl, _, _, rfl, rfl, Nat.le_of_lt (small1000 (by omega)), _, rfl, _, _, rfl, rfl, Nat.le_of_lt (small1000 (by omega)), rfl, _, rfl, ?_⟩
          rw [decide_eq_true (show V.str y = V.str _ by rw [yc])]
          exact iteF ⟨_, _, _, _, rfl, M4, g4, fdd⟩
      · rintro σ J ⟨c1, c2, c3, c4, rfl, M, g, fdd⟩
        exact ⟨_, _, _, _, _, _, _, _, _, _, _, _, rfl, M⟩
    · rintro σ J ⟨a1, a2, a3, a4, a5, a6, a7, a8, a9, b1, b2, b3, rfl, M⟩
      exact k J M
end
end Gu
namespace Gu
open PySem PySem.Spec PyProof.Rows L2
section
variable {P : Program} {w : World} {K : PySem.W.Frag} {mg : Str → Option Value} {base : Heap}
/-! ### law -/
def spLaw (K : PySem.W.Frag) : Sp := fun vs H Q _ => ∃ (a : Addr) (ns : List Int), vs = [.ref a] ∧ SqL K H a (ns.map V.int) ∧ ns.length ≤ 63 ∧ ∀ G, Q (.bl true) G
theorem cal_law {n : Nat} (B : Bi mg) {f : Addr} {fd : FuncData} (F : Fun K "law" "law" s_law f fd) (n1 : 1 ≤ n) (C_law_pot : Cal P w K mg base 1 "_law_pot" ps_law_pot (spPot K)) (C_law_right : CalG P w K mg base n "_law_right" ps_law_right spRight) : FnG P w K mg base (n + 1) f fd ps_law (spLaw K) := by
  refine okG F sc_law (fun vs H Q E h => ?_) (fun cdv A outer s H vs Q E hr quiet h => ?_)
  · obtain ⟨a, ns, rfl, _⟩ := h
    rfl
  · obtain ⟨a, ns, rfl, hS, hl, k⟩ := h
    have hk1 := n1
    refine ⟨_, (pss_one (ps_ret (pe_callB (cr_all rfl) (by rfl) B.all (by decide +kernel) (pa_cons (pe_lc (own := [("_law_k", 1)]) (by rfl) sc_law.nd (pi_range1 (by rfl) B.range (pa_cons (pe_callB (call_max2 rfl) (by rfl) B.max (by decide +kernel) (pa_cons pe_int (pa_cons (pe_callB (call_min2 rfl) (by rfl) B.min (by decide +kernel) (pa_cons (pe_callB call_len_seq (by rfl) B.len (by decide +kernel) (pa_cons (pv 0) pa_nil)) (pa_cons pe_int pa_nil))) pa_nil))) pa_nil)) (blkOk_by (own := [("_law_k", 1)]) (N := ["_law_script", "_law_k"]) (sc := defScope s_law) (by decide +kernel)) (fun _ _ _ _ _ => pg_name (i := 1) sc_law.nd rfl (.inl rfl)) (fun _ _ _ _ _ => pts_nil) (fun _ _ _ _ _ => (pe_ownG C_law_right hr (Nat.le_refl _) quiet (by rfl) (pa_cons (pe_own C_law_pot hr hk1 (by rfl) (pa_cons (pv 0) (pa_cons (pv 1) pa_nil))) pa_nil)))) pa_nil)))), ?_⟩
    refine ⟨_, rfl, a, _, rfl, .inl hS, _, _, rfl, _, _, rfl, ?_⟩
    rw [List.length_map]
    generalize hm : (if (5 : Int) < (ns.length : Int) then (5 : Int) else (ns.length : Int)) = m
    have m1 : m ≤ 5 := by rw [← hm]; split <;> omega
    refine ⟨_, rfl, by split <;> omega, by split <;> omega, fun D nD => ?_⟩
    refine lc_range (lo := 0) (n := (if m > (2 : Int) then m else 2).toNat) (fun i J => ∃ bs : List Bool, bs.length = i ∧ bs.all id = true ∧ J D = some (.lst (bs.map V.bl)) ∧ Same H J) ⟨[], rfl, rfl, upd_same, same_new nD⟩ ?_ ?_
    · rintro i J hi ⟨bs, rfl, ha, eD, sJ⟩
      have i5 : bs.length < 5 := by
        revert hi
        split <;> omega
      refine ⟨rfl, yes (iteT ⟨_, rfl, _, rfl, a, bs.length, ns, ?_, sJ.seq hS, by omega, fun p G np hp sG => ?_⟩)⟩
      · rw [Int.zero_add]
        rfl
      · refine ⟨p, rfl, hp, fun G2 L => ?_⟩
        have nDp : D ≠ p := ne_of_none eD np
        have gD : G2 D = some (.lst (bs.map V.bl)) := L.keep _ _ (sG _ _ eD) nDp
        refine ⟨_, gD, small1000 (by rw [List.length_map]; omega), bs ++ [true], by rw [List.length_append]; rfl, by rw [List.all_append, ha]; rfl, ?_, fun b o e => ?_⟩
        · rw [upd_same, List.map_append]
          rfl
        · rw [upd_ne (ne_of_none e nD)]
          exact L.keep _ _ (sG _ _ (sJ _ _ e)) (ne_of_none (sJ _ _ e) np)
    · rintro J ⟨bs, el, ha, eD, sJ⟩
      refine ⟨D, bs, rfl, .inl (.inl eD), ?_⟩
      rw [ha]
      exact k J
end
end Gu
namespace Gu
open PySem PySem.Spec PyProof.Rows L2
theorem at_mk {K : PySem.W.Frag} {h : Heap} {mg : Str → Option Value} {x : Str} {st : Stmt} {ps : List Str} {f : Addr} {oc : Value} {od an : Option Addr} {sl : Array (Option Value)} {kV dc pm cd ct : Value} (X : K.In h) (G : h.Ns mainGlobals mg)
    (hb : ∀ (kV doc pm : Value) (an : Option Addr) (cdv ct : Value) (us : List Value), us.length = ps.length → bindArgs (PySem.W.fnOf x x (defArgs st) (defBody st) (defScope st) .none kV doc pm an cdv ct) ⟨us, []⟩ = pure (ps.zip us))
    (a : PySem.W.nsIn K mainGlobals x = some (some (.ref f))) (l : K.lookup f = some ⟨oc, od, .func (PySem.W.fnOf x x (defArgs st) (defBody st) (defScope st) .none kV dc pm an cd ct), sl⟩) (c : PySem.W.codeIn K cd x = true) (k : PySem.W.keepIn K (.ref f) = true) : At K mg x st ps :=
  ⟨f, _, fun_mk l c k, (fun_mk l c k).binds hb, PySem.W.mg_of X G a⟩
theorem cst_mk {K : PySem.W.Frag} {h : Heap} {mg : Str → Option Value} {x : Str} {v : V} {u : Value} (X : K.In h) (G : h.Ns mainGlobals mg) (r : RelV v u) (a : PySem.W.nsIn K mainGlobals x = some (some u)) : ∃ u, mg x = some u ∧ RelV v u := ⟨u, PySem.W.mg_of X G a, r⟩
end Gu
namespace Gu
open PySem PySem.Spec PyProof.Rows L2
theorem fin {P : Program} {w : World} {K : PySem.W.Frag} {mg : Str → Option Value} {base : Heap} {C f : Addr} {fd : FuncData} (B : Bi mg) (T_KINDS : TupC K mg "KINDS" ["end", "start", "middle"]) (Ss : ShC K mg C) (Is : InitAt K C) (Z : ShE K C)
    (A_is_integer : At K mg "is_integer" s_is_integer ps_is_integer) (A_is_tuple : At K mg "is_tuple" s_is_tuple ps_is_tuple) (A_is_text : At K mg "is_text" s_is_text ps_is_text) (A_least_raised_at : At K mg "least_raised_at" s_least_raised_at ps_least_raised_at) (A_check_mark : At K mg "check_mark" s_check_mark ps_check_mark) (A_check_text : At K mg "check_text" s_check_text ps_check_text) (A_check_row : At K mg "check_row" s_check_row ps_check_row) (A_shortened : At K mg "shortened" s_shortened ps_shortened) (A_shown_by : At K mg "shown_by" s_shown_by ps_shown_by) (A_planned : At K mg "planned" s_planned ps_planned) (A_telling_lengths : At K mg "telling_lengths" s_telling_lengths ps_telling_lengths) (A_show : At K mg "show" s_show ps_show) (A_widest : At K mg "widest" s_widest ps_widest) (A_check_kind : At K mg "check_kind" s_check_kind ps_check_kind) (A_member_of : At K mg "member_of" s_member_of ps_member_of) (A_member : At K mg "member" s_member ps_member) (A_filled_in : At K mg "filled_in" s_filled_in ps_filled_in) (A_differing_places : At K mg "differing_places" s_differing_places ps_differing_places) (A_least_difference : At K mg "least_difference" s_least_difference ps_least_difference) (A_first_difference : At K mg "first_difference" s_first_difference ps_first_difference) (A_first_unstable : At K mg "first_unstable" s_first_unstable ps_first_unstable) (A_is_stable : At K mg "is_stable" s_is_stable ps_is_stable) (A_law_pot : At K mg "_law_pot" s_law_pot ps_law_pot) (A_law_ladle : At K mg "_law_ladle" s_law_ladle ps_law_ladle) (A_law_one_of : At K mg "_law_one_of" s_law_one_of ps_law_one_of) (A_law_line : At K mg "_law_line" s_law_line ps_law_line) (A_law_right : At K mg "_law_right" s_law_right ps_law_right)
    (F : Fun K "law" "law" s_law f fd) : FnG P w K mg base 8 f fd ps_law (spLaw K) := by
  have c1 : Cal P w K mg base 1 "_law_ladle" ps_law_ladle spLadle := cal_ladle B A_law_ladle
  have c2 : Cal P w K mg base 2 "_law_one_of" ps_law_one_of (spOneOf K) := cal_oneOf B A_law_one_of c1
  have c5 : Cal P w K mg base 1 "is_integer" ps_is_integer (spIsInteger K) := cal_isInteger B A_is_integer
  have c6 : Cal P w K mg base 1 "is_text" ps_is_text (spIsText K) := cal_isText B A_is_text
  have cmk : Cal P w K mg base 2 "check_mark" ps_check_mark spCheckMark := cal_checkMark B A_check_mark c6
  have m1 : Mak P w K mg base 3 "Shortener" C (spInit C) := mak_sh B Ss Is c5 cmk
  have t1 : Cal P w K mg base 1 "is_tuple" ps_is_tuple (spIsTuple K) := cal_isTuple B A_is_tuple
  have d1 : Cal P w K mg base 2 "check_row" ps_check_row (spCheckRow C) := cal_checkRow B Ss A_check_row t1
  have d2 : Cal P w K mg base 1 "shortened" ps_shortened (spShortT C) := cal_shortT B Ss A_shortened
  have d3 : Cal P w K mg base 2 "planned" ps_planned (spPlanned C) := cal_planned B Ss A_planned d2
  have d4 : Cal P w K mg base 1 "telling_lengths" ps_telling_lengths spTelling := cal_telling B A_telling_lengths
  have d5 : Cal P w K mg base 1 "filled_in" ps_filled_in (spFilled K) := cal_filled B A_filled_in
  have d6 : Cal P w K mg base 1 "differing_places" ps_differing_places (spDiffP K) := cal_diffP B A_differing_places
  have d7 : Cal P w K mg base 2 "least_difference" ps_least_difference (spLeastD K) := cal_leastD B A_least_difference d5 d6 (cal_raised B A_least_raised_at)
  have d8 : Cal P w K mg base 3 "first_difference" ps_first_difference (spFirstD C) := cal_firstD B A_first_difference d4 d3 d7
  have d9 : Cal P w K mg base 4 "first_unstable" ps_first_unstable (spUnst C) := cal_unst B A_first_unstable d1 d8
  have e1 : Cal P w K mg base 5 "is_stable" ps_is_stable (spStable C) := cal_stable B A_is_stable d9
  have g1 : Cal P w K mg base 2 "check_text" ps_check_text spCheckText := cal_checkText B A_check_text c6
  have g2 : Cal P w K mg base 1 "shortened" ps_shortened (spShortS C) := cal_shortS B Ss A_shortened
  have sby : Cal P w K mg base 2 "shown_by" ps_shown_by (spShownBy C) := cal_shownBy B Ss A_shown_by g2
  have g3 : Cal P w K mg base 3 "show" ps_show (spShow C) := cal_show B A_show d1 g1 sby
  have g6 : Cal P w K mg base 3 "widest" ps_widest (spWidest C) := cal_widest B A_widest d1 d3
  have g8 : Cal P w K mg base 3 "_law_line" ps_law_line spLine := cal_line B A_law_line c2
  have p1 : Cal P w K mg base 1 "check_kind" ps_check_kind spCheckKind := cal_checkKind B T_KINDS A_check_kind
  have p4 : Cal P w K mg base 5 "member_of" ps_member_of (spMemberOf C) := cal_memberOf B A_member_of m1
  have p5 : Cal P w K mg base 6 "member" ps_member (spMember C) := cal_member B A_member p1 cmk c5 p4
  have p6 : CalK P w K mg base 6 "member" ["width", "mark", "kind"] rev3 (spMember C) := p5.kw rev3 A_member rev3_vals fun _ _ _ _ _ _ ws hl => match ws, hl with | [_, _, _], _ => rfl
  obtain ⟨fE, fdE, sE, iE, FE, bE⟩ := Z.eq
  have e7 : CalG P w K mg base 7 "_law_right" ps_law_right spRight := cal_right B Ss Z A_law_right c1 c2 g8 (ok_eq B Ss FE) bE sE iE p5 p6 g6 e1 g3
  exact cal_law B F (by decide) (cal_pot B A_law_pot) e7
end Gu
namespace Gu
open PySem PySem.Spec PyProof.Rows L2
theorem all_mk {l : PySem.W.OpenLaw} {w : World} {K : PySem.W.Frag} {h : Heap} {mg : Str → Option Value} {fa : Addr} {f_is_integer : Addr} {oc_is_integer kV_is_integer dc_is_integer pm_is_integer cd_is_integer ct_is_integer : Value} {od_is_integer an_is_integer : Option Addr} {sl_is_integer : Array (Option Value)} {f_is_tuple : Addr} {oc_is_tuple kV_is_tuple dc_is_tuple pm_is_tuple cd_is_tuple ct_is_tuple : Value} {od_is_tuple an_is_tuple : Option Addr} {sl_is_tuple : Array (Option Value)} {f_is_text : Addr} {oc_is_text kV_is_text dc_is_text pm_is_text cd_is_text ct_is_text : Value} {od_is_text an_is_text : Option Addr} {sl_is_text : Array (Option Value)} {f_least_raised_at : Addr} {oc_least_raised_at kV_least_raised_at dc_least_raised_at pm_least_raised_at cd_least_raised_at ct_least_raised_at : Value} {od_least_raised_at an_least_raised_at : Option Addr} {sl_least_raised_at : Array (Option Value)} {f_check_mark : Addr} {oc_check_mark kV_check_mark dc_check_mark pm_check_mark cd_check_mark ct_check_mark : Value} {od_check_mark an_check_mark : Option Addr} {sl_check_mark : Array (Option Value)} {f_check_text : Addr} {oc_check_text kV_check_text dc_check_text pm_check_text cd_check_text ct_check_text : Value} {od_check_text an_check_text : Option Addr} {sl_check_text : Array (Option Value)} {f_check_row : Addr} {oc_check_row kV_check_row dc_check_row pm_check_row cd_check_row ct_check_row : Value} {od_check_row an_check_row : Option Addr} {sl_check_row : Array (Option Value)} {f_shortened : Addr} {oc_shortened kV_shortened dc_shortened pm_shortened cd_shortened ct_shortened : Value} {od_shortened an_shortened : Option Addr} {sl_shortened : Array (Option Value)} {f_shown_by : Addr} {oc_shown_by kV_shown_by dc_shown_by pm_shown_by cd_shown_by ct_shown_by : Value} {od_shown_by an_shown_by : Option Addr} {sl_shown_by : Array (Option Value)} {f_planned : Addr} {oc_planned kV_planned dc_planned pm_planned cd_planned ct_planned : Value} {od_planned an_planned : Option Addr} {sl_planned : Array (Option Value)} {f_telling_lengths : Addr} {oc_telling_lengths kV_telling_lengths dc_telling_lengths pm_telling_lengths cd_telling_lengths ct_telling_lengths : Value} {od_telling_lengths an_telling_lengths : Option Addr} {sl_telling_lengths : Array (Option Value)} {f_show : Addr} {oc_show kV_show dc_show pm_show cd_show ct_show : Value} {od_show an_show : Option Addr} {sl_show : Array (Option Value)} {f_widest : Addr} {oc_widest kV_widest dc_widest pm_widest cd_widest ct_widest : Value} {od_widest an_widest : Option Addr} {sl_widest : Array (Option Value)} {f_check_kind : Addr} {oc_check_kind kV_check_kind dc_check_kind pm_check_kind cd_check_kind ct_check_kind : Value} {od_check_kind an_check_kind : Option Addr} {sl_check_kind : Array (Option Value)} {f_member_of : Addr} {oc_member_of kV_member_of dc_member_of pm_member_of cd_member_of ct_member_of : Value} {od_member_of an_member_of : Option Addr} {sl_member_of : Array (Option Value)} {f_member : Addr} {oc_member kV_member dc_member pm_member cd_member ct_member : Value} {od_member an_member : Option Addr} {sl_member : Array (Option Value)} {f_filled_in : Addr} {oc_filled_in kV_filled_in dc_filled_in pm_filled_in cd_filled_in ct_filled_in : Value} {od_filled_in an_filled_in : Option Addr} {sl_filled_in : Array (Option Value)} {f_differing_places : Addr} {oc_differing_places kV_differing_places dc_differing_places pm_differing_places cd_differing_places ct_differing_places : Value} {od_differing_places an_differing_places : Option Addr} {sl_differing_places : Array (Option Value)} {f_least_difference : Addr} {oc_least_difference kV_least_difference dc_least_difference pm_least_difference cd_least_difference ct_least_difference : Value} {od_least_difference an_least_difference : Option Addr} {sl_least_difference : Array (Option Value)} {f_first_difference : Addr} {oc_first_difference kV_first_difference dc_first_difference pm_first_difference cd_first_difference ct_first_difference : Value} {od_first_difference an_first_difference : Option Addr} {sl_first_difference : Array (Option Value)} {f_first_unstable : Addr} {oc_first_unstable kV_first_unstable dc_first_unstable pm_first_unstable cd_first_unstable ct_first_unstable : Value} {od_first_unstable an_first_unstable : Option Addr} {sl_first_unstable : Array (Option Value)} {f_is_stable : Addr} {oc_is_stable kV_is_stable dc_is_stable pm_is_stable cd_is_stable ct_is_stable : Value} {od_is_stable an_is_stable : Option Addr} {sl_is_stable : Array (Option Value)} {f_law_pot : Addr} {oc_law_pot kV_law_pot dc_law_pot pm_law_pot cd_law_pot ct_law_pot : Value} {od_law_pot an_law_pot : Option Addr} {sl_law_pot : Array (Option Value)} {f_law_ladle : Addr} {oc_law_ladle kV_law_ladle dc_law_ladle pm_law_ladle cd_law_ladle ct_law_ladle : Value} {od_law_ladle an_law_ladle : Option Addr} {sl_law_ladle : Array (Option Value)} {f_law_one_of : Addr} {oc_law_one_of kV_law_one_of dc_law_one_of pm_law_one_of cd_law_one_of ct_law_one_of : Value} {od_law_one_of an_law_one_of : Option Addr} {sl_law_one_of : Array (Option Value)} {f_law_line : Addr} {oc_law_line kV_law_line dc_law_line pm_law_line cd_law_line ct_law_line : Value} {od_law_line an_law_line : Option Addr} {sl_law_line : Array (Option Value)} {f_law_right : Addr} {oc_law_right kV_law_right dc_law_right pm_law_right cd_law_right ct_law_right : Value} {od_law_right an_law_right : Option Addr} {sl_law_right : Array (Option Value)} {f_law : Addr} {oc_law kV_law dc_law pm_law cd_law ct_law : Value} {od_law an_law : Option Addr} {sl_law : Array (Option Value)} {C : Addr} {f_is : Addr} {oc_is kV_is dc_is pm_is cd_is ct_is : Value} {od_is an_is : Option Addr} {sl_is : Array (Option Value)} {f_q : Addr} {oc_q kV_q dc_q pm_q cd_q ct_q : Value} {od_q an_q : Option Addr} {sl_q : Array (Option Value)} {f_p : Addr} {oc_p kV_p dc_p pm_p cd_p ct_p : Value} {od_p an_p : Option Addr} {sl_p : Array (Option Value)} {u_MOST_SIGNS : Tok} {u_MOST_MARK : Tok} {u_MOST_ROW : Tok} {u_MOST_TEXT : Tok} {u_SIGNS : Tok} {T_KINDS : Addr} {td_KINDS : Option Addr} {ts_KINDS : Array (Option Value)} {tn_KINDS : Nat} {e_KINDS_0 e_KINDS_1 e_KINDS_2 : Tok}
    (X : K.In h) (G : h.Ns mainGlobals mg) (hfa : mg "law" = some (.ref fa))
    (a_is_integer : PySem.W.nsIn K mainGlobals "is_integer" = some (some (.ref f_is_integer)))
    (l_is_integer : K.lookup f_is_integer = some ⟨oc_is_integer, od_is_integer, .func (PySem.W.fnOf "is_integer" "is_integer" (defArgs s_is_integer) (defBody s_is_integer) (defScope s_is_integer) .none kV_is_integer dc_is_integer pm_is_integer an_is_integer cd_is_integer ct_is_integer), sl_is_integer⟩)
    (c_is_integer : PySem.W.codeIn K cd_is_integer "is_integer" = true)
    (k_is_integer : PySem.W.keepIn K (.ref f_is_integer) = true)
    (a_is_tuple : PySem.W.nsIn K mainGlobals "is_tuple" = some (some (.ref f_is_tuple)))
    (l_is_tuple : K.lookup f_is_tuple = some ⟨oc_is_tuple, od_is_tuple, .func (PySem.W.fnOf "is_tuple" "is_tuple" (defArgs s_is_tuple) (defBody s_is_tuple) (defScope s_is_tuple) .none kV_is_tuple dc_is_tuple pm_is_tuple an_is_tuple cd_is_tuple ct_is_tuple), sl_is_tuple⟩)
    (c_is_tuple : PySem.W.codeIn K cd_is_tuple "is_tuple" = true)
    (k_is_tuple : PySem.W.keepIn K (.ref f_is_tuple) = true)
    (a_is_text : PySem.W.nsIn K mainGlobals "is_text" = some (some (.ref f_is_text)))
    (l_is_text : K.lookup f_is_text = some ⟨oc_is_text, od_is_text, .func (PySem.W.fnOf "is_text" "is_text" (defArgs s_is_text) (defBody s_is_text) (defScope s_is_text) .none kV_is_text dc_is_text pm_is_text an_is_text cd_is_text ct_is_text), sl_is_text⟩)
    (c_is_text : PySem.W.codeIn K cd_is_text "is_text" = true)
    (k_is_text : PySem.W.keepIn K (.ref f_is_text) = true)
    (a_least_raised_at : PySem.W.nsIn K mainGlobals "least_raised_at" = some (some (.ref f_least_raised_at)))
    (l_least_raised_at : K.lookup f_least_raised_at = some ⟨oc_least_raised_at, od_least_raised_at, .func (PySem.W.fnOf "least_raised_at" "least_raised_at" (defArgs s_least_raised_at) (defBody s_least_raised_at) (defScope s_least_raised_at) .none kV_least_raised_at dc_least_raised_at pm_least_raised_at an_least_raised_at cd_least_raised_at ct_least_raised_at), sl_least_raised_at⟩)
    (c_least_raised_at : PySem.W.codeIn K cd_least_raised_at "least_raised_at" = true)
    (k_least_raised_at : PySem.W.keepIn K (.ref f_least_raised_at) = true)
    (a_check_mark : PySem.W.nsIn K mainGlobals "check_mark" = some (some (.ref f_check_mark)))
    (l_check_mark : K.lookup f_check_mark = some ⟨oc_check_mark, od_check_mark, .func (PySem.W.fnOf "check_mark" "check_mark" (defArgs s_check_mark) (defBody s_check_mark) (defScope s_check_mark) .none kV_check_mark dc_check_mark pm_check_mark an_check_mark cd_check_mark ct_check_mark), sl_check_mark⟩)
    (c_check_mark : PySem.W.codeIn K cd_check_mark "check_mark" = true)
    (k_check_mark : PySem.W.keepIn K (.ref f_check_mark) = true)
    (a_check_text : PySem.W.nsIn K mainGlobals "check_text" = some (some (.ref f_check_text)))
    (l_check_text : K.lookup f_check_text = some ⟨oc_check_text, od_check_text, .func (PySem.W.fnOf "check_text" "check_text" (defArgs s_check_text) (defBody s_check_text) (defScope s_check_text) .none kV_check_text dc_check_text pm_check_text an_check_text cd_check_text ct_check_text), sl_check_text⟩)
    (c_check_text : PySem.W.codeIn K cd_check_text "check_text" = true)
    (k_check_text : PySem.W.keepIn K (.ref f_check_text) = true)
    (a_check_row : PySem.W.nsIn K mainGlobals "check_row" = some (some (.ref f_check_row)))
    (l_check_row : K.lookup f_check_row = some ⟨oc_check_row, od_check_row, .func (PySem.W.fnOf "check_row" "check_row" (defArgs s_check_row) (defBody s_check_row) (defScope s_check_row) .none kV_check_row dc_check_row pm_check_row an_check_row cd_check_row ct_check_row), sl_check_row⟩)
    (c_check_row : PySem.W.codeIn K cd_check_row "check_row" = true)
    (k_check_row : PySem.W.keepIn K (.ref f_check_row) = true)
    (a_shortened : PySem.W.nsIn K mainGlobals "shortened" = some (some (.ref f_shortened)))
    (l_shortened : K.lookup f_shortened = some ⟨oc_shortened, od_shortened, .func (PySem.W.fnOf "shortened" "shortened" (defArgs s_shortened) (defBody s_shortened) (defScope s_shortened) .none kV_shortened dc_shortened pm_shortened an_shortened cd_shortened ct_shortened), sl_shortened⟩)
    (c_shortened : PySem.W.codeIn K cd_shortened "shortened" = true)
    (k_shortened : PySem.W.keepIn K (.ref f_shortened) = true)
    (a_shown_by : PySem.W.nsIn K mainGlobals "shown_by" = some (some (.ref f_shown_by)))
    (l_shown_by : K.lookup f_shown_by = some ⟨oc_shown_by, od_shown_by, .func (PySem.W.fnOf "shown_by" "shown_by" (defArgs s_shown_by) (defBody s_shown_by) (defScope s_shown_by) .none kV_shown_by dc_shown_by pm_shown_by an_shown_by cd_shown_by ct_shown_by), sl_shown_by⟩)
    (c_shown_by : PySem.W.codeIn K cd_shown_by "shown_by" = true)
    (k_shown_by : PySem.W.keepIn K (.ref f_shown_by) = true)
    (a_planned : PySem.W.nsIn K mainGlobals "planned" = some (some (.ref f_planned)))
    (l_planned : K.lookup f_planned = some ⟨oc_planned, od_planned, .func (PySem.W.fnOf "planned" "planned" (defArgs s_planned) (defBody s_planned) (defScope s_planned) .none kV_planned dc_planned pm_planned an_planned cd_planned ct_planned), sl_planned⟩)
    (c_planned : PySem.W.codeIn K cd_planned "planned" = true)
    (k_planned : PySem.W.keepIn K (.ref f_planned) = true)
    (a_telling_lengths : PySem.W.nsIn K mainGlobals "telling_lengths" = some (some (.ref f_telling_lengths)))
    (l_telling_lengths : K.lookup f_telling_lengths = some ⟨oc_telling_lengths, od_telling_lengths, .func (PySem.W.fnOf "telling_lengths" "telling_lengths" (defArgs s_telling_lengths) (defBody s_telling_lengths) (defScope s_telling_lengths) .none kV_telling_lengths dc_telling_lengths pm_telling_lengths an_telling_lengths cd_telling_lengths ct_telling_lengths), sl_telling_lengths⟩)
    (c_telling_lengths : PySem.W.codeIn K cd_telling_lengths "telling_lengths" = true)
    (k_telling_lengths : PySem.W.keepIn K (.ref f_telling_lengths) = true)
    (a_show : PySem.W.nsIn K mainGlobals "show" = some (some (.ref f_show)))
    (l_show : K.lookup f_show = some ⟨oc_show, od_show, .func (PySem.W.fnOf "show" "show" (defArgs s_show) (defBody s_show) (defScope s_show) .none kV_show dc_show pm_show an_show cd_show ct_show), sl_show⟩)
    (c_show : PySem.W.codeIn K cd_show "show" = true)
    (k_show : PySem.W.keepIn K (.ref f_show) = true)
    (a_widest : PySem.W.nsIn K mainGlobals "widest" = some (some (.ref f_widest)))
    (l_widest : K.lookup f_widest = some ⟨oc_widest, od_widest, .func (PySem.W.fnOf "widest" "widest" (defArgs s_widest) (defBody s_widest) (defScope s_widest) .none kV_widest dc_widest pm_widest an_widest cd_widest ct_widest), sl_widest⟩)
    (c_widest : PySem.W.codeIn K cd_widest "widest" = true)
    (k_widest : PySem.W.keepIn K (.ref f_widest) = true)
    (a_check_kind : PySem.W.nsIn K mainGlobals "check_kind" = some (some (.ref f_check_kind)))
    (l_check_kind : K.lookup f_check_kind = some ⟨oc_check_kind, od_check_kind, .func (PySem.W.fnOf "check_kind" "check_kind" (defArgs s_check_kind) (defBody s_check_kind) (defScope s_check_kind) .none kV_check_kind dc_check_kind pm_check_kind an_check_kind cd_check_kind ct_check_kind), sl_check_kind⟩)
    (c_check_kind : PySem.W.codeIn K cd_check_kind "check_kind" = true)
    (k_check_kind : PySem.W.keepIn K (.ref f_check_kind) = true)
    (a_member_of : PySem.W.nsIn K mainGlobals "member_of" = some (some (.ref f_member_of)))
    (l_member_of : K.lookup f_member_of = some ⟨oc_member_of, od_member_of, .func (PySem.W.fnOf "member_of" "member_of" (defArgs s_member_of) (defBody s_member_of) (defScope s_member_of) .none kV_member_of dc_member_of pm_member_of an_member_of cd_member_of ct_member_of), sl_member_of⟩)
    (c_member_of : PySem.W.codeIn K cd_member_of "member_of" = true)
    (k_member_of : PySem.W.keepIn K (.ref f_member_of) = true)
    (a_member : PySem.W.nsIn K mainGlobals "member" = some (some (.ref f_member)))
    (l_member : K.lookup f_member = some ⟨oc_member, od_member, .func (PySem.W.fnOf "member" "member" (defArgs s_member) (defBody s_member) (defScope s_member) .none kV_member dc_member pm_member an_member cd_member ct_member), sl_member⟩)
    (c_member : PySem.W.codeIn K cd_member "member" = true)
    (k_member : PySem.W.keepIn K (.ref f_member) = true)
    (a_filled_in : PySem.W.nsIn K mainGlobals "filled_in" = some (some (.ref f_filled_in)))
    (l_filled_in : K.lookup f_filled_in = some ⟨oc_filled_in, od_filled_in, .func (PySem.W.fnOf "filled_in" "filled_in" (defArgs s_filled_in) (defBody s_filled_in) (defScope s_filled_in) .none kV_filled_in dc_filled_in pm_filled_in an_filled_in cd_filled_in ct_filled_in), sl_filled_in⟩)
    (c_filled_in : PySem.W.codeIn K cd_filled_in "filled_in" = true)
    (k_filled_in : PySem.W.keepIn K (.ref f_filled_in) = true)
    (a_differing_places : PySem.W.nsIn K mainGlobals "differing_places" = some (some (.ref f_differing_places)))
    (l_differing_places : K.lookup f_differing_places = some ⟨oc_differing_places, od_differing_places, .func (PySem.W.fnOf "differing_places" "differing_places" (defArgs s_differing_places) (defBody s_differing_places) (defScope s_differing_places) .none kV_differing_places dc_differing_places pm_differing_places an_differing_places cd_differing_places ct_differing_places), sl_differing_places⟩)
    (c_differing_places : PySem.W.codeIn K cd_differing_places "differing_places" = true)
    (k_differing_places : PySem.W.keepIn K (.ref f_differing_places) = true)
    (a_least_difference : PySem.W.nsIn K mainGlobals "least_difference" = some (some (.ref f_least_difference)))
    (l_least_difference : K.lookup f_least_difference = some ⟨oc_least_difference, od_least_difference, .func (PySem.W.fnOf "least_difference" "least_difference" (defArgs s_least_difference) (defBody s_least_difference) (defScope s_least_difference) .none kV_least_difference dc_least_difference pm_least_difference an_least_difference cd_least_difference ct_least_difference), sl_least_difference⟩)
    (c_least_difference : PySem.W.codeIn K cd_least_difference "least_difference" = true)
    (k_least_difference : PySem.W.keepIn K (.ref f_least_difference) = true)
    (a_first_difference : PySem.W.nsIn K mainGlobals "first_difference" = some (some (.ref f_first_difference)))
    (l_first_difference : K.lookup f_first_difference = some ⟨oc_first_difference, od_first_difference, .func (PySem.W.fnOf "first_difference" "first_difference" (defArgs s_first_difference) (defBody s_first_difference) (defScope s_first_difference) .none kV_first_difference dc_first_difference pm_first_difference an_first_difference cd_first_difference ct_first_difference), sl_first_difference⟩)
    (c_first_difference : PySem.W.codeIn K cd_first_difference "first_difference" = true)
    (k_first_difference : PySem.W.keepIn K (.ref f_first_difference) = true)
    (a_first_unstable : PySem.W.nsIn K mainGlobals "first_unstable" = some (some (.ref f_first_unstable)))
    (l_first_unstable : K.lookup f_first_unstable = some ⟨oc_first_unstable, od_first_unstable, .func (PySem.W.fnOf "first_unstable" "first_unstable" (defArgs s_first_unstable) (defBody s_first_unstable) (defScope s_first_unstable) .none kV_first_unstable dc_first_unstable pm_first_unstable an_first_unstable cd_first_unstable ct_first_unstable), sl_first_unstable⟩)
    (c_first_unstable : PySem.W.codeIn K cd_first_unstable "first_unstable" = true)
    (k_first_unstable : PySem.W.keepIn K (.ref f_first_unstable) = true)
    (a_is_stable : PySem.W.nsIn K mainGlobals "is_stable" = some (some (.ref f_is_stable)))
    (l_is_stable : K.lookup f_is_stable = some ⟨oc_is_stable, od_is_stable, .func (PySem.W.fnOf "is_stable" "is_stable" (defArgs s_is_stable) (defBody s_is_stable) (defScope s_is_stable) .none kV_is_stable dc_is_stable pm_is_stable an_is_stable cd_is_stable ct_is_stable), sl_is_stable⟩)
    (c_is_stable : PySem.W.codeIn K cd_is_stable "is_stable" = true)
    (k_is_stable : PySem.W.keepIn K (.ref f_is_stable) = true)
    (a_law_pot : PySem.W.nsIn K mainGlobals "_law_pot" = some (some (.ref f_law_pot)))
    (l_law_pot : K.lookup f_law_pot = some ⟨oc_law_pot, od_law_pot, .func (PySem.W.fnOf "_law_pot" "_law_pot" (defArgs s_law_pot) (defBody s_law_pot) (defScope s_law_pot) .none kV_law_pot dc_law_pot pm_law_pot an_law_pot cd_law_pot ct_law_pot), sl_law_pot⟩)
    (c_law_pot : PySem.W.codeIn K cd_law_pot "_law_pot" = true)
    (k_law_pot : PySem.W.keepIn K (.ref f_law_pot) = true)
    (a_law_ladle : PySem.W.nsIn K mainGlobals "_law_ladle" = some (some (.ref f_law_ladle)))
    (l_law_ladle : K.lookup f_law_ladle = some ⟨oc_law_ladle, od_law_ladle, .func (PySem.W.fnOf "_law_ladle" "_law_ladle" (defArgs s_law_ladle) (defBody s_law_ladle) (defScope s_law_ladle) .none kV_law_ladle dc_law_ladle pm_law_ladle an_law_ladle cd_law_ladle ct_law_ladle), sl_law_ladle⟩)
    (c_law_ladle : PySem.W.codeIn K cd_law_ladle "_law_ladle" = true)
    (k_law_ladle : PySem.W.keepIn K (.ref f_law_ladle) = true)
    (a_law_one_of : PySem.W.nsIn K mainGlobals "_law_one_of" = some (some (.ref f_law_one_of)))
    (l_law_one_of : K.lookup f_law_one_of = some ⟨oc_law_one_of, od_law_one_of, .func (PySem.W.fnOf "_law_one_of" "_law_one_of" (defArgs s_law_one_of) (defBody s_law_one_of) (defScope s_law_one_of) .none kV_law_one_of dc_law_one_of pm_law_one_of an_law_one_of cd_law_one_of ct_law_one_of), sl_law_one_of⟩)
    (c_law_one_of : PySem.W.codeIn K cd_law_one_of "_law_one_of" = true)
    (k_law_one_of : PySem.W.keepIn K (.ref f_law_one_of) = true)
    (a_law_line : PySem.W.nsIn K mainGlobals "_law_line" = some (some (.ref f_law_line)))
    (l_law_line : K.lookup f_law_line = some ⟨oc_law_line, od_law_line, .func (PySem.W.fnOf "_law_line" "_law_line" (defArgs s_law_line) (defBody s_law_line) (defScope s_law_line) .none kV_law_line dc_law_line pm_law_line an_law_line cd_law_line ct_law_line), sl_law_line⟩)
    (c_law_line : PySem.W.codeIn K cd_law_line "_law_line" = true)
    (k_law_line : PySem.W.keepIn K (.ref f_law_line) = true)
    (a_law_right : PySem.W.nsIn K mainGlobals "_law_right" = some (some (.ref f_law_right)))
    (l_law_right : K.lookup f_law_right = some ⟨oc_law_right, od_law_right, .func (PySem.W.fnOf "_law_right" "_law_right" (defArgs s_law_right) (defBody s_law_right) (defScope s_law_right) .none kV_law_right dc_law_right pm_law_right an_law_right cd_law_right ct_law_right), sl_law_right⟩)
    (c_law_right : PySem.W.codeIn K cd_law_right "_law_right" = true)
    (k_law_right : PySem.W.keepIn K (.ref f_law_right) = true)
    (a_law : PySem.W.nsIn K mainGlobals "law" = some (some (.ref f_law)))
    (l_law : K.lookup f_law = some ⟨oc_law, od_law, .func (PySem.W.fnOf "law" "law" (defArgs s_law) (defBody s_law) (defScope s_law) .none kV_law dc_law pm_law an_law cd_law ct_law), sl_law⟩)
    (c_law : PySem.W.codeIn K cd_law "law" = true)
    (k_law : PySem.W.keepIn K (.ref f_law) = true)
    (qn : PySem.W.specialIn K (.builtin "object.__class__") "__get__" = some (some (.builtin "getset_descriptor.__get__")))
    (qt : PySem.W.takesIn K (.builtin "object.__class__") = some true)
    (asC : PySem.W.nsIn K mainGlobals "Shortener" = some (some (.ref C)))
    (a_is : PySem.W.findIn K (.ref C) "__init__" = some (some (.ref f_is)))
    (l_is : K.lookup f_is = some ⟨oc_is, od_is, .func (PySem.W.fnOf "__init__" "Shortener.__init__" (defArgs s_Shortener_init) (defBody s_Shortener_init) (defScope s_Shortener_init) .none kV_is dc_is pm_is an_is cd_is ct_is), sl_is⟩)
    (c_is : PySem.W.codeIn K cd_is "Shortener.__init__" = true)
    (k_is : PySem.W.keepIn K (.ref f_is) = true)
    (i_is : PySem.W.isFn K (.ref f_is) = true)
    (pgs : PySem.W.plainGet K C Str.empty = true)
    (hds : PySem.W.hasDictIn K C = true)
    (pos : PySem.W.plainOver K C = true)
    (sas : PySem.W.findIn K (.ref C) "__setattr__" = some (some (.builtin "object.__setattr__")))
    (mksC : PySem.W.makesIn K C = true)
    (ksC : PySem.W.keepIn K (.ref C) = true)
    (ns_limit : PySem.W.findIn K (.ref C) "limit" = some none)
    (ns_head : PySem.W.findIn K (.ref C) "head" = some none)
    (ns_tail : PySem.W.findIn K (.ref C) "tail" = some none)
    (ns_mark : PySem.W.findIn K (.ref C) "mark" = some none)
    (ns_told : PySem.W.findIn K (.ref C) "told" = some none)
    (qas : PySem.W.findIn K (.ref C) "__class__" = some (some (.builtin "object.__class__")))
    (qms : PySem.W.mroIn K C (.type "object") = some true)
    (a_q : PySem.W.findIn K (.ref C) "__eq__" = some (some (.ref f_q)))
    (l_q : K.lookup f_q = some ⟨oc_q, od_q, .func (PySem.W.fnOf "__eq__" "Shortener.__eq__" (defArgs s_Shortener_eq) (defBody s_Shortener_eq) (defScope s_Shortener_eq) .none kV_q dc_q pm_q an_q cd_q ct_q), sl_q⟩)
    (c_q : PySem.W.codeIn K cd_q "Shortener.__eq__" = true)
    (k_q : PySem.W.keepIn K (.ref f_q) = true)
    (i_q : PySem.W.isFn K (.ref f_q) = true)
    (a_p : PySem.W.findIn K (.ref C) "__repr__" = some (some (.ref f_p)))
    (l_p : K.lookup f_p = some ⟨oc_p, od_p, .func (PySem.W.fnOf "__repr__" "Shortener.__repr__" (defArgs s_Shortener_repr) (defBody s_Shortener_repr) (defScope s_Shortener_repr) .none kV_p dc_p pm_p an_p cd_p ct_p), sl_p⟩)
    (c_p : PySem.W.codeIn K cd_p "Shortener.__repr__" = true)
    (k_p : PySem.W.keepIn K (.ref f_p) = true)
    (i_p : PySem.W.isFn K (.ref f_p) = true)
    (o_ci : PySem.W.isClsIn K C = true)
    (o_ti : PySem.W.typeIn K (.ref C) = some (.type "type"))
    (o_ne : PySem.W.findIn K (.ref C) "__ne__" = some (some (.builtin "object.__ne__")))
    (o_nb : PySem.W.findIn K (.ref C) "__bool__" = some none)
    (o_nl : PySem.W.findIn K (.ref C) "__len__" = some none)
    (z_ValueError : PySem.W.nsIn K mainGlobals "ValueError" = some none)
    (z_abs : PySem.W.nsIn K mainGlobals "abs" = some none)
    (z_all : PySem.W.nsIn K mainGlobals "all" = some none)
    (z_bool : PySem.W.nsIn K mainGlobals "bool" = some none)
    (z_divmod : PySem.W.nsIn K mainGlobals "divmod" = some none)
    (z_enumerate : PySem.W.nsIn K mainGlobals "enumerate" = some none)
    (z_int : PySem.W.nsIn K mainGlobals "int" = some none)
    (z_isinstance : PySem.W.nsIn K mainGlobals "isinstance" = some none)
    (z_len : PySem.W.nsIn K mainGlobals "len" = some none)
    (z_list : PySem.W.nsIn K mainGlobals "list" = some none)
    (z_max : PySem.W.nsIn K mainGlobals "max" = some none)
    (z_min : PySem.W.nsIn K mainGlobals "min" = some none)
    (z_range : PySem.W.nsIn K mainGlobals "range" = some none)
    (z_str : PySem.W.nsIn K mainGlobals "str" = some none)
    (z_tuple : PySem.W.nsIn K mainGlobals "tuple" = some none)
    (z_zip : PySem.W.nsIn K mainGlobals "zip" = some none)
    (z_MOST_SIGNS : PySem.W.nsIn K mainGlobals "MOST_SIGNS" = some (some (.int 40 u_MOST_SIGNS)))
    (z_MOST_MARK : PySem.W.nsIn K mainGlobals "MOST_MARK" = some (some (.int 3 u_MOST_MARK)))
    (z_MOST_ROW : PySem.W.nsIn K mainGlobals "MOST_ROW" = some (some (.int 4 u_MOST_ROW)))
    (z_MOST_TEXT : PySem.W.nsIn K mainGlobals "MOST_TEXT" = some (some (.int 200 u_MOST_TEXT)))
    (z_SIGNS : PySem.W.nsIn K mainGlobals "SIGNS" = some (some (.str ".0123456789abcdefghijklmnopqrstuvwxyz~" u_SIGNS)))
    (z_KINDS : PySem.W.nsIn K mainGlobals "KINDS" = some (some (.ref T_KINDS)))
    (zl_KINDS : K.lookup T_KINDS = some ⟨.type "tuple", td_KINDS, .seq #[.str "end" e_KINDS_0, .str "start" e_KINDS_1, .str "middle" e_KINDS_2] tn_KINDS, ts_KINDS⟩) :
    ∃ fd : FuncData, (∀ (s : Shared) (v : Value), BindsTo s fd ⟨[v], []⟩ [("_law_script", v)]) ∧ ∀ base : Heap, K.In base → base.Ns mainGlobals mg → FnG l.prog w K mg base 8 fa fd ["_law_script"] (spLaw K) := by
  have e := hfa.symm.trans (PySem.W.mg_of X G a_law)
  cases e
  have B : Bi mg := ⟨PySem.W.mg_none_of X G z_ValueError, PySem.W.mg_none_of X G z_abs, PySem.W.mg_none_of X G z_all, PySem.W.mg_none_of X G z_bool, PySem.W.mg_none_of X G z_divmod, PySem.W.mg_none_of X G z_enumerate, PySem.W.mg_none_of X G z_int, PySem.W.mg_none_of X G z_isinstance, PySem.W.mg_none_of X G z_len, PySem.W.mg_none_of X G z_list, PySem.W.mg_none_of X G z_max, PySem.W.mg_none_of X G z_min, PySem.W.mg_none_of X G z_range, PySem.W.mg_none_of X G z_str, PySem.W.mg_none_of X G z_tuple, PySem.W.mg_none_of X G z_zip, cst_mk X G ⟨_, rfl⟩ z_MOST_SIGNS, cst_mk X G ⟨_, rfl⟩ z_MOST_MARK, cst_mk X G ⟨_, rfl⟩ z_MOST_ROW, cst_mk X G ⟨_, rfl⟩ z_MOST_TEXT, cst_mk X G ⟨_, rfl⟩ z_SIGNS⟩
  have T_KINDS : TupC K mg "KINDS" ["end", "start", "middle"] := ⟨⟨T_KINDS, PySem.W.mg_of X G z_KINDS, fun H => .inr ⟨_, _, _, zl_KINDS, rfl, rfl, by show 3 ≤ sizeLine; decide, (.cons ⟨_, rfl⟩ (.cons ⟨_, rfl⟩ (.cons ⟨_, rfl⟩ .nil)))⟩⟩⟩
  have Ss : ShC K mg C := ⟨⟨pgs, hds, pos, sas⟩, ns_limit, ns_head, ns_tail, ns_mark, ns_told, PySem.W.mg_of X G asC, qas, qn, qt, qms, if_pos (beq_self_eq_true _)⟩
  have Z : ShE K C := ⟨o_ci, o_ti, o_ne, o_nb, o_nl, qms, ⟨f_q, _, a_q, i_q, fun_mk l_q c_q k_q, (fun_mk l_q c_q k_q).binds fun _ _ _ _ _ _ us hl => match us, hl with | [_, _], _ => rfl⟩, ⟨f_p, _, a_p, i_p, fun_mk l_p c_p k_p, (fun_mk l_p c_p k_p).binds fun _ _ _ _ _ _ us hl => match us, hl with | [_], _ => rfl⟩⟩
  have Is : InitAt K C := ⟨f_is, _, ⟨mksC, a_is, i_is, ksC⟩, fun_mk l_is c_is k_is, (fun_mk l_is c_is k_is).binds fun _ _ _ _ _ _ us hl => match us, hl with | [_, _, _, _, _], _ => rfl⟩
  have A_is_integer : At K mg "is_integer" s_is_integer ps_is_integer := at_mk X G (fun _ _ _ _ _ _ us hl => match us, hl with | [_, _, _], _ => rfl) a_is_integer l_is_integer c_is_integer k_is_integer
  have A_is_tuple : At K mg "is_tuple" s_is_tuple ps_is_tuple := at_mk X G (fun _ _ _ _ _ _ us hl => match us, hl with | [_, _, _], _ => rfl) a_is_tuple l_is_tuple c_is_tuple k_is_tuple
  have A_is_text : At K mg "is_text" s_is_text ps_is_text := at_mk X G (fun _ _ _ _ _ _ us hl => match us, hl with | [_, _], _ => rfl) a_is_text l_is_text c_is_text k_is_text
  have A_least_raised_at : At K mg "least_raised_at" s_least_raised_at ps_least_raised_at := at_mk X G (fun _ _ _ _ _ _ us hl => match us, hl with | [_, _], _ => rfl) a_least_raised_at l_least_raised_at c_least_raised_at k_least_raised_at
  have A_check_mark : At K mg "check_mark" s_check_mark ps_check_mark := at_mk X G (fun _ _ _ _ _ _ us hl => match us, hl with | [_], _ => rfl) a_check_mark l_check_mark c_check_mark k_check_mark
  have A_check_text : At K mg "check_text" s_check_text ps_check_text := at_mk X G (fun _ _ _ _ _ _ us hl => match us, hl with | [_], _ => rfl) a_check_text l_check_text c_check_text k_check_text
  have A_check_row : At K mg "check_row" s_check_row ps_check_row := at_mk X G (fun _ _ _ _ _ _ us hl => match us, hl with | [_], _ => rfl) a_check_row l_check_row c_check_row k_check_row
  have A_shortened : At K mg "shortened" s_shortened ps_shortened := at_mk X G (fun _ _ _ _ _ _ us hl => match us, hl with | [_, _, _], _ => rfl) a_shortened l_shortened c_shortened k_shortened
  have A_shown_by : At K mg "shown_by" s_shown_by ps_shown_by := at_mk X G (fun _ _ _ _ _ _ us hl => match us, hl with | [_, _], _ => rfl) a_shown_by l_shown_by c_shown_by k_shown_by
  have A_planned : At K mg "planned" s_planned ps_planned := at_mk X G (fun _ _ _ _ _ _ us hl => match us, hl with | [_, _], _ => rfl) a_planned l_planned c_planned k_planned
  have A_telling_lengths : At K mg "telling_lengths" s_telling_lengths ps_telling_lengths := at_mk X G (fun _ _ _ _ _ _ us hl => match us, hl with | [], _ => rfl) a_telling_lengths l_telling_lengths c_telling_lengths k_telling_lengths
  have A_show : At K mg "show" s_show ps_show := at_mk X G (fun _ _ _ _ _ _ us hl => match us, hl with | [_, _], _ => rfl) a_show l_show c_show k_show
  have A_widest : At K mg "widest" s_widest ps_widest := at_mk X G (fun _ _ _ _ _ _ us hl => match us, hl with | [_], _ => rfl) a_widest l_widest c_widest k_widest
  have A_check_kind : At K mg "check_kind" s_check_kind ps_check_kind := at_mk X G (fun _ _ _ _ _ _ us hl => match us, hl with | [_], _ => rfl) a_check_kind l_check_kind c_check_kind k_check_kind
  have A_member_of : At K mg "member_of" s_member_of ps_member_of := at_mk X G (fun _ _ _ _ _ _ us hl => match us, hl with | [_, _, _], _ => rfl) a_member_of l_member_of c_member_of k_member_of
  have A_member : At K mg "member" s_member ps_member := at_mk X G (fun _ _ _ _ _ _ us hl => match us, hl with | [_, _, _], _ => rfl) a_member l_member c_member k_member
  have A_filled_in : At K mg "filled_in" s_filled_in ps_filled_in := at_mk X G (fun _ _ _ _ _ _ us hl => match us, hl with | [_, _], _ => rfl) a_filled_in l_filled_in c_filled_in k_filled_in
  have A_differing_places : At K mg "differing_places" s_differing_places ps_differing_places := at_mk X G (fun _ _ _ _ _ _ us hl => match us, hl with | [_, _], _ => rfl) a_differing_places l_differing_places c_differing_places k_differing_places
  have A_least_difference : At K mg "least_difference" s_least_difference ps_least_difference := at_mk X G (fun _ _ _ _ _ _ us hl => match us, hl with | [_, _, _], _ => rfl) a_least_difference l_least_difference c_least_difference k_least_difference
  have A_first_difference : At K mg "first_difference" s_first_difference ps_first_difference := at_mk X G (fun _ _ _ _ _ _ us hl => match us, hl with | [_, _], _ => rfl) a_first_difference l_first_difference c_first_difference k_first_difference
  have A_first_unstable : At K mg "first_unstable" s_first_unstable ps_first_unstable := at_mk X G (fun _ _ _ _ _ _ us hl => match us, hl with | [_], _ => rfl) a_first_unstable l_first_unstable c_first_unstable k_first_unstable
  have A_is_stable : At K mg "is_stable" s_is_stable ps_is_stable := at_mk X G (fun _ _ _ _ _ _ us hl => match us, hl with | [_], _ => rfl) a_is_stable l_is_stable c_is_stable k_is_stable
  have A_law_pot : At K mg "_law_pot" s_law_pot ps_law_pot := at_mk X G (fun _ _ _ _ _ _ us hl => match us, hl with | [_, _], _ => rfl) a_law_pot l_law_pot c_law_pot k_law_pot
  have A_law_ladle : At K mg "_law_ladle" s_law_ladle ps_law_ladle := at_mk X G (fun _ _ _ _ _ _ us hl => match us, hl with | [_, _], _ => rfl) a_law_ladle l_law_ladle c_law_ladle k_law_ladle
  have A_law_one_of : At K mg "_law_one_of" s_law_one_of ps_law_one_of := at_mk X G (fun _ _ _ _ _ _ us hl => match us, hl with | [_, _], _ => rfl) a_law_one_of l_law_one_of c_law_one_of k_law_one_of
  have A_law_line : At K mg "_law_line" s_law_line ps_law_line := at_mk X G (fun _ _ _ _ _ _ us hl => match us, hl with | [_, _], _ => rfl) a_law_line l_law_line c_law_line k_law_line
  have A_law_right : At K mg "_law_right" s_law_right ps_law_right := at_mk X G (fun _ _ _ _ _ _ us hl => match us, hl with | [_], _ => rfl) a_law_right l_law_right c_law_right k_law_right
  exact ⟨_, fun s v => .of_eq rfl, fun base _ _ => fin B T_KINDS Ss Is Z A_is_integer A_is_tuple A_is_text A_least_raised_at A_check_mark A_check_text A_check_row A_shortened A_shown_by A_planned A_telling_lengths A_show A_widest A_check_kind A_member_of A_member A_filled_in A_differing_places A_least_difference A_first_difference A_first_unstable A_is_stable A_law_pot A_law_ladle A_law_one_of A_law_line A_law_right (fun_mk l_law c_law k_law)⟩
end Gu
open PySem PySem.W PyProof.Rows
set_option maxHeartbeats 0 in
theorem PySem.Challenge.cw_shownshort_k26_whole_members_of_families_holds : PySem.Challenge.rw_shownshort_k26_whole_members_of_families.Holds := by
  w_on; o_law; k_head; (case hw => w_witness2)
  k_fill
  refine Gu.walkG (l := PySem.Challenge.rw_shownshort_k26_whole_members_of_families) (n := 63) (k := 8) (x := "_law_script") (sp := Gu.spLaw) rfl (by decide) rfl ⟨rfl, by decide, by decide⟩ (fun w h Y => PySem.W.kIn_of Y) ?F (fun _ _ a ns hl hS => ⟨a, ns, rfl, hS, hl, fun _ => rfl⟩)
  case F =>
    intro w mg fa h KX G hmg
    refine' Gu.all_mk KX G hmg ?a_is_integer ?l_is_integer ?c_is_integer ?k_is_integer ?a_is_tuple ?l_is_tuple ?c_is_tuple ?k_is_tuple ?a_is_text ?l_is_text ?c_is_text ?k_is_text ?a_least_raised_at ?l_least_raised_at ?c_least_raised_at ?k_least_raised_at ?a_check_mark ?l_check_mark ?c_check_mark ?k_check_mark ?a_check_text ?l_check_text ?c_check_text ?k_check_text ?a_check_row ?l_check_row ?c_check_row ?k_check_row ?a_shortened ?l_shortened ?c_shortened ?k_shortened ?a_shown_by ?l_shown_by ?c_shown_by ?k_shown_by ?a_planned ?l_planned ?c_planned ?k_planned ?a_telling_lengths ?l_telling_lengths ?c_telling_lengths ?k_telling_lengths ?a_show ?l_show ?c_show ?k_show ?a_widest ?l_widest ?c_widest ?k_widest ?a_check_kind ?l_check_kind ?c_check_kind ?k_check_kind ?a_member_of ?l_member_of ?c_member_of ?k_member_of ?a_member ?l_member ?c_member ?k_member ?a_filled_in ?l_filled_in ?c_filled_in ?k_filled_in ?a_differing_places ?l_differing_places ?c_differing_places ?k_differing_places ?a_least_difference ?l_least_difference ?c_least_difference ?k_least_difference ?a_first_difference ?l_first_difference ?c_first_difference ?k_first_difference ?a_first_unstable ?l_first_unstable ?c_first_unstable ?k_first_unstable ?a_is_stable ?l_is_stable ?c_is_stable ?k_is_stable ?a_law_pot ?l_law_pot ?c_law_pot ?k_law_pot ?a_law_ladle ?l_law_ladle ?c_law_ladle ?k_law_ladle ?a_law_one_of ?l_law_one_of ?c_law_one_of ?k_law_one_of ?a_law_line ?l_law_line ?c_law_line ?k_law_line ?a_law_right ?l_law_right ?c_law_right ?k_law_right ?a_law ?l_law ?c_law ?k_law ?qn ?qt ?asC ?a_is ?l_is ?c_is ?k_is ?i_is ?pgs ?hds ?pos ?sas ?mksC ?ksC ?ns_limit ?ns_head ?ns_tail ?ns_mark ?ns_told ?qas ?qms ?a_q ?l_q ?c_q ?k_q ?i_q ?a_p ?l_p ?c_p ?k_p ?i_p ?o_ci ?o_ti ?o_ne ?o_nb ?o_nl ?z_ValueError ?z_abs ?z_all ?z_bool ?z_divmod ?z_enumerate ?z_int ?z_isinstance ?z_len ?z_list ?z_max ?z_min ?z_range ?z_str ?z_tuple ?z_zip ?z_MOST_SIGNS ?z_MOST_MARK ?z_MOST_ROW ?z_MOST_TEXT ?z_SIGNS ?z_KINDS ?zl_KINDS
    (case a_is_integer => k_is)
    (case l_is_integer => k_is)
    (case c_is_integer => k_is)
    (case k_is_integer => k_is)
    (case a_is_tuple => k_is)
    (case l_is_tuple => k_is)
    (case c_is_tuple => k_is)
    (case k_is_tuple => k_is)
    (case a_is_text => k_is)
    (case l_is_text => k_is)
    (case c_is_text => k_is)
    (case k_is_text => k_is)
    (case a_least_raised_at => k_is)
    (case l_least_raised_at => k_is)
    (case c_least_raised_at => k_is)
    (case k_least_raised_at => k_is)
    (case a_check_mark => k_is)
    (case l_check_mark => k_is)
    (case c_check_mark => k_is)
    (case k_check_mark => k_is)
    (case a_check_text => k_is)
    (case l_check_text => k_is)
    (case c_check_text => k_is)
    (case k_check_text => k_is)
    (case a_check_row => k_is)
    (case l_check_row => k_is)
    (case c_check_row => k_is)
    (case k_check_row => k_is)
    (case a_shortened => k_is)
    (case l_shortened => k_is)
    (case c_shortened => k_is)
    (case k_shortened => k_is)
    (case a_shown_by => k_is)
    (case l_shown_by => k_is)
    (case c_shown_by => k_is)
    (case k_shown_by => k_is)
    (case a_planned => k_is)
    (case l_planned => k_is)
    (case c_planned => k_is)
    (case k_planned => k_is)
    (case a_telling_lengths => k_is)
    (case l_telling_lengths => k_is)
    (case c_telling_lengths => k_is)
    (case k_telling_lengths => k_is)
    (case a_show => k_is)
    (case l_show => k_is)
    (case c_show => k_is)
    (case k_show => k_is)
    (case a_widest => k_is)
    (case l_widest => k_is)
    (case c_widest => k_is)
    (case k_widest => k_is)
    (case a_check_kind => k_is)
    (case l_check_kind => k_is)
    (case c_check_kind => k_is)
    (case k_check_kind => k_is)
    (case a_member_of => k_is)
    (case l_member_of => k_is)
    (case c_member_of => k_is)
    (case k_member_of => k_is)
    (case a_member => k_is)
    (case l_member => k_is)
    (case c_member => k_is)
    (case k_member => k_is)
    (case a_filled_in => k_is)
    (case l_filled_in => k_is)
    (case c_filled_in => k_is)
    (case k_filled_in => k_is)
    (case a_differing_places => k_is)
    (case l_differing_places => k_is)
    (case c_differing_places => k_is)
    (case k_differing_places => k_is)
    (case a_least_difference => k_is)
    (case l_least_difference => k_is)
    (case c_least_difference => k_is)
    (case k_least_difference => k_is)
    (case a_first_difference => k_is)
    (case l_first_difference => k_is)
    (case c_first_difference => k_is)
    (case k_first_difference => k_is)
    (case a_first_unstable => k_is)
    (case l_first_unstable => k_is)
    (case c_first_unstable => k_is)
    (case k_first_unstable => k_is)
    (case a_is_stable => k_is)
    (case l_is_stable => k_is)
    (case c_is_stable => k_is)
    (case k_is_stable => k_is)
    (case a_law_pot => k_is)
    (case l_law_pot => k_is)
    (case c_law_pot => k_is)
    (case k_law_pot => k_is)
    (case a_law_ladle => k_is)
    (case l_law_ladle => k_is)
    (case c_law_ladle => k_is)
    (case k_law_ladle => k_is)
    (case a_law_one_of => k_is)
    (case l_law_one_of => k_is)
    (case c_law_one_of => k_is)
    (case k_law_one_of => k_is)
    (case a_law_line => k_is)
    (case l_law_line => k_is)
    (case c_law_line => k_is)
    (case k_law_line => k_is)
    (case a_law_right => k_is)
    (case l_law_right => k_is)
    (case c_law_right => k_is)
    (case k_law_right => k_is)
    (case a_law => k_is)
    (case l_law => k_is)
    (case c_law => k_is)
    (case k_law => k_is)
    (case qn => k_is)
    (case qt => k_is)
    (case asC => k_is)
    (case a_is => k_is)
    (case l_is => k_is)
    (case c_is => k_is)
    (case k_is => k_is)
    (case i_is => k_is)
    (case pgs => k_is)
    (case hds => k_is)
    (case pos => k_is)
    (case sas => k_is)
    (case mksC => k_is)
    (case ksC => k_is)
    (case ns_limit => k_is)
    (case ns_head => k_is)
    (case ns_tail => k_is)
    (case ns_mark => k_is)
    (case ns_told => k_is)
    (case qas => k_is)
    (case qms => k_is)
    (case a_q => k_is)
    (case l_q => k_is)
    (case c_q => k_is)
    (case k_q => k_is)
    (case i_q => k_is)
    (case a_p => k_is)
    (case l_p => k_is)
    (case c_p => k_is)
    (case k_p => k_is)
    (case i_p => k_is)
    (case o_ci => k_is)
    (case o_ti => k_is)
    (case o_ne => k_is)
    (case o_nb => k_is)
    (case o_nl => k_is)
    (case z_ValueError => k_is)
    (case z_abs => k_is)
    (case z_all => k_is)
    (case z_bool => k_is)
    (case z_divmod => k_is)
    (case z_enumerate => k_is)
    (case z_int => k_is)
    (case z_isinstance => k_is)
    (case z_len => k_is)
    (case z_list => k_is)
    (case z_max => k_is)
    (case z_min => k_is)
    (case z_range => k_is)
    (case z_str => k_is)
    (case z_tuple => k_is)
    (case z_zip => k_is)
    (case z_MOST_SIGNS => k_is)
    (case z_MOST_MARK => k_is)
    (case z_MOST_ROW => k_is)
    (case z_MOST_TEXT => k_is)
    (case z_SIGNS => k_is)
    (case z_KINDS => k_is)
    (case zl_KINDS => k_is)
