import PyProof.Rows.All
import Wide.All
import OpenK.AllK
import Wide.FinOn
import HandS.Base
import HandS.Call
import HandS.List
import HandS.Comp
import HandS.Ends
import HandS.Dict
import HandS.Iter
import HandS.Text
import HandS.Words
import HandS.WordsList
import HandS.WordsDict
import HandS.Conv
import HandS.Walk
import HandS.IsInst
import HandS.MakeKw
import HandS.MakeKwOnly
import HandS.Flow
import HandS.TupAny
import HandS.TupMul
import HandS.FStr
import HandS.Zip
import HandS.Style
import HandS.Codes
import HandS.TupLe
import HandS.SetKeys
import HandS.Strs
import HandS.SetFor
import HandS.Deep
import HandS.SortInts
import HandS.More
import HandS.CallLocal
import HandS.HeadHook3
import HandS.Exc
import HandS.TryOnly
import HandS.TryMany
import HandS.WordsExc
import HandS.ExcField
import HandS.ExcIs
import HandS.ExcInit
import HandS.Lambda
import KE.KExcInit
import KE.KExcIs
import PyProof.ExcBaseAll.LookupError
import PyProof.ExcBaseAll.ArithmeticError
import KE.GoesMore
import KE.GoesZip
import PyProof.TupleOfStr
import PySem.Challenge.RW_shownshort_k30_lists_refused
set_option Elab.async false
set_option linter.all false
set_option maxRecDepth 100000
namespace Gu
open PySem PySem.Spec PyProof.Rows L2
/-! the text, by places -/
def topS (i : Nat) : Stmt := PySem.Challenge.pw_shownshort_k30_lists_refused.main.body.getD i (.Pass ⟨0, 0, 0, 0⟩)
abbrev s_InvalidNumber_init : Stmt := inClass (topS 2) 0
abbrev ps_InvalidNumber_init : List Str := ["self", "value"]
theorem sc_InvalidNumber_init : FnScope ["self", "value"] ps_InvalidNumber_init (defScope s_InvalidNumber_init) := ⟨rfl, rfl, rfl, by decide +kernel, rfl, by decide +kernel, by decide +kernel⟩
abbrev s_InvalidMark_init : Stmt := inClass (topS 3) 0
abbrev ps_InvalidMark_init : List Str := ["self", "value"]
theorem sc_InvalidMark_init : FnScope ["self", "value"] ps_InvalidMark_init (defScope s_InvalidMark_init) := ⟨rfl, rfl, rfl, by decide +kernel, rfl, by decide +kernel, by decide +kernel⟩
abbrev s_InvalidRule_init : Stmt := inClass (topS 4) 0
abbrev ps_InvalidRule_init : List Str := ["self", "value"]
theorem sc_InvalidRule_init : FnScope ["self", "value"] ps_InvalidRule_init (defScope s_InvalidRule_init) := ⟨rfl, rfl, rfl, by decide +kernel, rfl, by decide +kernel, by decide +kernel⟩
abbrev s_InvalidWidth_init : Stmt := inClass (topS 5) 0
abbrev ps_InvalidWidth_init : List Str := ["self", "value"]
theorem sc_InvalidWidth_init : FnScope ["self", "value"] ps_InvalidWidth_init (defScope s_InvalidWidth_init) := ⟨rfl, rfl, rfl, by decide +kernel, rfl, by decide +kernel, by decide +kernel⟩
abbrev s_InvalidRow_init : Stmt := inClass (topS 6) 0
abbrev ps_InvalidRow_init : List Str := ["self", "index"]
theorem sc_InvalidRow_init : FnScope ["self", "index"] ps_InvalidRow_init (defScope s_InvalidRow_init) := ⟨rfl, rfl, rfl, by decide +kernel, rfl, by decide +kernel, by decide +kernel⟩
abbrev s_InvalidTexts_init : Stmt := inClass (topS 7) 0
abbrev ps_InvalidTexts_init : List Str := ["self", "index"]
theorem sc_InvalidTexts_init : FnScope ["self", "index"] ps_InvalidTexts_init (defScope s_InvalidTexts_init) := ⟨rfl, rfl, rfl, by decide +kernel, rfl, by decide +kernel, by decide +kernel⟩
abbrev s_is_integer : Stmt := topS 14
abbrev ps_is_integer : List Str := ["value", "least", "most"]
theorem sc_is_integer : FnScope ["value", "least", "most"] ps_is_integer (defScope s_is_integer) := ⟨rfl, rfl, rfl, by decide +kernel, rfl, by decide +kernel, by decide +kernel⟩
abbrev s_is_tuple : Stmt := topS 15
abbrev ps_is_tuple : List Str := ["value", "least", "most"]
theorem sc_is_tuple : FnScope ["value", "least", "most"] ps_is_tuple (defScope s_is_tuple) := ⟨rfl, rfl, rfl, by decide +kernel, rfl, by decide +kernel, by decide +kernel⟩
abbrev s_is_text : Stmt := topS 16
abbrev ps_is_text : List Str := ["value", "most"]
theorem sc_is_text : FnScope ["value", "most", "character"] ps_is_text (defScope s_is_text) := ⟨rfl, rfl, rfl, by decide +kernel, rfl, by decide +kernel, by decide +kernel⟩
abbrev s_check_mark : Stmt := topS 17
abbrev ps_check_mark : List Str := ["mark"]
theorem sc_check_mark : FnScope ["mark"] ps_check_mark (defScope s_check_mark) := ⟨rfl, rfl, rfl, by decide +kernel, rfl, by decide +kernel, by decide +kernel⟩
abbrev s_check_texts : Stmt := topS 18
abbrev ps_check_texts : List Str := ["texts", "most"]
theorem sc_check_texts : FnScope ["texts", "most", "place", "text"] ps_check_texts (defScope s_check_texts) := ⟨rfl, rfl, rfl, by decide +kernel, rfl, by decide +kernel, by decide +kernel⟩
abbrev s_Shortener_init : Stmt := inClass (topS 20) 0
abbrev ps_Shortener_init : List Str := ["self", "limit", "head", "tail", "mark"]
theorem sc_Shortener_init : FnScope ["self", "limit", "head", "tail", "mark", "number"] ps_Shortener_init (defScope s_Shortener_init) := ⟨rfl, rfl, rfl, by decide +kernel, rfl, by decide +kernel, by decide +kernel⟩
abbrev s_Shortener_eq : Stmt := inClass (topS 20) 1
abbrev ps_Shortener_eq : List Str := ["self", "other"]
theorem sc_Shortener_eq : FnScope ["self", "other"] ps_Shortener_eq (defScope s_Shortener_eq) := ⟨rfl, rfl, rfl, by decide +kernel, rfl, by decide +kernel, by decide +kernel⟩
abbrev s_Shortener_repr : Stmt := inClass (topS 20) 2
abbrev ps_Shortener_repr : List Str := ["self"]
theorem sc_Shortener_repr : FnScope ["self"] ps_Shortener_repr (defScope s_Shortener_repr) := ⟨rfl, rfl, rfl, by decide +kernel, rfl, by decide +kernel, by decide +kernel⟩
abbrev s_check_row : Stmt := topS 21
abbrev ps_check_row : List Str := ["row"]
theorem sc_check_row : FnScope ["row", "place", "shortener"] ps_check_row (defScope s_check_row) := ⟨rfl, rfl, rfl, by decide +kernel, rfl, by decide +kernel, by decide +kernel⟩
abbrev s_shortened : Stmt := topS 22
abbrev ps_shortened : List Str := ["shortener", "whole", "mark"]
theorem sc_shortened : FnScope ["shortener", "whole", "mark", "tail_start"] ps_shortened (defScope s_shortened) := ⟨rfl, rfl, rfl, by decide +kernel, rfl, by decide +kernel, by decide +kernel⟩
abbrev s_shown_by : Stmt := topS 23
abbrev ps_shown_by : List Str := ["row", "text"]
theorem sc_shown_by : FnScope ["row", "text", "shown", "shortener"] ps_shown_by (defScope s_shown_by) := ⟨rfl, rfl, rfl, by decide +kernel, rfl, by decide +kernel, by decide +kernel⟩
abbrev s_check_kind : Stmt := topS 27
abbrev ps_check_kind : List Str := ["kind"]
theorem sc_check_kind : FnScope ["kind"] ps_check_kind (defScope s_check_kind) := ⟨rfl, rfl, rfl, by decide +kernel, rfl, by decide +kernel, by decide +kernel⟩
abbrev s_is_seen : Stmt := topS 28
abbrev ps_is_seen : List Str := ["value"]
theorem sc_is_seen : FnScope ["value"] ps_is_seen (defScope s_is_seen) := ⟨rfl, rfl, rfl, by decide +kernel, rfl, by decide +kernel, by decide +kernel⟩
abbrev s_check_seen : Stmt := topS 29
abbrev ps_check_seen : List Str := ["seen"]
theorem sc_check_seen : FnScope ["seen", "place", "pair"] ps_check_seen (defScope s_check_seen) := ⟨rfl, rfl, rfl, by decide +kernel, rfl, by decide +kernel, by decide +kernel⟩
abbrev s_widths_of : Stmt := topS 30
abbrev ps_widths_of : List Str := ["mark"]
theorem sc_widths_of : FnScope ["mark"] ps_widths_of (defScope s_widths_of) := ⟨rfl, rfl, rfl, by decide +kernel, rfl, by decide +kernel, by decide +kernel⟩
abbrev s_member_of : Stmt := topS 31
abbrev ps_member_of : List Str := ["kind", "mark", "width"]
theorem sc_member_of : FnScope ["kind", "mark", "width", "left"] ps_member_of (defScope s_member_of) := ⟨rfl, rfl, rfl, by decide +kernel, rfl, by decide +kernel, by decide +kernel⟩
abbrev s_separates : Stmt := topS 32
abbrev ps_separates : List Str := ["row", "texts"]
theorem sc_separates : FnScope ["row", "texts", "text"] ps_separates (defScope s_separates) := ⟨rfl, rfl, rfl, by decide +kernel, rfl, by decide +kernel, by decide +kernel⟩
abbrev s_has_shown : Stmt := topS 33
abbrev ps_has_shown : List Str := ["row", "seen"]
theorem sc_has_shown : FnScope ["row", "seen", "text", "shown"] ps_has_shown (defScope s_has_shown) := ⟨rfl, rfl, rfl, by decide +kernel, rfl, by decide +kernel, by decide +kernel⟩
abbrev s_member : Stmt := topS 34
abbrev ps_member : List Str := ["kind", "mark", "width"]
theorem sc_member : FnScope ["kind", "mark", "width"] ps_member (defScope s_member) := ⟨rfl, rfl, rfl, by decide +kernel, rfl, by decide +kernel, by decide +kernel⟩
abbrev s_groups : Stmt := topS 35
abbrev ps_groups : List Str := ["row", "texts"]
theorem sc_groups : FnScope ["row", "texts", "places", "place", "text", "shared"] ps_groups (defScope s_groups) := ⟨rfl, rfl, rfl, by decide +kernel, rfl, by decide +kernel, by decide +kernel⟩
abbrev s_tells_apart : Stmt := topS 36
abbrev ps_tells_apart : List Str := ["row", "texts"]
theorem sc_tells_apart : FnScope ["row", "texts"] ps_tells_apart (defScope s_tells_apart) := ⟨rfl, rfl, rfl, by decide +kernel, rfl, by decide +kernel, by decide +kernel⟩
abbrev s_widths : Stmt := topS 37
abbrev ps_widths : List Str := ["kind", "mark", "texts"]
theorem sc_widths : FnScope ["kind", "mark", "texts", "width"] ps_widths (defScope s_widths) := ⟨rfl, rfl, rfl, by decide +kernel, rfl, by decide +kernel, by decide +kernel⟩
abbrev s_narrowest : Stmt := topS 38
abbrev ps_narrowest : List Str := ["kind", "mark", "texts"]
theorem sc_narrowest : FnScope ["kind", "mark", "texts", "found"] ps_narrowest (defScope s_narrowest) := ⟨rfl, rfl, rfl, by decide +kernel, rfl, by decide +kernel, by decide +kernel⟩
abbrev s_fitting : Stmt := topS 39
abbrev ps_fitting : List Str := ["mark", "seen"]
theorem sc_fitting : FnScope ["mark", "seen", "tried", "kind", "width"] ps_fitting (defScope s_fitting) := ⟨rfl, rfl, rfl, by decide +kernel, rfl, by decide +kernel, by decide +kernel⟩
abbrev s_law_pot : Stmt := topS 41
abbrev ps_law_pot : List Str := ["_law_script", "_law_k"]
theorem sc_law_pot : FnScope ["_law_script", "_law_k", "_law_own", "_law_mixed", "_law_entry"] ps_law_pot (defScope s_law_pot) := ⟨rfl, rfl, rfl, by decide +kernel, rfl, by decide +kernel, by decide +kernel⟩
abbrev s_law_ladle : Stmt := topS 42
abbrev ps_law_ladle : List Str := ["_law_pot_here", "_law_many"]
theorem sc_law_ladle : FnScope ["_law_pot_here", "_law_many", "_law_digit"] ps_law_ladle (defScope s_law_ladle) := ⟨rfl, rfl, rfl, by decide +kernel, rfl, by decide +kernel, by decide +kernel⟩
abbrev s_law_one_of : Stmt := topS 43
abbrev ps_law_one_of : List Str := ["_law_pot_here", "_law_some"]
theorem sc_law_one_of : FnScope ["_law_pot_here", "_law_some"] ps_law_one_of (defScope s_law_one_of) := ⟨rfl, rfl, rfl, by decide +kernel, rfl, by decide +kernel, by decide +kernel⟩
abbrev s_law_ended : Stmt := topS 44
abbrev ps_law_ended : List Str := ["_law_ask"]
theorem sc_law_ended : FnScope ["_law_ask", "_law_given", "e"] ps_law_ended (defScope s_law_ended) := ⟨rfl, rfl, rfl, by decide +kernel, rfl, by decide +kernel, by decide +kernel⟩
abbrev s_law_bad_list : Stmt := topS 45
abbrev ps_law_bad_list : List Str := ["_law_pot_here"]
theorem sc_law_bad_list : FnScope ["_law_pot_here", "_law_some"] ps_law_bad_list (defScope s_law_bad_list) := ⟨rfl, rfl, rfl, by decide +kernel, rfl, by decide +kernel, by decide +kernel⟩
abbrev s_law_bad_pairs : Stmt := topS 46
abbrev ps_law_bad_pairs : List Str := ["_law_pot_here"]
theorem sc_law_bad_pairs : FnScope ["_law_pot_here", "_law_good", "_law_some"] ps_law_bad_pairs (defScope s_law_bad_pairs) := ⟨rfl, rfl, rfl, by decide +kernel, rfl, by decide +kernel, by decide +kernel⟩
abbrev s_law_right : Stmt := topS 47
abbrev ps_law_right : List Str := ["_law_pot_here"]
theorem sc_law_right : FnScope ["_law_pot_here", "_law_bad", "_law_odd", "_law_wide", "_law_lines", "_law_spot", "_law_pairs_here", "_law_late", "_law_one", "_law_seen", "_law_due", "_law_ask", "_law_told_here"] ps_law_right (defScope s_law_right) := ⟨rfl, rfl, rfl, by decide +kernel, rfl, by decide +kernel, by decide +kernel⟩
abbrev s_law : Stmt := topS 48
abbrev ps_law : List Str := ["_law_script"]
theorem sc_law : FnScope ["_law_script", "_law_k"] ps_law (defScope s_law) := ⟨rfl, rfl, rfl, by decide +kernel, rfl, by decide +kernel, by decide +kernel⟩
/-- names that the module leaves to Python -/
structure Bi (mg : Str → Option Value) : Prop where
  ValueError : mg "ValueError" = none
  abs : mg "abs" = none
  all : mg "all" = none
  bool : mg "bool" = none
  divmod : mg "divmod" = none
  enumerate : mg "enumerate" = none
  int : mg "int" = none
  isinstance : mg "isinstance" = none
  len : mg "len" = none
  list : mg "list" = none
  max : mg "max" = none
  min : mg "min" = none
  range : mg "range" = none
  repr : mg "repr" = none
  set : mg "set" = none
  str : mg "str" = none
  tuple : mg "tuple" = none
  MOST_SIGNS : ∃ u, mg "MOST_SIGNS" = some u ∧ RelV (.int 40) u
  MOST_MARK : ∃ u, mg "MOST_MARK" = some u ∧ RelV (.int 3) u
  MOST_ROW : ∃ u, mg "MOST_ROW" = some u ∧ RelV (.int 4) u
  MOST_TEXT : ∃ u, mg "MOST_TEXT" = some u ∧ RelV (.int 200) u
  SIGNS : ∃ u, mg "SIGNS" = some u ∧ RelV (.str ".0123456789abcdefghijklmnopqrstuvwxyz~") u
  MOST_TEXTS : ∃ u, mg "MOST_TEXTS" = some u ∧ RelV (.int 20) u
end Gu
namespace Gu
open PySem PySem.Spec PyProof.Rows L2
/-! cuts -/
/-- from a middle state on -/
def tHalt (t u : TS) : TS := fun D σ H => ∃ M : L2.St → Hp → Prop, t { D with nx := M } σ H ∧ ∀ σ1 H1, M σ1 H1 → u D σ1 H1
/-! defs as they stand behind the top -/
structure At (K : PySem.W.Frag) (mg : Str → Option Value) (x : Str) (st : Stmt) (ps : List Str) : Prop where
  ex : ∃ (f : Addr) (fd : FuncData), Fun K x x st f fd ∧ Binds K fd ps [] ∧ mg x = some (.ref f)
structure Cal (P : Program) (w : World) (K : PySem.W.Frag) (mg : Str → Option Value) (base : Heap) (k : Nat) (x : Str) (ps : List Str) (sp : Sp) : Prop where
  ex : ∃ (f : Addr) (fd : FuncData), FnOk P w K mg base CX0 k f fd ps sp ∧ mg x = some (.ref f) ∧ PySem.W.keepIn K (.ref f) = true ∧ Binds K fd ps [] ∧ ∃ oc od sl, K.lookup f = some ⟨oc, od, .func fd, sl⟩
theorem At.cal {P : Program} {w : World} {K : PySem.W.Frag} {mg : Str → Option Value} {base : Heap} {x : Str} {st : Stmt} {N ps : List Str} {k : Nat} {sp : Sp} (D : At K mg x st ps) (S : FnScope N ps (defScope st)) (len : ∀ vs H Q E, sp vs H Q E → vs.length = ps.length)
    (body : ∀ (f : Addr) (cdv : Value) (A : Around) (outer : List Env) (s : Shared) (H : Hp) (vs : List V) (Q : VK) (E : XK), Room k (A.deeper (envOfC x (defScope st) s.heap.objs.size f cdv)) → sp vs H Q E →
      ∃ t, PSs (cxOf CX0 P w K mg base N x (defScope st) f cdv A outer s H E).nox (defBody st) t ∧ t { nx := fun _ H' => Q .non H', rt := Q } (start N vs) H) : Cal P w K mg base (k + 1) x ps sp := by
  obtain ⟨f, fd, F, b, g⟩ := D.ex
  obtain ⟨oc, od, kV, doc, pm, an, cdv, ct, osl, e, lk, hcd⟩ := F.ex
  exact ⟨f, fd, F.ok S len (body f), g, F.kp, b, oc, od, osl, lk⟩
section
variable {X : Cx} {k j : Nat} {x : Str} {ps : List Str} {sp : Sp} {p pos : Pos} {e : Expr} {es : List Expr} {t : TA}
theorem pe_own (c : Cal X.prog X.w X.K X.mg X.base k x ps sp) (hr : Room j X.A) (hk : k ≤ j) (hg : Gl X x) (ha : PA X (e :: es) t)
    (hdb : (x == ("__debug__" : Str)) = false := by decide) (he : starEach (e :: es) X.env = (false, eval e X.env) :: starEach es X.env := by rfl) (hpl : (backTo pos (starEach es X.env)).any (·.1) = false := by rfl) :
    PE X (.Call (.Name x p) (e :: es) [] pos) (tCall sp [] E0 t) := by
  obtain ⟨f, fd, F, hm, kp, b, _⟩ := c.ex
  exact pe_call F (hr.mono hk) hg hm kp b .nil pass0 ha hdb he hpl
theorem pe_cst {v : V} (h : ∃ u, X.mg x = some u ∧ RelV v u) (hg : Gl X x) (hdb : (x == ("__debug__" : Str)) = false := by decide) : PE X (.Name x pos) (tC v) := by
  obtain ⟨u, hm, r⟩ := h
  exact pe_glob hg hm r hdb
end
def tMid (t : TE) : TE := fun σ H Q => ∃ M : VK, t σ H M ∧ ∀ v G, M v G → Q v G
theorem pe_mid {X : Cx} {e : Expr} {t : TE} (d : PE X e t) : PE X e (tMid t) := ⟨fun pins s σ H Q I ⟨M, m, k⟩ => thn (d.run pins s σ H M I m) fun u s1 ⟨v, G, I1, r1, m1⟩ => ⟨v, G, I1, r1, k v G m1⟩⟩
/-! ### heaps -/
theorem same_new {H : Hp} {p : Addr} {o : HO} (h : H p = none) : Same H (upd H p o) := fun b x e => by
  rw [upd_ne (ne_of_none e h)]
  exact e
/-- a pot of three ints stands at p -/
def Pot (H : Hp) (p : Addr) : Prop := ∃ x y z : Int, H p = some (.lst [.int x, .int y, .int z])
/-- from H to G the pot at p may have changed, the rest stands -/
structure Ladled (p : Addr) (H G : Hp) : Prop where
  pot : Pot G p
  keep : ∀ b o, H b = some o → b ≠ p → G b = some o
theorem Pot.some {H : Hp} {p : Addr} (h : Pot H p) : ∃ o, H p = some o := by
  obtain ⟨x, y, z, e⟩ := h
  exact ⟨_, e⟩
theorem Pot.same {H G : Hp} {p : Addr} (s : Same H G) (h : Pot H p) : Pot G p := by
  obtain ⟨x, y, z, e⟩ := h
  exact ⟨x, y, z, s _ _ e⟩
theorem Ladled.refl {H : Hp} {p : Addr} (h : Pot H p) : Ladled p H H := ⟨h, fun _ _ e _ => e⟩
theorem Ladled.trans {H G J : Hp} {p : Addr} (a : Ladled p H G) (b : Ladled p G J) : Ladled p H J := ⟨b.pot, fun c o e n => b.keep c o (a.keep c o e n) n⟩
theorem Ladled.same {H G J : Hp} {p : Addr} (a : Ladled p H G) (b : Same G J) : Ladled p H J := ⟨a.pot.same b, fun c o e n => b _ _ (a.keep c o e n)⟩
theorem Ladled.ofSame {H G : Hp} {p : Addr} (h : Pot H p) (b : Same H G) : Ladled p H G := ⟨h.same b, fun c o e _ => b _ _ e⟩
theorem Ladled.new {H G : Hp} {p q : Addr} {o : HO} (a : Ladled p H G) (h : G q = none) : Ladled p H (upd G q o) := a.same (same_new h)
theorem Ladled.free {H G : Hp} {p l : Addr} (a : Ladled p H G) (h : G l = none) : H l = none := by
  cases q : H l with
  | none => rfl
  | some o =>
    by_cases e : l = p
    · subst e
      obtain ⟨u, hu⟩ := a.pot.some
      rw [hu] at h
      cases h
    · rw [a.keep l o q e] at h
      cases h
/-- what is not known at first may change -/
theorem Ladled.mut {H G : Hp} {p q : Addr} {o : HO} (a : Ladled p H G) (h : H q = none) (n : q ≠ p) : Ladled p H (upd G q o) := by
  refine ⟨?_, fun b u e nb => ?_⟩
  · obtain ⟨x, y, z, e⟩ := a.pot
    exact ⟨x, y, z, by rw [upd_ne (Ne.symm n)]; exact e⟩
  · rw [upd_ne (ne_of_none e h)]
    exact a.keep b u e nb
end Gu
namespace Gu
open PySem PySem.Spec PyProof.Rows L2
/-! ### errors of the program's own, with one field -/
/-- the places of an __init__ that stores what it gets -/
structure Spots where
  a : Pos
  b : Pos
  c : Pos
  d : Pos
  e : Pos
  f : Pos
def eArgs (F : Str) (p : Spots) : Arguments := { posonlyargs := [], args := [⟨"self", none, p.a⟩, ⟨F, none, p.b⟩], vararg := none, kwonlyargs := [], kw_defaults := [], kwarg := none, defaults := [] }
def eBody (F : Str) (p : Spots) : List Stmt := [.Assign [.Attribute (.Name "self" p.c) F p.d] (.Name F p.e) p.f]
def eScope (F : Str) : Scope := { kind := .function, names := [("self", .local), (F, .local)], isGenerator := false, isCoroutine := false, more := [] }
/-- a built-in class of errors that an own class stands over -/
structure BaseE where
  nm : String
  new : String
  ini : String
  tl : List Value
structure BaseE.ok (b : BaseE) : Prop where
  base : ExcBaseFacts b.nm b.new b.ini b.tl
  store : StoreFacts b.nm b.tl "object.__setattr__" "object"
  plain : ∀ D : Addr, b.tl.contains (.ref D) = false
def bVE : BaseE := ⟨"ValueError", "ValueError.__new__", "ValueError.__init__", [.type "ValueError", .type "Exception", .type "BaseException", .type "object"]⟩
theorem bVE_ok : bVE.ok := ⟨F.excBase_ValueError, F.store_ValueError, fun D => rfl⟩
/-- what the top has left of the class named N, at C, over the own class at U and the built-in b -/
structure ErrK (K : PySem.W.Frag) (mg : Str → Option Value) (b : BaseE) (U : Addr) (N : Str) (C : Addr) : Prop where
  bok : b.ok
  g : mg N = some (.ref C)
  cls : ∃ q M bs sn sub ab col dd k0 k1 k2 k3 k5, K.lookup C = some (excClassObj N q C M bs (.ref U :: b.tl) true sn sub ab col dd k0 k1 k2 k3 k5 b.new)
  sa : PySem.W.findIn K (.ref C) "__setattr__" = some (some (.builtin "object.__setattr__"))
  ga : PySem.W.findIn K (.ref C) "__getattribute__" = some (some (.builtin "BaseException.__getattribute__"))
  gg : PySem.W.findIn K (.ref C) "__getattr__" = some none
  kC : PySem.W.keepIn K (.ref C) = true
  ty : PySem.W.typeIn K (.ref C) = some (.type "type")
  ca : PySem.W.findIn K (.ref C) "__class__" = some (some (.builtin "object.__class__"))
  cn : PySem.W.specialIn K (.builtin "object.__class__") "__get__" = some (some (.builtin "getset_descriptor.__get__"))
  ct : PySem.W.takesIn K (.builtin "object.__class__") = some true
structure ErrF (K : PySem.W.Frag) (N F : Str) (C : Addr) : Prop where
  nm : F = "value" ∨ F = "index" ∨ F = "limit"
  no : PySem.W.findIn K (.ref C) F = some none
  init : ∃ (f : Addr) (st : Stmt) (p : Spots) (fd : FuncData), PySem.W.findIn K (.ref C) "__init__" = some (some (.ref f)) ∧ PySem.W.typeIn K (.ref f) = some (.type "function") ∧ L2.Fun K "__init__" (N ++ ".__init__") st f fd ∧ defArgs st = eArgs F p ∧ defBody st = eBody F p ∧ defScope st = eScope F
section
variable {K : PySem.W.Frag} {mg : Str → Option Value} {b : BaseE} {U C : Addr} {N F : Str}
theorem ErrK.cd (T : ErrK K mg b U N C) : ∃ cd : ClassData, PySem.W.clsIn K C = some cd ∧ cd.mro = .ref C :: .ref U :: b.tl ∧ cd.hasDict = true ∧ cd.name = N := by
  obtain ⟨q, M, bs, sn, sub, ab, col, dd, k0, k1, k2, k3, k5, e⟩ := T.cls
  refine ⟨{ name := N, bases := bs, mro := .ref C :: .ref U :: b.tl, ns := M, qualname := q, hasDict := true, slotNames := sn, subclasses := sub, abstract := ab, collection := col, hasDel := false }, ?_, rfl, rfl, rfl⟩
  unfold PySem.W.clsIn
  rw [e]
theorem ErrK.sub (T : ErrK K mg b U N C) (c : Value) : PySem.W.subIn K (.ref C) c = some ((Value.ref C :: .ref U :: b.tl).contains c) := by
  obtain ⟨cd, e, m, _⟩ := T.cd
  show PySem.W.mroIn K C c = _
  unfold PySem.W.mroIn
  rw [e, Option.bind_some, m, if_neg (by simp)]
theorem ErrK.subT (T : ErrK K mg b U N C) (X : String) : PySem.W.subIn K (.ref C) (.type X) = some (b.tl.contains (.type X)) := by
  rw [T.sub, List.contains_cons, List.contains_cons]
  rfl
theorem ErrK.exC (T : ErrK K mg b U N C) : PySem.W.subIn K (.ref C) (.type "BaseException") = some true := by
  rw [T.subT, T.bok.base.hasBase]
theorem ErrK.obj (T : ErrK K mg b U N C) : PySem.W.mroIn K C (.type "object") = some true := by
  show PySem.W.subIn K (.ref C) _ = _
  rw [T.subT, T.bok.store.hasOwner]
theorem ErrK.hd (T : ErrK K mg b U N C) : PySem.W.hasDictIn K C = true := by
  obtain ⟨cd, e, _, h, _⟩ := T.cd
  unfold PySem.W.hasDictIn
  rw [e]
  exact h
theorem ErrK.isC (T : ErrK K mg b U N C) : (PySem.W.clsIn K C).isSome = true := by
  obtain ⟨cd, e, _⟩ := T.cd
  rw [e]
  rfl
theorem name_at {D : Addr} {q q2 : Str} {M M2 : Addr} {N2 : Str} {bs bm bs2 bm2 : List Value} {sn sn2 : List Str} {sub sub2 : List Value} {ab ab2 : Bool} {col col2 : Option Bool} {dd dd2 : Option Addr} {k0 k1 k2 k3 k5 j0 j1 j2 j3 j5 : Option Value} {ni nj : String}
    (a : K.lookup C = some (excClassObj N q C M bs bm true sn sub ab col dd k0 k1 k2 k3 k5 ni)) (c : K.lookup D = some (excClassObj N2 q2 D M2 bs2 bm2 true sn2 sub2 ab2 col2 dd2 j0 j1 j2 j3 j5 nj)) (e : C = D) : N = N2 := by
  subst e
  have z := a.symm.trans c
  injection z with z
  injection z with _ _ z
  injection z with z
  injection z
/-- is an error of C one of D, D of the same make? -/
theorem ErrK.eqv {b2 : BaseE} {U2 D : Addr} {M : Str} (T : ErrK K mg b U N C) (S : ErrK K mg b2 U2 M D) (ne : U ≠ D) : PySem.W.subIn K (.ref C) (.ref D) = some (decide (N = M)) := by
  rw [T.sub, List.contains_cons, List.contains_cons, T.bok.plain, Bool.or_false]
  have u : (Value.ref D == Value.ref U) = false := beq_eq_false_iff_ne.mpr fun z => ne (Value.ref.inj z).symm
  rw [u, Bool.or_false]
  by_cases h : N = M
  · have e : C = D := by
      have a := T.g
      rw [h, S.g] at a
      exact (Value.ref.inj (Option.some.inj a)).symm
    rw [decide_eq_true h, e, beq_self_eq_true]
  · have e : (Value.ref D == Value.ref C) = false := beq_eq_false_iff_ne.mpr fun z => by
      obtain ⟨q, M1, bs, sn, sub, ab, col, dd, k0, k1, k2, k3, k5, a⟩ := T.cls
      obtain ⟨q2, M2, bs2, sn2, sub2, ab2, col2, dd2, j0, j1, j2, j3, j5, c⟩ := S.cls
      exact h (name_at a c (Value.ref.inj z).symm)
    rw [e, decide_eq_false h]
/-- an own class right over a built-in one -/
structure UpK (K : PySem.W.Frag) (mg : Str → Option Value) (b : BaseE) (N : Str) (U : Addr) : Prop where
  g : mg N = some (.ref U)
  cls : ∃ q M bs sn sub ab col dd k0 k1 k2 k3 k5, K.lookup U = some (excClassObj N q U M bs b.tl true sn sub ab col dd k0 k1 k2 k3 k5 b.new)
  ty : PySem.W.typeIn K (.ref U) = some (.type "type")
theorem UpK.isC {V : Addr} (S : UpK K mg b F V) : (PySem.W.clsIn K V).isSome = true := by
  obtain ⟨q, M, bs, sn, sub, ab, col, dd, k0, k1, k2, k3, k5, e⟩ := S.cls
  unfold PySem.W.clsIn
  rw [e]
  rfl
theorem UpK.exC {V : Addr} (ok : b.ok) (S : UpK K mg b F V) : PySem.W.subIn K (.ref V) (.type "BaseException") = some true := by
  obtain ⟨q, M, bs, sn, sub, ab, col, dd, k0, k1, k2, k3, k5, e⟩ := S.cls
  show PySem.W.mroIn K V _ = _
  unfold PySem.W.mroIn PySem.W.clsIn
  rw [e]
  show (if (Value.ref V :: b.tl).isEmpty = true then none else some ((Value.ref V :: b.tl).contains (.type "BaseException"))) = some true
  rw [if_neg (by simp), List.contains_cons, ok.base.hasBase, Bool.or_true]
theorem ErrK.up (T : ErrK K mg b U N C) : PySem.W.subIn K (.ref C) (.ref U) = some true := by
  rw [T.sub, List.contains_cons, List.contains_cons, beq_self_eq_true, Bool.true_or, Bool.or_true]
theorem UpK.ne {b2 : BaseE} {U2 D V : Addr} {M : Str} (S : UpK K mg b F V) (T : ErrK K mg b2 U2 M D) (h : F ≠ M) : V ≠ D := fun z => by
  obtain ⟨q, M1, bs, sn, sub, ab, col, dd, k0, k1, k2, k3, k5, a⟩ := S.cls
  obtain ⟨q2, M2, bs2, sn2, sub2, ab2, col2, dd2, j0, j1, j2, j3, j5, c⟩ := T.cls
  exact h (name_at a c z)
/-! what except and isinstance ask -/
theorem kit_ref {t : Value} {D : Addr} {r : Bool} (i : (PySem.W.clsIn K D).isSome = true) (ty : PySem.W.typeIn K (.ref D) = some (.type "type")) (s : PySem.W.subIn K t (.ref D) = some r) : PySem.W.kitCls K t (.ref D) = some r := by
  show (if ((PySem.W.clsIn K D).isSome && PySem.W.typeIn K (.ref D) == some (.type "type")) = true then PySem.W.subIn K t (.ref D) else none) = some r
  rw [i, ty, if_pos (by simp)]
  exact s
theorem kit_one {t : Value} {D : Addr} {r : Bool} (h : PySem.W.kitCls K t (.ref D) = some r) (y : t = .ref D → r = true) : PySem.W.kitOne K t (.ref D) = some r := by
  unfold PySem.W.kitOne
  split
  · next e => rw [y (eq_of_beq e)]
  · exact h
theorem ErrK.exm {b2 : BaseE} {U2 D : Addr} {M : Str} (T : ErrK K mg b U N C) (S : ErrK K mg b2 U2 M D) (ne : U ≠ D) : PySem.W.exmOne K (.ref C) (.ref D) = some (decide (N = M)) := by
  unfold PySem.W.exmOne
  rw [S.exC, if_pos (by simp)]
  exact kit_ref S.isC S.ty (T.eqv S ne)
theorem ErrK.kitU (T : ErrK K mg b U N C) (S : UpK K mg b F U) : PySem.W.kitOne K (.ref C) (.ref U) = some true := kit_one (kit_ref S.isC S.ty T.up) fun _ => rfl
theorem ErrK.kitV (T : ErrK K mg b U N C) (h : PySem.W.kitMeta b.nm = true) : PySem.W.kitOne K (.ref C) (.type b.nm) = some true := by
  unfold PySem.W.kitOne
  rw [if_neg (by simp)]
  show (if PySem.W.kitMeta b.nm = true then PySem.W.subIn K (.ref C) (.type b.nm) else none) = some true
  rw [if_pos h, T.subT, T.bok.base.hasB]
end
end Gu
namespace Gu
open PySem PySem.Spec PyProof.Rows L2 HandSPX
/-! ### such an error is made -/
section
variable {prog : Program} {w : World} {A : Around} {E : Value → Shared → Prop} {R : Result → Shared → Prop} {K : PySem.W.Frag} {mg : Str → Option Value} {b : BaseE} {U C : Addr} {N Fl : Str}
/-- a first field is laid: its dict is new -/
theorem err_store {hp : Heap} {g : Array GenState} {dr : Drawn} {tk0 : Nat} {os : OsState} {tk : Tok} {v : Value} {x : Addr} {fv : Array Value} (T : ErrK K mg b U N C) (inK : K.In hp) (at_x : hp.get? x = some { cls := .ref C, data := .fields fv }) (no : PySem.W.findIn K (.ref C) Fl = some none)
    (k : ∀ (h1 : Heap) (t1 : Nat) (dx : Addr), (∀ c o, c ≠ x → hp.get? c = some o → h1.get? c = some o) → hp.objs.size ≤ dx → dx ≠ x → h1.get? x = some { cls := .ref C, dict := some dx, data := .fields fv } → h1.Ns1 dx (fun y => if y = Fl then some v else none) → R (.ok (.ret .none)) ⟨h1, g, dr, t1, os⟩) :
    codeAny (model prog w) A (.call (.builtin "object.__setattr__") ⟨[.ref x, .str Fl tk, v], []⟩) R ⟨hp, g, dr, tk0, os⟩ := by
  obtain ⟨cd, ecd, em, eh, _⟩ := T.cd
  have inst : PySem.W.InstAt hp x { cls := .ref C, data := .fields fv } C none := ⟨at_x, rfl, rfl, trivial⟩
  have old : x ≠ hp.objs.size := Nat.ne_of_lt (Heap.lt_size at_x)
  have isO : PySem.W.Looks (model prog w) hp (isInstance (.ref x) (.type "object")) true := inst.type.andThen (PySem.W.looks_mroIn inK T.obj)
  have facts := PySem.F.store_object
  refine codeAny_call_builtin facts.slot.plain facts.entry (@PySem.W.check_slot (model prog w) _ _ ⟨hp, g, dr, tk0, os⟩ "object.__setattr__" "object" "__setattr__" (.ref x) [.str Fl tk, v] [] _ facts.kind facts.split isO (facts.args (.ref x) (.str Fl tk) v) ?_)
  have look : PySem.W.Looks (model prog w) hp (classData C) cd := PySem.W.looks_clsIn inK ecd
  have mro : PySem.W.Looks (model prog w) hp (mroOf (.ref C)) cd.mro := look.andThen .now
  have none' : PySem.W.Looks (model prog w) hp (Builtin.ObjectAttr.storeTaker? none) none := .now
  rw [PySem.W.osa_eq, refuse_eq]
  refine wpAny_bind (wpAny_bind (inst.type.at (wpAny_bind (mro.at ?_))))
  rw [em, refuseLoop_ref, refuseLoop_ref, T.bok.store.passes]
  refine wpAny_pure (wpAny_bind (inst.type.at (wpAny_bind ((PySem.W.looks_findIn inK no).at (wpAny_bind (none'.at ?_))))))
  obtain ⟨nm, bs, mr, ns, qn, hd, sn, sb, ab, col, del⟩ := cd
  dsimp only at eh
  subst eh
  show wpAny _ _ (Builtin.ObjectAttr.storeInOwnDict (.ref x) (.ref C) (.str Fl tk) Fl v false) _ _ _
  unfold Builtin.ObjectAttr.storeInOwnDict Builtin.ObjectAttr.ownDictForStores
  repeat (first | with_reducible refine store_in_new ?_ ?_ | with_reducible refine look.at ?_ | with_reducible refine wpAny_loadPart_at at_x ?_ | wp_step)
  · exact ⟨_, #[], _, (Heap.get?_update_ne _ _ _ _ old.symm).trans (Heap.get?_push_at rfl rfl), rfl, fun e he => absurd he (by simp), fun _ => rfl⟩
  · intro h1 t1 hn hs
    refine k h1 t1 hp.objs.size (fun c o hc ho => ?_) (Nat.le_refl _) old.symm ?_ hn
    · exact (hs.2 c (Nat.ne_of_lt (Heap.lt_size ho))).trans ((Heap.get?_update_ne _ _ _ _ hc).trans (Heap.get?_push_of_some _ ho))
    · exact (hs.2 x old).trans (Heap.get?_update_self _ (Heap.get?_push_of_some { cls := .type "dict", data := .dict #[] } at_x) rfl)
/-- what __init__ leaves of a fresh error at x -/
structure InitLeft (h h1 : Heap) (x C dx t1 : Addr) (Fl : Str) (v : Value) : Prop where
  keep : ∀ c o, c ≠ x → h.get? c = some o → h1.get? c = some o
  obj : h1.get? x = some { cls := .ref C, dict := some dx, data := .fields #[.ref t1, .none, .none, .none, .bool false, .none] }
  big : h.objs.size ≤ dx
  ne : dx ≠ x
  ns : h1.Ns1 dx (fun y => if y = Fl then some v else none)
theorem here_local {M : Model} {s : Shared} {name : Str} {scope : Scope} {L a : Addr} {cd : Value} {m : Str → Option Value} {x : Str} {pos : Pos} {v : Value} {Q : Value → Shared → Prop} (ns : s.heap.Ns L m) (hv : m x = some v) (q : Q v s)
    (hk : scope.kind = .function := by rfl) (hl : (envOfC name scope L a cd).kindOf x = some .local := by rfl) (hd : (x == ("__debug__" : Str)) = false := by decide) : wpAny M A (eval (.Name x pos) (envOfC name scope L a cd)) Q E s := wpAny_Name (wpAny_loadName_local hk hl ns hv q) hd
theorem err_init {s : Shared} {f x t0 : Addr} {v : Value} {st : Stmt} {p : Spots} {fd : FuncData} (T : ErrK K mg b U N C) (no : PySem.W.findIn K (.ref C) Fl = some none) (hF : Fl = "value" ∨ Fl = "index" ∨ Fl = "limit") (G : L2.Fun K "__init__" (N ++ ".__init__") st f fd) (e1 : defArgs st = eArgs Fl p) (e2 : defBody st = eBody Fl p) (e3 : defScope st = eScope Fl)
    (inK : K.In s.heap) (lim : s.heap.NoLimit) (at_x : s.heap.get? x = some (excO C t0)) (room : A.depth < recursionLimit)
    (k : ∀ h1 tk dx, InitLeft s.heap h1 x C dx t0 Fl v → R (.ok (.ret .none)) { s with heap := h1, toks := tk }) : codeAny (model prog w) A (.call (.ref f) ⟨[.ref x, v], []⟩) R s := by
  obtain ⟨oc, od, kV, doc, pm, an, cdv, ct, osl, ef, lk, hcd⟩ := G.ex
  rw [ef, e1, e2, e3] at lk
  have main : ∀ s1, InCallC s s.heap.objs.size (bindL (envOfC (N ++ ".__init__") (eScope Fl) s.heap.objs.size f cdv).kindOf [("self", .ref x), (Fl, v)] fun _ => none) (cellsFrom (s.heap.objs.size + 1) (eScope Fl).names []) (bindC (envOfC (N ++ ".__init__") (eScope Fl) s.heap.objs.size f cdv).kindOf [("self", .ref x), (Fl, v)] fun _ => none) s1 →
      wpAny (model prog w) (A.deeper (envOfC (N ++ ".__init__") (eScope Fl) s.heap.objs.size f cdv)) (execs (eBody Fl p) (envOfC (N ++ ".__init__") (eScope Fl) s.heap.objs.size f cdv)) (fun fl s' => R (.ok (.ret (match fl with | .ret v => v | _ => .none))) s')
        (fun e s' => wpAny (model prog w) (A.deeper (envOfC (N ++ ".__init__") (eScope Fl) s.heap.objs.size f cdv)) (leaving (envOfC (N ++ ".__init__") (eScope Fl) s.heap.objs.size f cdv) e) (fun _ s'' => R (.error e) s'') (fun e' s'' => R (.error e') s'') s') s1 := by
    intro s1 c1
    obtain ⟨h1, tk1, rfl⟩ := c1.toInCall.same
    have keep : ∀ c o, s.heap.get? c = some o → h1.get? c = some o := c1.toInCall.keep
    have ns := c1.toInCall.ns
    refine wpAny_execs_cons (plainObj_wpAny_Assign_Attribute ?_ ?_)
    · have v1 : (bindL (envOfC (N ++ ".__init__") (eScope Fl) s.heap.objs.size f cdv).kindOf [("self", .ref x), (Fl, v)] fun _ => none) Fl = some v := by
        rcases hF with rfl | rfl | rfl <;> first | rfl | with_unfolding_all rfl | kernel_rfl
      have v2 : (bindL (envOfC (N ++ ".__init__") (eScope Fl) s.heap.objs.size f cdv).kindOf [("self", .ref x), (Fl, v)] fun _ => none) "self" = some (.ref x) := by
        rcases hF with rfl | rfl | rfl <;> first | rfl | with_unfolding_all rfl | kernel_rfl
      refine here_local (v := v) ns v1 (here_local (v := .ref x) ns v2 ?_ rfl rfl (by decide)) rfl (by rcases hF with rfl | rfl | rfl <;> rfl) (by rcases hF with rfl | rfl | rfl <;> decide)
      refine PySem.W.set_plain (inK.keeps keep) (ox := excO C t0) (od := none) ⟨keep _ _ at_x, rfl, rfl, trivial⟩ T.sa ?_
      refine err_store T (inK.keeps keep) (keep _ _ at_x) no fun h3 tk3 dx k3 big ne hx hn => ?_
      have z : s.heap.objs.size < h1.objs.size := ns.lt
      exact wpAny_execs_nil (k h3 tk3 dx ⟨fun c o hc e => k3 c o hc (keep c o e), hx, Nat.le_of_lt (Nat.lt_of_lt_of_le z big), ne, hn⟩)
    · rfl
  refine Att.call_fn (binds := [("self", .ref x), (Fl, v)]) inK lim lk hcd room ?_ ?_ main rfl rfl rfl
  · rcases hF with rfl | rfl | rfl <;> exact BindsTo.of_eq (by first | rfl | with_unfolding_all rfl)
  · rcases hF with rfl | rfl | rfl <;> first | rfl | decide | with_unfolding_all rfl
end
end Gu
namespace Gu
open PySem PySem.Spec PyProof.Rows L2 HandSPX
section
variable {prog : Program} {w : World} {A : Around} {E : Value → Shared → Prop} {R : Result → Shared → Prop} {K : PySem.W.Frag} {mg : Str → Option Value} {b : BaseE} {U C : Addr} {N Fl : Str}
/-- an error that is made: at e, its dict at d -/
structure MadeE (h h1 : Heap) (e C d : Addr) (Fl : Str) (v : Value) : Prop where
  keep : ∀ c o, h.get? c = some o → h1.get? c = some o
  new : h.objs.size ≤ e
  obj : ∃ oe vs, h1.get? e = some oe ∧ oe.cls = .ref C ∧ oe.dict = some d ∧ oe.data = .fields vs ∧ vs[1]? = some .none
  big : h.objs.size ≤ d
  ne : d ≠ e
  ns : h1.Ns1 d (fun y => if y = Fl then some v else none)
theorem one_fits (v : Value) : [v].length ≤ sizeLine := by
  show 1 ≤ sizeLine
  decide
theorem err_made {s : Shared} {v : Value} (T : ErrK K mg b U N C) (S : ErrF K N Fl C) (inK : K.In s.heap) (lim : s.heap.NoLimit) (room : A.depth + 1 < recursionLimit) (k : ∀ h1 tk e d, MadeE s.heap h1 e C d Fl v → R (.ok (.ret (.ref e))) { s with heap := h1, toks := tk }) :
    codeAny (model prog w) A (.call (.ref C) ⟨[v], []⟩) R s := by
  obtain ⟨q, M, bs, sn, sub, ab, col, dd, k0, k1, k2, k3, k5, hC⟩ := T.cls
  obtain ⟨f, st, p, fd, hf, tf, G, e1, e2, e3⟩ := S.init
  obtain ⟨hp, g, dr, tk, os⟩ := s
  have old : ∀ c o, hp.get? c = some o → ((hp.push (PySem.W.kdv_tup [v])).push (excO C hp.objs.size)).get? c = some o := fun c o e => Heap.get?_push_of_some _ (Heap.get?_push_of_some _ e)
  have here : ((hp.push (PySem.W.kdv_tup [v])).push (excO C hp.objs.size)).get? (hp.objs.size + 1) = some (excO C hp.objs.size) := by heap_get
  refine call_own T.bok.base (fun X => by rw [List.contains_cons]; rfl) (inK _ _ hC) (PySem.W.looks_findIn inK hf) (fun self => PySem.W.bind_fn inK self tf) (one_fits v) ?_
  refine err_init (s := ⟨(hp.push (PySem.W.kdv_tup [v])).push (excO C hp.objs.size), g, dr, tk, os⟩) T S.no S.nm G e1 e2 e3 (inK.keeps old) (lim.keeps old) here room fun h1 t1 dx L => ?_
  have old1 : ∀ c o, hp.get? c = some o → h1.get? c = some o := fun c o e => L.keep c o (Nat.ne_of_lt (Nat.lt_succ_of_lt (Heap.lt_size e))) (old c o e)
  have z : hp.objs.size + 1 + 1 ≤ dx := by
    have q := L.big
    rw [Heap.size_push, Heap.size_push] at q
    exact q
  exact ⟨rfl, k h1 t1 (hp.objs.size + 1) dx ⟨old1, Nat.le_succ _, ⟨_, _, L.obj, rfl, rfl, rfl, rfl⟩, by show hp.objs.size ≤ dx; omega, L.ne, L.ns⟩⟩
end
theorem relO_one {Fl : Str} {v : V} {u : Value} (r : RelV v u) (g : Str) : RelO (List.lookup g [(Fl, v)]) (if g = Fl then some u else none) := by
  by_cases h : g = Fl
  · subst h
    rw [if_pos rfl, show List.lookup g [(g, v)] = some v by simp [List.lookup]]
    exact r
  · have q : (g == Fl) = false := by simpa using h
    rw [if_neg h, show List.lookup g [(Fl, v)] = none by simp [List.lookup, q]]
    trivial
section
variable {X : Cx} {b : BaseE} {U C : Addr} {N Fl : Str}
/-- N(e) -/
def tMkE (C : Addr) (Fl : Str) (ta : TA) : L2.St → Hp → XK → Prop := fun σ H Q => ta σ H fun vs G => ∃ v, vs = [v] ∧ ∀ d, G d = none → Q (.ref C) (some d) (upd G d (.xd [(Fl, v)]))
theorem pmk_err {a : Expr} {ta : TA} {p pos : Pos} {k : Nat} (T : ErrK X.K X.mg b U N C) (S : ErrF X.K N Fl C) (hr : Room k X.A) (ha : PA X [a] ta) (hg : Gl X N) (hdb : (N == ("__debug__" : Str)) = false)
    (he : starEach (a :: []) X.env = (false, eval a X.env) :: starEach [] X.env := by rfl) (hpl : (backTo pos (starEach [] X.env)).any (·.1) = false := by rfl) : PMk X (.Call (.Name N p) [a] [] pos) (tMkE C Fl ta) := by
  intro pins s σ H Q I want
  refine wpAny_Call_Name_kw (ld_glob I hg T.g ?_ hdb)
  refine PySem.W.callWith_K (h₀ := X.base) I.ok.mod.kin T.kC (thn (ha.run pos pins s σ H _ I want) fun us s1 ⟨vs, G, I1, r, v, ev, q⟩ => ⟨I1.kIn, ?_⟩) he hpl
  subst ev
  cases r with
  | @cons _ u _ _ rv rn =>
    cases rn
    have lim := I1.nolimit
    obtain ⟨hp, g, dr, tk, os⟩ := s1
    show wpAny _ _ (call (.ref C) [u]) _ _ _
    refine wpAny_call (err_made (v := u) T S I1.kIn lim (by have := hr.dp; omega) fun h1 t1 e d M => ?_)
    obtain ⟨oe, fv, hoe, hc, hd, hdat, h1n⟩ := M.obj
    obtain ⟨B, b1, b2⟩ := restrict h1 fun c => decide (c ≠ e)
    have inB : ∀ c, c ≠ e → B.get? c = h1.get? c := fun c hc => b1 c (decide_eq_true hc)
    have noB : B.get? e = none := b2 e (by simp)
    have old : ∀ c o, hp.get? c = some o → B.get? c = some o := fun c o z => (inB c (Nat.ne_of_lt (Nat.lt_of_lt_of_le (Heap.lt_size z) M.new))).trans (M.keep c o z)
    have ob : ObjOk X.prog X.w (upd G d (.xd [(Fl, v)])) B d (.xd [(Fl, v)]) := ⟨_, M.ns.at (fun o z => (inB d M.ne).trans z), fun y => relO_one rv y⟩
    have J : Inv X pins σ (upd G d (.xd [(Fl, v)])) ⟨B, g, dr, t1, os⟩ := I1.laid (t' := t1) old M.big ob
    show MkP X pins σ Q (.ref e) ⟨h1, g, dr, t1, os⟩
    refine ⟨e, oe, fv, ⟨B, g, dr, t1, os⟩, _, .ref C, some d, rfl, J, fun c o z => ?_, noB, hoe, ⟨hc, hd⟩, hdat, h1n, ?_, rfl, I1.bare, raises_own T.exC T.ty, q d (I1.hok.fresh M.big)⟩
    · by_cases hce : c = e
      · have z : B.get? c = some o := z
        rw [hce, noB] at z
        cases z
      · exact (inB c hce).symm.trans z
    · rw [upd_ne (Ne.symm M.ne)]
      exact I1.hok.fresh M.new
/-- raise N(e) -/
def tRaiseE (C : Addr) (Fl : Str) (W : WX) (ta : TA) : TS := fun _ σ H => tMkE C Fl ta σ H fun cls d G => W cls d σ G
theorem ps_raiseE {a : Expr} {ta : TA} {W : WX} {p pos pos2 : Pos} {k : Nat} (T : ErrK X.K X.mg b U N C) (S : ErrF X.K N Fl C) (hc : X.calm = true) (hr : Room k X.A) (tk : Takes X W) (ha : PA X [a] ta) (hg : Gl X N) (hdb : (N == ("__debug__" : Str)) = false := by decide)
    (he : starEach (a :: []) X.env = (false, eval a X.env) :: starEach [] X.env := by rfl) (hpl : (backTo pos (starEach [] X.env)).any (·.1) = false := by rfl) :
    PS X (.Raise (some (.Call (.Name N p) [a] [] pos)) none pos2) (tRaiseE C Fl W ta) := ps_raise hc tk (pmk_err T S hr ha hg hdb he hpl)
/-! ### an error that is held -/
/-- e.f, e the error at a that is pinned -/
def tXfE (a : Addr) (cls : Value) (d : Option Addr) (C : Addr) (f : Str) (te : TE) : TE := fun σ H Q => te σ H fun x G => x = .ref a ∧ cls = .ref C ∧ ∃ (dd : Addr) (fs : List (Str × V)) (v : V), d = some dd ∧ G dd = some (.xd fs) ∧ fs.lookup f = some v ∧ Q v G
theorem pe_xfE {a : Addr} {oe : Obj} {cls : Value} {d : Option Addr} {e : Expr} {te : TE} {pos : Pos} (T : ErrK X.K X.mg b U N C) (S : ErrF X.K N Fl C) (hp : (a, oe) ∈ X.pn) (hz : Zc cls d oe) (hf : ∃ vs, oe.data = .fields vs) (he : PE X e te) (hb : attributeBase e Fl X.env (eval e X.env) = eval e X.env) :
    PE X (.Attribute e Fl pos) (tXfE a cls d C Fl te) := by
  refine ⟨fun pins s σ H Q I want => attr_of hb (thn (he.run pins s σ H _ I want) fun u s1 ⟨x, G, I1, rx, ex, ec, dd, fs, v, ed, ea, l, q⟩ => ?_)⟩
  subst ex ec ed
  obtain rfl : u = Value.ref a := rx
  obtain ⟨ha, _⟩ := I1.pin (a, oe) (List.mem_append_left _ hp)
  obtain ⟨vs, hd⟩ := hf
  obtain ⟨mA, hns, rel⟩ := (show ObjOk X.prog X.w G s1.heap dd (.xd fs) from I1.hok dd _ ea)
  obtain ⟨od, ho, hl⟩ := lookIn_ns hns
  obtain ⟨u, hu, ru⟩ := RelO.some_of (v := v) (o := mA Fl) (by rw [← l]; exact rel Fl)
  have J : PySem.W.InstAt s1.heap a oe C (some od) := ⟨ha, hz.1, by unfold PySem.W.notCls; rw [hd] <;> rfl, by rw [hz.2]; exact ho⟩
  exact exc_get I1.kIn J T.ga T.gg T.exC (PySem.W.findObj_own T.hd S.no rfl (by rw [hl, hu])) (handed_of ru) ⟨v, G, I1.tok _, ru, q⟩
/-- isinstance(e, c), e the error at a that is pinned -/
def rIsX (K : PySem.W.Frag) (C a : Addr) (cls : Value) (d : Option Addr) : List V → Hp → VK → Prop := fun xs H Q => ∃ (c : V) (cv : Value) (r : Bool), xs = [.ref a, c] ∧ cls = .ref C ∧ (∀ u, RelV c u → u = cv) ∧ PySem.W.kitOne K (.ref C) cv = some r ∧ (∀ dd, d = some dd → ∃ fs, H dd = some (.xd fs)) ∧ Q (.bl r) H
theorem call_isX {a : Addr} {oe : Obj} {cls : Value} {d : Option Addr} (T : ErrK X.K X.mg b U N C) (hp : (a, oe) ∈ X.pn) (hz : Zc cls d oe) (hf : ∃ vs, oe.data = .fields vs) : CallR X (.builtin "isinstance") (rIsX X.K C a cls d) := by
  intro pins s σ H xs us Q I r h
  obtain ⟨c, cv, ans, rfl, rfl, hcv, e, hdd, q⟩ := h
  cases r with
  | cons rx rr =>
    cases rr with
    | cons rt rr =>
      cases rr
      cases rx
      have ec := hcv _ rt
      subst ec
      obtain ⟨get, _⟩ := I.pin (a, oe) (List.mem_append_left _ hp)
      obtain ⟨vs, hv⟩ := hf
      have J : ∃ od, PySem.W.InstAt s.heap a oe C od := by
        obtain ⟨oc, odd, oda, osl⟩ := oe
        obtain ⟨h1, h2⟩ := hz
        dsimp only at h1 h2 hv
        subst h1 h2 hv
        cases odd with
        | none => exact ⟨none, get, rfl, rfl, trivial⟩
        | some dd =>
          obtain ⟨fs, hx⟩ := hdd dd rfl
          obtain ⟨mA, hns, _⟩ := (show ObjOk X.prog X.w H s.heap dd (.xd fs) from I.hok dd _ hx)
          obtain ⟨od, ho, _⟩ := lookIn_ns hns
          exact ⟨some od, get, rfl, rfl, ho⟩
      obtain ⟨od, J⟩ := J
      exact PySem.W.kia_one (PySem.W.kitx_exc T.isC T.ga T.gg T.exC T.ca T.cn T.ct T.obj) I.kIn J e (fun z => nomatch z) fun tk => ⟨.bl ans, H, I.kept (t' := tk) fun _ _ z => z, rfl, q⟩
end
end Gu
namespace Gu
open PySem PySem.Spec PyProof.Rows L2 HandSPX
/-! ### try with several clauses, each of them naming the error -/
/-- the test of a clause: mt tells of the error's class whether it is this one; what stood stands -/
def HTest (X : Cx) (t : Expr) (mt : Value → Option Bool) : Prop := ∀ (a : Addr) (oe : Obj) (cls : Value) (d : Option Addr) (pn pins : List (Addr × Obj)) (σ : L2.St) (H : Hp) (s : Shared) (r : Bool) (Q : Bool → Shared → Prop) (E : Value → Shared → Prop), Inv (X.suite a ((a, oe) :: pn)) pins σ H s → s.heap.get? a = some oe → Zc cls d oe → mt cls = some r →
  (∀ h1 tk, (∀ c o, s.heap.get? c = some o → h1.get? c = some o) → Q r { s with heap := h1, toks := tk }) →
  wpAny (model X.prog X.w) (X.A.mark (some (.ref a))) (eval t X.env) (fun c s1 => wpAny (model X.prog X.w) (X.A.mark (some (.ref a))) (excMatches (.ref a) c) Q E s1) E s
theorem htest_name {X : Cx} {x : Str} {c : Value} {pos : Pos} (hc : Names X x c) : HTest X (.Name x pos) (fun cls => PySem.W.exmOne X.K cls c) := by
  intro a oe cls d pn pins σ H s r Q E I ha hz hm k
  have LT : PySem.W.Looks (model X.prog X.w) s.heap (typeOf (.ref a)) cls := fun A Q E s1 keep q => wpAny_typeOf_ref (keep _ _ ha) (by rw [hz.1]; exact q)
  have LM := PySem.W.exm_one (M := model X.prog X.w) I.kIn LT hm
  have go : wpAny (model X.prog X.w) (X.A.mark (some (.ref a))) (excMatches (.ref a) c) Q E s := LM.here (k s.heap s.toks fun _ _ e => e)
  obtain ⟨hg, hdb, hm | ⟨hm, hv, hn⟩⟩ := hc
  · exact ld_glob (X := X.suite a ((a, oe) :: pn)) I hg hm go hdb
  · exact ld_blt (X := X.suite a ((a, oe) :: pn)) I hg hm hv go hn hdb
/-- what the clauses wish of an error of the body, one after the other; slot i is the error's name -/
def wManyA (i : Nat) (Wout : WX) (D : Ends) : List ((Value → Option Bool) × (Addr → Value → Option Addr → TS)) → WX
  | [] => Wout
  | (mt, ts) :: l => fun cls d σ H => ∃ r, mt cls = some r ∧ (r = true → ∀ a, H a = none → i < σ.length → ts a cls d { nx := fun σ1 G => D.nx (σ1.set i none) G, rt := D.rt, bk := fun σ1 G => D.bk (σ1.set i none) G, ct := fun σ1 G => D.ct (σ1.set i none) G } (σ.set i (some (.ref a))) H) ∧ (r = false → wManyA i Wout D l cls d σ H)
inductive HdsA (X : Cx) (n : Str) : List ExceptHandler → List ((Value → Option Bool) × (Addr → Value → Option Addr → TS)) → Prop
  | nil : HdsA X n [] []
  | cons {t : Expr} {mt : Value → Option Bool} {ts : Addr → Value → Option Addr → TS} {b0 : Stmt} {suite : List Stmt} {pos : Pos} {hds : List ExceptHandler} {l : List ((Value → Option Bool) × (Addr → Value → Option Addr → TS))} (ht : HTest X t mt)
      (hs : ∀ (a : Addr) (oe : Obj) (cls : Value) (d : Option Addr) (pn : List (Addr × Obj)), Zc cls d oe → (∃ vs, oe.data = .fields vs) → PSs (X.suite a ((a, oe) :: pn)) (b0 :: suite) (ts a cls d)) (r : HdsA X n hds l) : HdsA X n (.ExceptHandler (some t) (some n) (b0 :: suite) pos :: hds) ((mt, ts) :: l)
/-- what flies stays so while more is laid -/
theorem flying_keep {B h h1 : Heap} {l : List Env} {e : Addr} {Z : Obj → Prop} (k : ∀ c o, h.get? c = some o → h1.get? c = some o) (f : FlyingZ B l e Z h) : FlyingZ B l e Z h1 := by
  obtain ⟨f1, f2, f3, oe, vs, T, oT, ts, he, hz, hd, a1, a2, a3, a4, a5, a6⟩ := f
  exact ⟨fun b o q => k b o (f1 b o q), f2, f3.of_keeps fun b o hb _ => ⟨o, k b o hb, rfl⟩, oe, vs, T, oT, ts, k _ _ he, hz, hd, a1, a2, a3, k _ _ a4, a5, a6⟩
section
variable {X : Cx} {n : Str} {i : Nat} {body : List Stmt} {h0 : ExceptHandler} {hds : List ExceptHandler} {l : List ((Value → Option Bool) × (Addr → Value → Option Addr → TS))} {pos : Pos} {tb : WX → TS} {Wout : WX}
theorem ps_try_manyA (hs : X.stack = X.env :: X.outer) (hf : X.env.frame = some X.env.locals) (hN : X.N.Nodup) (hi : X.N[i]? = some n) (hln : X.env.kindOf n = some .local) (tk : Takes X Wout)
    (hb : ∀ (W : WX) (pn : List (Addr × Obj)) (xe : Value → Shared → Prop), Takes (X.tr pn xe) W → PassesOwn (model X.prog X.w) X.A X.env xe → PSs (X.tr pn xe) body (tb W))
    (hh : HdsA X n (h0 :: hds) l) : PS X (.Try body (h0 :: hds) [] [] pos) (fun D σ H => tb (wManyA i Wout D l) D σ H) := by
  refine ⟨fun pins s σ H D I want => ?_⟩
  have ok := I.ok
  have frames : X.A.frames = some (X.env :: X.outer) := by rw [ok.frames, hs]
  have loc : Loc X.env.scope n := .inl hln
  refine wpAny_Try_except (wpAny_mono ((hb (wManyA i Wout D l) (X.pn ++ pins) (fun e s1 => wpAny (model X.prog X.w) X.A (noteFrame e X.env) (fun _ s2 => wpAny (model X.prog X.w) X.A (setFlight e none) (fun _ s3 => wpAny (model X.prog X.w) X.A (handleBy e X.env (h0 :: hds)) (SP X pins D) X.xe s3) X.xe s2) X.xe s1) (fun u s1 x1 => ?_) PassesOwn.looking).run [] s σ H D (I.toTry _) want) (fun fl s1 q => ?_) fun e s1 q => q)
  · obtain ⟨a, B, sI, _, σ1, H1, cls, d, rfl, J0, nb, up, sky, na, os, ag, wish⟩ := x1
    have J : Inv X pins σ1 H1 sI := J0.ofTry ok
    rw [hs] at sky
    refine Sky.land Zc.steady frames hf sky fun h3 fl3 up3 => ?_
    have out : ∀ {h : Heap} {o : Obj} {vs : Array Value}, h.FunFrames B (X.env :: X.outer) → h.get? a = some o → o.data = .fields vs → a ≠ X.env.locals ∧ a ∉ X.fs := fun {h o vs} ff e dd => by
      have nf : a ∉ frs (X.env :: X.outer) := fun hm => by
        obtain ⟨_, o2, e2, z⟩ := ff.mem hm
        rw [e] at e2
        cases e2
        exact z _ dd
      exact ⟨fun z => nf (List.mem_filterMap.mpr ⟨X.env, List.mem_cons_self, by rw [hf, z]⟩), fun hm => by
        obtain ⟨e, he, q⟩ := List.mem_filterMap.mp hm
        exact nf (List.mem_filterMap.mpr ⟨e, List.mem_cons_of_mem _ he, q⟩)⟩
    have go : ∀ {hs2 : List ExceptHandler} {l2 : List ((Value → Option Bool) × (Addr → Value → Option Addr → TS))}, HdsA X n hs2 l2 → ∀ (h : Heap) (t : Nat), FlyingZ B (X.env :: X.outer) a (Zc cls d) h → sI.heap.UpToSlots h → wManyA i Wout D l2 cls d σ1 H1 →
        wpAny (model X.prog X.w) X.A (handleBy (.ref a) X.env hs2) (SP X pins D) X.xe { s1 with heap := h, toks := t } := by
      intro hs2 l2 hk
      induction hk with
      | nil =>
        intro h t fl up wish
        refine wpAny_handleBy_nil ?_
        obtain ⟨_, _, _, oe, vs, T, oT, ts, he, hz, hd, h1, _⟩ := id fl
        unfold PySem.passOn
        refine wpAny_bind (wpAny_field he hd h1 ?_)
        rw [if_neg (by simp)]
        have last : wpAny (model X.prog X.w) X.A (setFlight (.ref a) X.env.frame) (fun _ s4 => wpAny (model X.prog X.w) X.A (throw (.ref a) : Sem Flow) (SP X pins D) X.xe s4) X.xe { s1 with heap := h, toks := t } := by
          rw [hf]
          refine setFlight_upZ fl fun h4 hh4 up4 => wpAny_throw (tk _ _ ?_)
          exact ⟨a, B, sI, pins, σ1, H1, cls, d, rfl, J, nb, up.trans up4, .inr (.inr (by rw [hs]; exact hh4)), na, os, ag, wish⟩
        first
          | exact wpAny_bind (wpAny_pure (wpAny_bind last))
          | exact wpAny_bind last
      | @cons t mt ts b0 suite pos2 hds2 l2 ht hsu r ih =>
        intro h tok fl up wish
        obtain ⟨ans, hm, yes, no⟩ := wish
        have J3 : Inv X pins σ1 H1 { s1 with heap := h, toks := tok } := J.landed (s' := { s1 with heap := h, toks := tok }) nb fl.1 up os ag
        obtain ⟨oe, vs, he, hz, hd⟩ := fl.there
        have nn := out fl.2.2.1 he hd
        have S3 := J3.suite he hd na nn.1 nn.2
        refine wpAny_handleBy_cons (codeAny_handlers_test ?_) (by intro q; cases q)
        refine ht a oe cls d (X.pn ++ pins) [] σ1 H1 { s1 with heap := h, toks := tok } ans _ _ S3 he hz hm fun h4 tok4 k4 => ?_
        have fl4 := flying_keep k4 fl
        have up4 : sI.heap.UpToSlots h4 := up.trans fun b o hb _ => ⟨o.slots, k4 b o hb⟩
        cases ans with
        | false => exact ih h4 tok4 fl4 up4 (no rfl)
        | true =>
          refine codeAny_handlers_suite_as (lands_againZ fl4 fun h5 fl5 up5 => ?_)
          have J5 : Inv X pins σ1 H1 { s1 with heap := h5, toks := tok4 } := J.landed (s' := { s1 with heap := h5, toks := tok4 }) nb fl5.1 (up4.trans up5) os ag
          obtain ⟨oe5, vs5, he5, hz5, hd5⟩ := fl5.there
          have n5 := out fl5.2.2.1 he5 hd5
          refine store_ok (X := X.suite a ((a, oe5) :: (X.pn ++ pins))) (v := .ref a) (J5.suite he5 hd5 na n5.1 n5.2) hN hi loc rfl (fun s6 S6 => ?_) (.inr hln)
          refine wpAny_mono ((hsu a oe5 cls d (X.pn ++ pins) hz5 ⟨_, hd5⟩).run [] s6 _ H1 _ S6 (yes rfl a na (by rw [J5.len]; exact (List.getElem?_eq_some_iff.mp hi).1))) (fun fl7 s7 q7 => ?_) fun _ _ z => False.elim z
          have gone : ∀ {σ7 : L2.St} {H7 : Hp} {Q : Shared → Prop}, Inv (X.suite a ((a, oe5) :: (X.pn ++ pins))) [] σ7 H7 s7 → (∀ s8, Inv X pins (σ7.set i none) H7 s8 → Q s8) → wpAny (model X.prog X.w) X.A (do bindName X.env n .none; unbindBehindTheSuite X.env n pos2) (fun _ s8 => Q s8) X.xe s7 := fun {σ7 H7 Q} S7 hq => gone_ok (S7.unsuite ok) hN hi hln hq
          cases fl7 with
          | next =>
            obtain ⟨σ7, H7, S7, q7⟩ := q7
            exact gone S7 fun s8 J8 => ⟨_, _, J8, q7⟩
          | brk =>
            obtain ⟨σ7, H7, S7, q7⟩ := q7
            exact gone S7 fun s8 J8 => ⟨_, _, J8, q7⟩
          | cont =>
            obtain ⟨σ7, H7, S7, q7⟩ := q7
            exact gone S7 fun s8 J8 => ⟨_, _, J8, q7⟩
          | ret u =>
            obtain ⟨v7, σ7, H7, S7, r7, q7⟩ := q7
            exact gone S7 fun s8 J8 => ⟨_, _, _, J8, r7, q7⟩
    exact go hh h3 s1.toks fl3 (up.trans up3) wish
  · cases fl with
    | next =>
      obtain ⟨σ1, H1, J1, q⟩ := q
      exact wpAny_execs_nil ⟨σ1, H1, J1.ofTry ok, q⟩
    | brk =>
      obtain ⟨σ1, H1, J1, q⟩ := q
      exact ⟨σ1, H1, J1.ofTry ok, q⟩
    | cont =>
      obtain ⟨σ1, H1, J1, q⟩ := q
      exact ⟨σ1, H1, J1.ofTry ok, q⟩
    | ret u =>
      obtain ⟨v, σ1, H1, J1, r, q⟩ := q
      exact ⟨v, σ1, H1, J1.ofTry ok, r, q⟩
end
end Gu
namespace Gu
open PySem PySem.Spec PyProof.Rows L2
/-! ### defs that are called where no container is being written out -/
structure FnG (P : Program) (w : World) (K : PySem.W.Frag) (mg : Str → Option Value) (base : Heap) (k : Nat) (f : Addr) (fd : FuncData) (ps : List Str) (sp : Sp) : Prop where
  len : ∀ vs H Q E, sp vs H Q E → vs.length = ps.length
  run : ∀ (A : Around) (outer : List Env) (s : Shared) (H : Hp) (args : Args) (us : List Value) (vs : List V) (Q : VK) (E : XK), Room k A → A.guards = some [] → Env0 P w K mg base A outer s H → BindsTo s fd args (ps.zip us) → Vals vs us → sp vs H Q E →
    codeAny (model P w) A (.call (.ref f) args) (CR CX0 outer P w H s Q E) s
section
variable {P : Program} {w : World} {K : PySem.W.Frag} {mg : Str → Option Value} {base : Heap}
theorem okG {x qual : Str} {st : Stmt} {f : Addr} {fd : FuncData} {N ps : List Str} {k : Nat} {sp : Sp} (F : Fun K x qual st f fd) (S : FnScope N ps (defScope st)) (len : ∀ vs H Q E, sp vs H Q E → vs.length = ps.length)
    (body : ∀ (cdv : Value) (A : Around) (outer : List Env) (s : Shared) (H : Hp) (vs : List V) (Q : VK) (E : XK), Room k (A.deeper (envOfC qual (defScope st) s.heap.objs.size f cdv)) → A.guards = some [] → sp vs H Q E →
      ∃ t, PSs (cxOf CX0 P w K mg base N qual (defScope st) f cdv A outer s H E).nox (defBody st) t ∧ t { nx := fun _ G => Q .non G, rt := Q } (start N vs) H) : FnG P w K mg base (k + 1) f fd ps sp := by
  obtain ⟨oc, od, kV, doc, pm, an, cdv, ct, osl, rfl, lk, hcd⟩ := F.ex
  refine ⟨len, fun A outer s H args us vs Q E room quiet env binds rel want => ?_⟩
  have stays : ∀ b o, base.get? b = some o → s.heap.get? b = some o := fun b o e => (env.bs b o e).1
  have inK : K.In s.heap := env.mod.kin.keeps stays
  have free : s.heap.NoLimit := env.mod.nolimit.keeps stays
  refine codeAny_call_function room.depth (inK _ _ lk) rfl S.co S.gen rfl (PySem.W.codeRec_of inK hcd) (binds _ _ _ _ ?_)
  refine wpAny_newFunctionEnv_cells S.kind (fun ⟨n, v⟩ hy => (S.par n (List.of_mem_zip hy).1).imp id fun q => ⟨q, PySem.W.cellsFrom_some _ _ _ (.inl q)⟩) fun env1 e1 s1 c1 => ?_
  subst e1
  refine ⟨free.keeps c1.toInCall.keep, codeAny_func ?_⟩
  obtain ⟨t, d, q⟩ := body cdv A outer s H vs Q E (room.deeper _) quiet want
  refine wpAny_mono (d.nox.run [] s1 (start N vs) H _ (inv_start S room.hd env (len _ _ _ _ want) rel c1) q) (fun fl s2 h2 => ?_) fun e s2 h2 => h2
  cases fl with
  | ret u =>
    obtain ⟨v, σ2, G, J, rv, r⟩ := h2
    exact ⟨v, G, J.os, J.bare, J.base, J.hok, rv, r⟩
  | next =>
    obtain ⟨σ2, G, J, r⟩ := h2
    exact ⟨V.non, G, J.os, J.bare, J.base, J.hok, rfl, r⟩
  | brk => exact (h2.choose_spec.choose_spec.2 : False).elim
  | cont => exact (h2.choose_spec.choose_spec.2 : False).elim
structure CalG (P : Program) (w : World) (K : PySem.W.Frag) (mg : Str → Option Value) (base : Heap) (k : Nat) (x : Str) (ps : List Str) (sp : Sp) : Prop where
  ex : ∃ (f : Addr) (fd : FuncData), FnG P w K mg base k f fd ps sp ∧ mg x = some (.ref f) ∧ PySem.W.keepIn K (.ref f) = true ∧ Binds K fd ps []
theorem At.calG {x : Str} {st : Stmt} {N ps : List Str} {k : Nat} {sp : Sp} (D : At K mg x st ps) (S : FnScope N ps (defScope st)) (len : ∀ vs H Q E, sp vs H Q E → vs.length = ps.length)
    (body : ∀ (f : Addr) (cdv : Value) (A : Around) (outer : List Env) (s : Shared) (H : Hp) (vs : List V) (Q : VK) (E : XK), Room k (A.deeper (envOfC x (defScope st) s.heap.objs.size f cdv)) → A.guards = some [] → sp vs H Q E →
      ∃ t, PSs (cxOf CX0 P w K mg base N x (defScope st) f cdv A outer s H E).nox (defBody st) t ∧ t { nx := fun _ G => Q .non G, rt := Q } (start N vs) H) : CalG P w K mg base (k + 1) x ps sp := by
  obtain ⟨f, fd, F, b, g⟩ := D.ex
  exact ⟨f, fd, okG F S len (body f), g, F.kp, b⟩
end
def tCallG (sp : Sp) (t : TA) : TE := fun σ H Q => t σ H fun vs G => sp vs G Q E0
section
variable {X : Cx} {k j : Nat} {x : Str} {ps : List Str} {sp : Sp} {p pos : Pos} {e : Expr} {es : List Expr} {t : TA}
theorem pe_ownG (c : CalG X.prog X.w X.K X.mg X.base k x ps sp) (hr : Room j X.A) (hk : k ≤ j) (quiet : X.A.guards = some []) (hg : Gl X x) (ha : PA X (e :: es) t)
    (hdb : (x == ("__debug__" : Str)) = false := by decide) (he : starEach (e :: es) X.env = (false, eval e X.env) :: starEach es X.env := by rfl) (hpl : (backTo pos (starEach es X.env)).any (·.1) = false := by rfl) :
    PE X (.Call (.Name x p) (e :: es) [] pos) (tCallG sp t) := by
  obtain ⟨f, fd, F, hm, kp, b⟩ := c.ex
  refine ⟨fun pins s σ H Q I h => wpAny_Call_Name_kw (ld_glob I hg hm (PySem.W.callWith_K (h₀ := X.base) I.ok.mod.kin kp (thn (ha.run pos pins s σ H _ I h) fun us s1 ⟨vs, G, I1, r, q⟩ => ⟨I1.kIn, ?_⟩) he hpl) hdb)⟩
  have ll : (us ++ []).length = ps.length := by
    rw [List.append_nil, ← r.length]
    exact F.len _ _ _ _ q
  have bt := b s1 us I1.kIn ll
  rw [List.append_nil] at bt
  refine wpAny_call (codeAny_mono (F.run X.A X.stack s1 G ⟨us, []⟩ us vs Q E0 (hr.mono hk) quiet I1.env0 bt r q) fun rr s2 h2 => ?_)
  cases rr with
  | error e => exact (h2 : False).elim
  | ok fl =>
    cases fl with
    | ret u => exact I1.after h2
    | next => exact (h2 : False).elim
    | brk => exact (h2 : False).elim
    | cont => exact (h2 : False).elim
end
end Gu
namespace Gu
open PySem PySem.Spec PyProof.Rows L2
/-- a heap in which nothing is tracked but, at most, the script at a, which stands still there -/
theorem quiet_end {P : Program} {w : World} {K : PySem.W.Frag} {mg mb : Str → Option Value} {k : Nat} {fa a : Addr} {fd : FuncData} {x : Str} {sp : Sp} {s : Shared} {us : List Value} {H : Hp} (inK : K.In s.heap) (nsG : s.heap.Ns mainGlobals mg) (nsB : s.heap.Ns builtinsNs mb)
    (bb : ∀ x : Str, x ≠ "__name__" → mb x = bootBuiltins x) (nl : s.heap.NoLimit) (ng : s.gens = #[]) (at_a : s.heap.get? a = some { cls := .type "list", data := .seq us.toArray }) (room : Room k callerA)
    (F : ∀ base : Heap, K.In base → base.Ns mainGlobals mg → FnG P w K mg base k fa fd [x] sp) (bind : ∀ (s : Shared) (u : Value), BindsTo s fd ⟨[u], []⟩ [(x, u)]) (want : sp [.ref a] H (fun v _ => v = .bl true) fun _ _ _ => False)
    (only : Only H) (ok : HOk P w H s.heap) (one : ∀ b, H b ≠ none → b = a ∧ K.lookup a = none) :
    codeAny (model P w) callerA (.call (.ref fa) ⟨[.ref a], []⟩) (fun r s2 => r = .ok (.ret (.bool true)) ∧ OldK s.heap s2.heap ∧ s2.os = s.os ∧ AllBare s2.gens) s := by
  have dictFree : ∀ (b : Addr) (o : Obj) (es : Array DictEntry) (ep : Nat), s.heap.get? b = some o → o.data = .dict es ep → H b = none := fun b o es ep e d =>
    Classical.byContradiction fun z => by
      have hb := (one b z).1
      rw [hb, at_a] at e
      cases e
      exact Data.noConfusion d
  have hiddenNs : ∀ (b : Addr) (m : Str → Option Value), s.heap.Ns b m → (hidT s.heap H).Ns b m := fun b m h => by
    obtain ⟨o, es, ep, e, d, r⟩ := h
    exact ⟨o, es, ep, hidT_get e (dictFree b o es ep e d), d, r⟩
  have hiddenK : K.In (hidT s.heap H) := fun b o e => hidT_get (inK b o e) (Classical.byContradiction fun z => by
    obtain ⟨h1, h2⟩ := one b z
    rw [h1, h2] at e
    cases e)
  have env : Env0 P w K mg (hidT s.heap H) callerA [] s H := by
    refine ⟨rfl, ⟨hiddenK, hiddenNs _ _ nsG, ⟨mb, hiddenNs _ _ nsB, bb⟩, ?_⟩, fun b o e => of_hidT e, Nat.le_of_eq (hidT_size _ _), trivial, fun b hb => absurd (show b ∈ ([] : List Addr) from hb) List.not_mem_nil, ok, .of_eq ng⟩
    obtain ⟨mc, h1, h2⟩ := nl
    exact ⟨mc, hiddenNs _ _ h1, h2⟩
  refine codeAny_mono ((F _ hiddenK (hiddenNs _ _ nsG)).run callerA [] s H ⟨[.ref a], []⟩ [.ref a] [.ref a] _ _ room rfl env (bind s (.ref a)) (.cons rfl .nil) want) fun r s2 h2 => ?_
  cases r with
  | error e => exact (h2 : False).elim
  | ok fl =>
    cases fl with
    | next => exact (h2 : False).elim
    | brk => exact (h2 : False).elim
    | cont => exact (h2 : False).elim
    | ret u =>
      obtain ⟨v, G, os, bare, un, ok2, rv, hv⟩ := h2
      cases (show v = .bl true from hv)
      cases (show u = Value.bool true from rv)
      refine ⟨rfl, OldK.of_keep fun b o e => ?_, os, bare⟩
      rcases only b with z | ⟨ob, xs, z⟩
      · exact un.keep b o e z (fun y => absurd (show b ∈ ([] : List Addr) from y) List.not_mem_nil) (by simp)
      · have e1 := (ok b _ z).1
        have e2 := (ok2 b _ (un.frzs b ob _ z)).1
        rw [e] at e1
        cases e1
        exact e2
/-- the law's call, by its promise -/
theorem quiet_call {P : Program} {w : World} {K : PySem.W.Frag} {mg mb : Str → Option Value} {k : Nat} {fa a : Addr} {fd : FuncData} {x : Str} {sp : Sp} {s : Shared} {us : List Value} {ns : List Int} (inK : K.In s.heap) (nsG : s.heap.Ns mainGlobals mg) (nsB : s.heap.Ns builtinsNs mb)
    (bb : ∀ x : Str, x ≠ "__name__" → mb x = bootBuiltins x) (nl : s.heap.NoLimit) (ng : s.gens = #[]) (at_a : s.heap.get? a = some { cls := .type "list", data := .seq us.toArray }) (nums : IntsAre us ns) (small : ns.length ≤ sizeLine) (room : Room k callerA)
    (F : ∀ base : Heap, K.In base → base.Ns mainGlobals mg → FnG P w K mg base k fa fd [x] sp) (bind : ∀ (s : Shared) (u : Value), BindsTo s fd ⟨[u], []⟩ [(x, u)])
    (want : ∀ H : Hp, SqL K H a (ns.map V.int) → sp [.ref a] H (fun v _ => v = .bl true) fun _ _ _ => False) :
    codeAny (model P w) callerA (.call (.ref fa) ⟨[.ref a], []⟩) (fun r s2 => r = .ok (.ret (.bool true)) ∧ OldK s.heap s2.heap ∧ s2.os = s.os ∧ AllBare s2.gens) s := by
  have rel := vals_ints nums
  cases hk : K.lookup a with
  | some o =>
    have e := inK a o hk
    rw [at_a] at e
    cases e
    refine quiet_end (H := fun _ => none) inK nsG nsB bb nl ng at_a room F bind (want _ (.inr ⟨_, us.toArray, _, hk, rfl, rfl, rfl, ?_, rel⟩)) (fun _ => .inl rfl) (fun b u z => nomatch (show (none : Option HO) = some u from z)) fun b z => absurd rfl z
    rw [List.size_toArray, nums.length]
    exact small
  | none =>
    refine quiet_end (H := upd (fun _ => none) a (.frz { cls := .type "list", data := .seq us.toArray } (.lst (ns.map V.int)))) inK nsG nsB bb nl ng at_a room F bind (want _ (.inl (.inr ⟨_, upd_same⟩))) (fun b => ?_) (fun b u z => ?_) fun b z => ?_
    · by_cases hb : b = a
      · exact .inr ⟨_, _, by rw [hb]; exact upd_same⟩
      · exact .inl (upd_ne hb)
    · by_cases hb : b = a
      · subst hb
        rw [upd_same] at z
        cases z
        exact ⟨at_a, by rw [List.length_map]; exact small, us, _, rel, at_a⟩
      · rw [upd_ne hb] at z
        cases z
    · by_cases hb : b = a
      · exact ⟨hb, hk⟩
      · exact absurd (upd_ne hb) z
theorem walkG {l : PySem.W.OpenLaw} {n k : Nat} {q : Program} {loose : List Str} {XP : (Str → Option Value) → Heap → Prop} {YP : World → Heap → Prop} {d : DefRec} {K : Params → PySem.W.Frag} {x : Str} {sp : PySem.W.Frag → Sp} (most : l.most = some n) (small : n ≤ sizeLine) (plain : d.params.defaults = []) (room : Room k callerA)
    (left : ∀ (w : World) (h : Heap), YP w h → (K w.params).In h)
    (F : ∀ (w : World) (mg : Str → Option Value) (fa : Addr) (h : Heap), (K w.params).In h → h.Ns mainGlobals mg → mg d.name = some (.ref fa) → ∃ fd : FuncData, (∀ (s : Shared) (u : Value), BindsTo s fd ⟨[u], []⟩ [(x, u)]) ∧
      ∀ base : Heap, (K w.params).In base → base.Ns mainGlobals mg → FnG l.prog w (K w.params) mg base k fa fd [x] (sp (K w.params)))
    (want : ∀ (w : World) (H : Hp) (a : Addr) (ns : List Int), ns.length ≤ n → SqL (K w.params) H a (ns.map V.int) → sp (K w.params) [.ref a] H (fun v _ => v = .bl true) fun _ _ _ => False) :
    PySem.W.WalkO q loose XP YP l.row.toRowW d [] (fun f vs => PySem.call f vs) := by
  refine Att.attach_call most plain fun w s0 s mg mb fa o pm cd doc a us ns G Y ho hd hcd hmg at_a nums le ng => ?_
  obtain ⟨fd, bind, fn⟩ := F w mg fa _ (left w _ Y) G.T.g hmg
  exact quiet_call (left w _ Y) G.T.g G.T.b G.T.builtins G.T.nolimit ng at_a nums (Nat.le_trans le small) room fn bind fun H hS => want w H a ns le hS
end Gu
namespace Gu
open PySem PySem.Spec PyProof.Rows L2
/-! ### what can be written out -/
structure Fine (n W : Nat) (d : PyData) : Prop where
  nd : d.hasDict = false
  sh : d.showable = true
  ls : d.leavesShort 80 = true
  dp : d.depth ≤ n
  wt : d.weight ≤ W
structure FineAll (n W : Nat) (ds : List PyData) : Prop where
  nd : PyData.hasDictAll ds = false
  sh : PyData.showableAll ds = true
  ls : PyData.leavesShortAll 80 ds = true
  dp : PyData.depthAll ds ≤ n
  wt : PyData.weightAll ds ≤ ds.length * (W + 1)
theorem FineAll.of {n W : Nat} : ∀ {ds : List PyData}, (∀ d ∈ ds, Fine n W d) → FineAll n W ds
  | [], _ => ⟨rfl, rfl, rfl, Nat.zero_le _, Nat.zero_le _⟩
  | d :: ds, h => by
    have a := h d (List.mem_cons_self ..)
    have b := FineAll.of (ds := ds) fun e he => h e (List.mem_cons_of_mem _ he)
    refine ⟨?_, ?_, ?_, Nat.max_le.mpr ⟨a.dp, b.dp⟩, ?_⟩
    · show (d.hasDict || PyData.hasDictAll ds) = false
      rw [a.nd, b.nd]
      rfl
    · show (d.showable && PyData.showableAll ds) = true
      rw [a.sh, b.sh]
      rfl
    · show (d.leavesShort 80 && PyData.leavesShortAll 80 ds) = true
      rw [a.ls, b.ls]
      rfl
    · show d.weight + 1 + PyData.weightAll ds ≤ (ds.length + 1) * (W + 1)
      have := a.wt
      have := b.wt
      rw [Nat.succ_mul]
      omega
theorem FineAll.list {n W : Nat} {ds : List PyData} (a : FineAll n W ds) : Fine (n + 1) (ds.length * (W + 1)) (.list ds) := ⟨a.nd, a.sh, a.ls, Nat.succ_le_succ a.dp, a.wt⟩
theorem FineAll.tup {n W : Nat} {ds : List PyData} (a : FineAll n W ds) : Fine (n + 1) (ds.length * (W + 1)) (.tuple ds) := ⟨a.nd, a.sh, a.ls, Nat.succ_le_succ a.dp, a.wt⟩
theorem Fine.mono {n m W Z : Nat} {d : PyData} (h : Fine n W d) (a : n ≤ m) (b : W ≤ Z) : Fine m Z d := ⟨h.nd, h.sh, h.ls, Nat.le_trans h.dp a, Nat.le_trans h.wt b⟩
theorem Fine.bool (b : Bool) : Fine 0 0 (.bool b) := ⟨rfl, rfl, rfl, Nat.le_refl _, Nat.le_refl _⟩
theorem Fine.none : Fine 0 0 .none := ⟨rfl, rfl, rfl, Nat.le_refl _, Nat.le_refl _⟩
theorem Fine.int {i : Int} (h : i.natAbs < 2 ^ 70) : Fine 0 70 (.int i) := by
  have l : i.natAbs.log2 < 70 := PySem.Flt.log2_lt_of (by decide) h
  refine ⟨rfl, decide_eq_true (by omega), decide_eq_true ?_, Nat.le_refl _, ?_⟩
  · have e := int_text_length_le (a := i) (k := 70) (by decide) l
    show (Str.ofString (toString i)).length ≤ 80
    rw [PySem.ofString_length]
    omega
  · show (if i == 0 then 0 else i.natAbs.log2 + 1) ≤ 70
    split <;> omega
theorem Fine.str {z : Str} {W : Nat} (h : ∀ c ∈ z.cps.toList, c < 16 ^ 8) (w : z.cps.toList.length ≤ W) : Fine 0 W (.str z) := by
  refine ⟨rfl, rfl, ?_, Nat.le_refl _, w⟩
  show (z.cps.toList.all fun c => decide (c < 16 ^ 8)) = true
  rw [List.all_eq_true]
  exact fun c hc => decide_eq_true (h c hc)
theorem Fine.fits {d : PyData} (h : Fine 60 100000 d) : d.shown.length ≤ sizeLine := by
  have a := PyData.shown_le 80 (by decide) d h.ls
  have b := h.wt
  have c : (80 + 2) * d.weight ≤ 82 * 100000 := Nat.mul_le_mul_left _ b
  have e : sizeLine = 16777216 := by decide
  omega
section
variable {X : Cx}
/-- repr of a list or tuple, where none is being written out -/
theorem call_reprD (quiet : X.A.guards = some []) (hu : X.A.units + 64 < cLine) : CallR X (.builtin "repr") (fun xs H Q => ∃ (a : Addr) (d : PyData), xs = [.ref a] ∧ Dp X.K H (.ref a) d ∧ Fine 60 100000 d ∧ Q (.str d.shown) H) := by
  intro pins s σ H xs us Q I r h
  obtain ⟨a, d, rfl, hd, fine, q⟩ := h
  cases r with
  | cons r rr =>
    cases rr
    cases (show _ = Value.ref a from r)
    obtain ⟨as, rd⟩ := Dp.reads I d (.ref a) (.ref a) hd rfl
    have dp := fine.dp
    exact repr_of_reads' rd fine.sh (PyData.noDict_hsm fine.nd) quiet (by omega) (fun _ _ e => e) (fun g u tk keep => ⟨.str d.shown, H, I.kept (t' := tk) keep, ⟨_, rfl⟩, q⟩) fine.fits
end
end Gu
namespace Gu
open PySem PySem.Spec PyProof.Rows L2
/-! ### things of any kind, an empty dict among them, written out -/
/-- the system's modules are known to stand -/
def Sys (H : Hp) : Prop := ∃ o u, H sysModules = some (.frz o u)
theorem Sys.same {H G : Hp} (h : Sys H) (s : Same H G) : Sys G := by
  obtain ⟨o, u, e⟩ := h
  exact ⟨o, u, s _ _ e⟩
mutual
inductive DpE (K : PySem.W.Frag) (H : Hp) : V → PyData → Prop
  | non : DpE K H .non .none
  | bl (b : Bool) : DpE K H (.bl b) (.bool b)
  | int (i : Int) : DpE K H (.int i) (.int i)
  | str (x : Str) : DpE K H (.str x) (.str x)
  | lst {a : Addr} {xs : List V} {ds : List PyData} : H a = some (.lst xs) → DpEs K H xs ds → DpE K H (.ref a) (.list ds)
  | tup {a : Addr} {xs : List V} {ds : List PyData} : SqT K H a xs → DpEs K H xs ds → DpE K H (.ref a) (.tuple ds)
  | dict {a : Addr} : H a = some (.dK []) → DpE K H (.ref a) (.dict [])
inductive DpEs (K : PySem.W.Frag) (H : Hp) : List V → List PyData → Prop
  | nil : DpEs K H [] []
  | cons {v : V} {vs : List V} {d : PyData} {ds : List PyData} : DpE K H v d → DpEs K H vs ds → DpEs K H (v :: vs) (d :: ds)
end
theorem stE {K : PySem.W.Frag} {H G : Hp} {a : Addr} {xs : List V} (s : Same H G) (h : SqT K H a xs) : SqT K G a xs := by
  rcases h with (h | ⟨o, h⟩) | h
  · exact .inl (.inl (s _ _ h))
  · exact .inl (.inr ⟨o, s _ _ h⟩)
  · exact .inr h
mutual
theorem DpE.same {K : PySem.W.Frag} {H G : Hp} (s : Same H G) : ∀ {v : V} {d : PyData}, DpE K H v d → DpE K G v d
  | _, _, .non => .non
  | _, _, .bl b => .bl b
  | _, _, .int i => .int i
  | _, _, .str x => .str x
  | _, _, .lst h a => .lst (s _ _ h) (DpEs.same s a)
  | _, _, .tup h a => .tup (stE s h) (DpEs.same s a)
  | _, _, .dict h => .dict (s _ _ h)
theorem DpEs.same {K : PySem.W.Frag} {H G : Hp} (s : Same H G) : ∀ {vs : List V} {ds : List PyData}, DpEs K H vs ds → DpEs K G vs ds
  | _, _, .nil => .nil
  | _, _, .cons a b => .cons (DpE.same s a) (DpEs.same s b)
end
section
variable {X : Cx} {pins : List (Addr × Obj)} {σ : L2.St} {H : Hp} {s : Shared}
mutual
theorem DpE.reads (I : Inv X pins σ H s) (y : Sys H) : ∀ (d : PyData) (v : V) (u : Value), DpE X.K H v d → RelV v u → ∃ as, Reads s.heap u d as ∧ sysModules ∉ as
  | .none, _, _, h, r => by
    cases h
    cases r
    exact ⟨_, Reads.none, List.not_mem_nil⟩
  | .bool b, _, _, h, r => by
    cases h
    cases r
    exact ⟨_, Reads.bool b, List.not_mem_nil⟩
  | .int i, _, _, h, r => by
    cases h
    obtain ⟨t, rfl⟩ := r
    exact ⟨_, Reads.int i t, List.not_mem_nil⟩
  | .str x, _, _, h, r => by
    cases h
    obtain ⟨t, rfl⟩ := r
    exact ⟨_, Reads.str x t, List.not_mem_nil⟩
  | .list ds, _, _, h, r => by
    cases h with
    | @lst a xs _ hs ha =>
      cases r
      obtain ⟨its, rv, ⟨o, n, ho, hc, _, hd⟩, _⟩ := I.list (.inl (.inl hs))
      obtain ⟨as, hr, na⟩ := DpEs.reads I y ds _ its ha rv
      refine ⟨_, Reads.list ho hc hd hr, fun z => ?_⟩
      rcases List.mem_cons.mp z with z | z
      · obtain ⟨o2, u2, e2⟩ := y
        rw [z, hs] at e2
        cases e2
      · exact na z
  | .tuple ds, _, _, h, r => by
    cases h with
    | tup hs ha =>
      cases r
      obtain ⟨its, rv, ⟨o, ho, hc, n, hd⟩, _⟩ := I.tuple hs
      obtain ⟨as, hr, na⟩ := DpEs.reads I y ds _ its ha rv
      exact ⟨_, Reads.tuple ho hc hd hr, na⟩
  | .dict kvs, _, _, h, r => by
    cases h with
    | @dict a hs =>
      cases r
      obtain ⟨_, ns, vs, kv, o, es, ep, ho, ex, hd, hes⟩ := (show ObjOk X.prog X.w H s.heap a (.dK []) from I.hok a _ hs)
      cases kv
      have en : es.toList = [] := by
        have q := hes.2.1
        generalize es.toList = l at q
        cases q
        rfl
      refine ⟨_, Reads.dict (kvs := []) ho ex.1 hd (by rw [en]; exact .nil) (by rw [en]; exact .nil), fun z => ?_⟩
      have z : sysModules = a := by simpa using z
      rw [← z] at ns
      simp at ns
theorem DpEs.reads (I : Inv X pins σ H s) (y : Sys H) : ∀ (ds : List PyData) (vs : List V) (us : List Value), DpEs X.K H vs ds → Vals vs us → ∃ as, ReadsAll s.heap us ds as ∧ sysModules ∉ as
  | [], _, _, h, r => by
    cases h
    cases r
    exact ⟨_, ReadsAll.nil, List.not_mem_nil⟩
  | d :: ds, _, _, h, r => by
    cases h with
    | cons h1 h2 =>
      cases r with
      | cons r1 r2 =>
        obtain ⟨as, q1, n1⟩ := DpE.reads I y d _ _ h1 r1
        obtain ⟨bs, q2, n2⟩ := DpEs.reads I y ds _ _ h2 r2
        exact ⟨_, ReadsAll.cons q1 q2, fun z => (List.mem_append.mp z).elim n1 n2⟩
end
end
/-- what can be written out -/
structure FineE (n W : Nat) (d : PyData) : Prop where
  sh : d.showable = true
  ls : d.leavesShort 80 = true
  dp : d.depth ≤ n
  wt : d.weight ≤ W
theorem Fine.e {n W : Nat} {d : PyData} (h : Fine n W d) : FineE n W d := ⟨h.sh, h.ls, h.dp, h.wt⟩
structure FineEs (n W : Nat) (ds : List PyData) : Prop where
  sh : PyData.showableAll ds = true
  ls : PyData.leavesShortAll 80 ds = true
  dp : PyData.depthAll ds ≤ n
  wt : PyData.weightAll ds ≤ ds.length * (W + 1)
theorem FineEs.of {n W : Nat} : ∀ {ds : List PyData}, (∀ d ∈ ds, FineE n W d) → FineEs n W ds
  | [], _ => ⟨rfl, rfl, Nat.zero_le _, Nat.zero_le _⟩
  | d :: ds, h => by
    have a := h d (List.mem_cons_self ..)
    have b := FineEs.of (ds := ds) fun e he => h e (List.mem_cons_of_mem _ he)
    refine ⟨?_, ?_, Nat.max_le.mpr ⟨a.dp, b.dp⟩, ?_⟩
    · show (d.showable && PyData.showableAll ds) = true
      rw [a.sh, b.sh]
      rfl
    · show (d.leavesShort 80 && PyData.leavesShortAll 80 ds) = true
      rw [a.ls, b.ls]
      rfl
    · show d.weight + 1 + PyData.weightAll ds ≤ (ds.length + 1) * (W + 1)
      have := a.wt
      have := b.wt
      rw [Nat.succ_mul]
      omega
theorem FineEs.list {n W : Nat} {ds : List PyData} (a : FineEs n W ds) : FineE (n + 1) (ds.length * (W + 1)) (.list ds) := ⟨a.sh, a.ls, Nat.succ_le_succ a.dp, a.wt⟩
theorem FineEs.tup {n W : Nat} {ds : List PyData} (a : FineEs n W ds) : FineE (n + 1) (ds.length * (W + 1)) (.tuple ds) := ⟨a.sh, a.ls, Nat.succ_le_succ a.dp, a.wt⟩
theorem FineE.mono {n m W Z : Nat} {d : PyData} (h : FineE n W d) (a : n ≤ m) (b : W ≤ Z) : FineE m Z d := ⟨h.sh, h.ls, Nat.le_trans h.dp a, Nat.le_trans h.wt b⟩
theorem FineE.dict0 : FineE 1 0 (.dict []) := ⟨rfl, rfl, Nat.le_refl _, Nat.le_refl _⟩
theorem FineE.fits {d : PyData} (h : FineE 60 100000 d) : d.shown.length ≤ sizeLine := by
  have a := PyData.shown_le 80 (by decide) d h.ls
  have b := h.wt
  have c : (80 + 2) * d.weight ≤ 82 * 100000 := Nat.mul_le_mul_left _ b
  have e : sizeLine = 16777216 := by decide
  omega
section
variable {X : Cx}
/-- repr of a list or tuple that may hold empty dicts -/
theorem call_reprE (quiet : X.A.guards = some []) (hu : X.A.units + 64 < cLine) : CallR X (.builtin "repr") (fun xs H Q => ∃ (a : Addr) (d : PyData), xs = [.ref a] ∧ Sys H ∧ DpE X.K H (.ref a) d ∧ FineE 60 100000 d ∧ Q (.str d.shown) H) := by
  intro pins s σ H xs us Q I r h
  obtain ⟨a, d, rfl, y, hd, fine, q⟩ := h
  cases r with
  | cons r rr =>
    cases rr
    cases (show _ = Value.ref a from r)
    obtain ⟨as, rd, nas⟩ := DpE.reads I y d (.ref a) (.ref a) hd rfl
    have dp := fine.dp
    exact repr_of_reads' rd fine.sh (fun _ => nas) quiet (by omega) (fun _ _ e => e) (fun g u tk keep => ⟨.str d.shown, H, I.kept (t' := tk) keep, ⟨_, rfl⟩, q⟩) fine.fits
end
end Gu
namespace Gu
open PySem PySem.Spec PyProof.Rows L2 LamX
/-! ### the law's end where defs make lambdas: their tables are tracked -/
abbrev tabNil : Obj := { cls := .none, data := .fields #[] }
theorem quiet_endT {P : Program} {w : World} {K : PySem.W.Frag} {mg mb : Str → Option Value} {k : Nat} {fa a : Addr} {cs : List (Addr × Addr)} {fd : FuncData} {x : Str} {sp : Sp} {s : Shared} {us : List Value} {H : Hp} (inK : K.In s.heap) (nsG : s.heap.Ns mainGlobals mg) (nsB : s.heap.Ns builtinsNs mb)
    (bb : ∀ x : Str, x ≠ "__name__" → mb x = bootBuiltins x) (nl : s.heap.NoLimit) (ng : s.gens = #[]) (at_a : s.heap.get? a = some { cls := .type "list", data := .seq us.toArray }) (room : Room k callerA)
    (tabs : ∀ p ∈ cs, PySem.W.CodeHd s.heap p.1 p.2 ∧ s.heap.get? p.2 = some tabNil ∧ K.lookup p.2 = none)
    (bm : ∃ (m : Addr) (ob : Obj), mg "__builtins__" = some (.ref m) ∧ m ≠ builtinsNs ∧ s.heap.get? m = some ob ∧ ob.cls = .type "module" ∧ ob.dict = some builtinsNs ∧ ob.data = .plain)
    (F : ∀ base : Heap, K.In base → base.Ns mainGlobals mg → (∀ p ∈ cs, TabB base mg p.1 p.2) → FnG P w K mg base k fa fd [x] sp) (bind : ∀ (s : Shared) (u : Value), BindsTo s fd ⟨[u], []⟩ [(x, u)]) (want : sp [.ref a] H (fun v _ => v = .bl true) fun _ _ _ => False)
    (sys : ∃ o es n, s.heap.get? sysModules = some o ∧ o.data = .dict es n) (noSys : K.lookup sysModules = none)
    (hH : ∀ p ∈ cs, H p.2 = some (.tbl #[])) (kinds : ∀ c, H c = none ∨ c ∈ cs.map (·.2) ∨ ∃ o u, H c = some (.frz o u)) (ok : HOk P w H s.heap) (one : ∀ c, H c ≠ none → (c = a ∧ K.lookup a = none) ∨ c ∈ cs.map (·.2) ∨ c = sysModules) :
    codeAny (model P w) callerA (.call (.ref fa) ⟨[.ref a], []⟩) (fun r s2 => r = .ok (.ret (.bool true)) ∧ OldK s.heap s2.heap ∧ s2.os = s.os ∧ AllBare s2.gens) s := by
  have isTab : ∀ c ∈ cs.map (·.2), s.heap.get? c = some tabNil := fun c hc => by
    obtain ⟨p, hp, rfl⟩ := List.mem_map.mp hc
    exact (tabs p hp).2.1
  have hides : ∀ (c : Addr) (o : Obj), s.heap.get? c = some o → (∀ vs n, o.data ≠ .seq vs n) → o.data ≠ .fields #[] → c ≠ sysModules → H c = none := fun c o e n1 n2 n3 => Classical.byContradiction fun z => by
    rcases one c z with ⟨rfl, _⟩ | hc | hc
    · rw [at_a] at e
      cases e
      exact n1 _ _ rfl
    · rw [isTab c hc] at e
      cases e
      exact n2 rfl
    · exact n3 hc
  have notSys : ∀ (c : Addr) (o : Obj), s.heap.get? c = some o → (∀ es n, o.data ≠ .dict es n) → c ≠ sysModules := fun c o e n1 z => by
    obtain ⟨o2, es, n, e2, d2⟩ := sys
    rw [z, e2] at e
    cases e
    exact n1 _ _ d2
  have hidNs : ∀ (c : Addr) (m : Str → Option Value), c ≠ sysModules → s.heap.Ns c m → (hidT s.heap H).Ns c m := fun c m nc h => by
    obtain ⟨o, es, ep, e, d, r⟩ := h
    exact ⟨o, es, ep, hidT_get e (hides c o e (fun vs n z => by rw [d] at z; cases z) (fun z => by rw [d] at z; cases z) nc), d, r⟩
  have hidK : K.In (hidT s.heap H) := fun c o e => hidT_get (inK c o e) (Classical.byContradiction fun z => by
    rcases one c z with ⟨h1, h2⟩ | hc | hc
    · rw [h1, h2] at e
      cases e
    · obtain ⟨p, hp, rfl⟩ := List.mem_map.mp hc
      rw [(tabs p hp).2.2] at e
      cases e
    · rw [hc, noSys] at e
      cases e)
  have g1 := hidNs mainGlobals mg (by decide) nsG
  have g2 := hidNs builtinsNs mb (by decide) nsB
  have env : Env0 P w K mg (hidT s.heap H) callerA [] s H := by
    refine ⟨rfl, ⟨hidK, g1, ⟨mb, g2, bb⟩, ?_⟩, fun c o e => of_hidT e, Nat.le_of_eq (hidT_size _ _), trivial, fun c hc => absurd (show c ∈ ([] : List Addr) from hc) List.not_mem_nil, ok, .of_eq ng⟩
    obtain ⟨mc, h1, h2⟩ := nl
    exact ⟨mc, hidNs _ _ (by decide) h1, h2⟩
  have tb : ∀ p ∈ cs, TabB (hidT s.heap H) mg p.1 p.2 := fun p hp => by
    obtain ⟨hd, hT, _⟩ := tabs p hp
    refine ⟨?_, ?_, fun z => ?_⟩
    · obtain ⟨o, vs, file, tf, fl, tg, inF, tx, tt, e1, e2, e3, e4, rest⟩ := hd
      refine ⟨o, vs, file, tf, fl, tg, inF, tx, tt, hidT_get e1 (hides _ o e1 (fun us n z => by rw [e3] at z; cases z) (fun z => ?_) (notSys _ o e1 fun es n z => by rw [e3] at z; cases z)), e2, e3, e4, rest⟩
      rw [e3] at z
      cases z
      simp at e4
    · obtain ⟨m, ob, m1, m2, m3, m4, m5, m6⟩ := bm
      refine ⟨m, ob, m1, m2, fun z => ?_, fun z => ?_, hidT_get m3 (hides _ ob m3 (fun us n z => by rw [m6] at z; cases z) (fun z => by rw [m6] at z; cases z) (notSys _ ob m3 fun es n z => by rw [m6] at z; cases z)), m4, m5, m6⟩
      · obtain ⟨o, es, ep, e, d, _⟩ := nsG
        rw [z, e] at m3
        cases m3
        rw [d] at m6
        cases m6
      · rw [z, hT] at m3
        cases m3
        cases m6
    · obtain ⟨o, es, ep, e, d, _⟩ := nsG
      rw [z, hT] at e
      cases e
      cases d
  refine codeAny_mono ((F _ hidK g1 tb).run callerA [] s H ⟨[.ref a], []⟩ [.ref a] [.ref a] _ _ room rfl env (bind s (.ref a)) (.cons rfl .nil) want) fun r s2 h2 => ?_
  cases r with
  | error e => exact (h2 : False).elim
  | ok fl =>
    cases fl with
    | next => exact (h2 : False).elim
    | brk => exact (h2 : False).elim
    | cont => exact (h2 : False).elim
    | ret u =>
      obtain ⟨v, G, os, bare, un, ok2, rv, hv⟩ := h2
      cases (show v = .bl true from hv)
      cases (show u = Value.bool true from rv)
      have stays : ∀ c o, c ∉ cs.map (·.2) → s.heap.get? c = some o → s2.heap.get? c = some o := fun c o nc e => by
        rcases kinds c with z | z | ⟨ob, xs, z⟩
        · exact un.keep c o e z (fun y => absurd (show c ∈ ([] : List Addr) from y) List.not_mem_nil) (by simp)
        · exact absurd z nc
        · have e1 := (ok c _ z).1
          have e2 := (ok2 c _ (un.frzs c ob _ z)).1
          rw [e] at e1
          cases e1
          exact e2
      have grows : ∀ p ∈ cs, ∃ more : Array Value, s2.heap.get? p.2 = some { cls := .none, data := .fields more } := fun p hp => by
        obtain ⟨more, z⟩ := un.tbls p.2 #[] (hH p hp)
        exact ⟨_, ok2 p.2 _ z⟩
      refine ⟨rfl, ⟨fun c o e => ?_, fun c o e => ?_⟩, os, bare⟩
      · by_cases hc : c ∈ cs.map (·.2)
        · obtain ⟨p, hp, rfl⟩ := List.mem_map.mp hc
          obtain ⟨more, hm⟩ := grows p hp
          rw [isTab _ hc] at e
          cases e
          exact .inr (.inl ⟨((tabs p hp).1.tab (tabs p hp).2.1).isCodeTable, rfl, #[], more, rfl, by rw [Array.empty_append]; exact hm⟩)
        · exact .inl (stays c o hc e)
      · by_cases hc : c ∈ cs.map (·.2)
        · obtain ⟨p, hp, rfl⟩ := List.mem_map.mp hc
          obtain ⟨more, hm⟩ := grows p hp
          exact ⟨_, hm⟩
        · exact ⟨o, stays c o hc e⟩
theorem quiet_callT {P : Program} {w : World} {K : PySem.W.Frag} {mg mb : Str → Option Value} {k : Nat} {fa a : Addr} {cs : List (Addr × Addr)} {fd : FuncData} {x : Str} {sp : Sp} {s : Shared} {us : List Value} {ns : List Int} (inK : K.In s.heap) (nsG : s.heap.Ns mainGlobals mg) (nsB : s.heap.Ns builtinsNs mb)
    (bb : ∀ x : Str, x ≠ "__name__" → mb x = bootBuiltins x) (nl : s.heap.NoLimit) (ng : s.gens = #[]) (at_a : s.heap.get? a = some { cls := .type "list", data := .seq us.toArray }) (nums : IntsAre us ns) (small : ns.length ≤ sizeLine) (room : Room k callerA)
    (tabs : ∀ p ∈ cs, PySem.W.CodeHd s.heap p.1 p.2 ∧ s.heap.get? p.2 = some tabNil ∧ K.lookup p.2 = none)
    (bm : ∃ (m : Addr) (ob : Obj), mg "__builtins__" = some (.ref m) ∧ m ≠ builtinsNs ∧ s.heap.get? m = some ob ∧ ob.cls = .type "module" ∧ ob.dict = some builtinsNs ∧ ob.data = .plain)
    (F : ∀ base : Heap, K.In base → base.Ns mainGlobals mg → (∀ p ∈ cs, TabB base mg p.1 p.2) → FnG P w K mg base k fa fd [x] sp) (bind : ∀ (s : Shared) (u : Value), BindsTo s fd ⟨[u], []⟩ [(x, u)])
    (sys : ∃ o es n, s.heap.get? sysModules = some o ∧ o.data = .dict es n) (noSys : K.lookup sysModules = none)
    (want : ∀ H : Hp, (∀ p ∈ cs, H p.2 = some (.tbl #[])) → Sys H → SqL K H a (ns.map V.int) → sp [.ref a] H (fun v _ => v = .bl true) fun _ _ _ => False) :
    codeAny (model P w) callerA (.call (.ref fa) ⟨[.ref a], []⟩) (fun r s2 => r = .ok (.ret (.bool true)) ∧ OldK s.heap s2.heap ∧ s2.os = s.os ∧ AllBare s2.gens) s := by
  have rel := vals_ints nums
  have isTab : ∀ c ∈ cs.map (·.2), s.heap.get? c = some tabNil := fun c hc => by
    obtain ⟨p, hp, rfl⟩ := List.mem_map.mp hc
    exact (tabs p hp).2.1
  have na : a ∉ cs.map (·.2) := fun z => by
    have q := isTab a z
    rw [at_a] at q
    cases q
  have mem : ∀ p ∈ cs, p.2 ∈ cs.map (·.2) := fun p hp => List.mem_map.mpr ⟨p, hp, rfl⟩
  obtain ⟨so, ses, sn, sg, sd⟩ := id sys
  have ns1 : sysModules ∉ cs.map (·.2) := fun z => by
    have q := isTab _ z
    rw [sg] at q
    cases q
    cases sd
  have ns2 : a ≠ sysModules := fun z => by
    rw [z, sg] at at_a
    cases at_a
    cases sd
  let T : Hp := upd (fun c => if c ∈ cs.map (·.2) then some (.tbl #[]) else none) sysModules (.frz so (.ext fun h => ∃ o, h.get? sysModules = some o))
  have tS : T sysModules = some (.frz so (.ext fun h => ∃ o, h.get? sysModules = some o)) := upd_same
  have tIn : ∀ {c}, c ∈ cs.map (·.2) → T c = some (.tbl #[]) := fun {c} hc => by
    show upd _ _ _ c = _
    rw [upd_ne fun z => ns1 (by rw [← z]; exact hc)]
    exact if_pos hc
  have tOut : ∀ {c}, c ∉ cs.map (·.2) → c ≠ sysModules → T c = none := fun {c} hc hn => by
    show upd _ _ _ c = _
    rw [upd_ne hn]
    exact if_neg hc
  have tKind : ∀ c, T c = none ∨ c ∈ cs.map (·.2) ∨ ∃ o u, T c = some (.frz o u) := fun c => by
    by_cases hc : c ∈ cs.map (·.2)
    · exact .inr (.inl hc)
    · by_cases hs : c = sysModules
      · exact .inr (.inr ⟨_, _, by rw [hs]; exact tS⟩)
      · exact .inl (tOut hc hs)
  have tOk : ∀ (H : Hp) c u, T c = some u → ObjOk P w H s.heap c u := fun H c u z => by
    by_cases hc : c ∈ cs.map (·.2)
    · rw [tIn hc] at z
      cases z
      exact isTab c hc
    · by_cases hs : c = sysModules
      · subst hs
        rw [tS] at z
        cases z
        exact ⟨sg, ⟨so, sg⟩, ⟨so, sg⟩, fun h1 h2 ⟨o, e⟩ k => ⟨o, k o e⟩⟩
      · rw [tOut hc hs] at z
        cases z
  have tOne : ∀ c, T c ≠ none → c ∈ cs.map (·.2) ∨ c = sysModules := fun c z => by
    by_cases hc : c ∈ cs.map (·.2)
    · exact .inl hc
    · by_cases hs : c = sysModules
      · exact .inr hs
      · exact absurd (tOut hc hs) z
  cases hk : K.lookup a with
  | some o =>
    have e := inK a o hk
    rw [at_a] at e
    cases e
    have hS : SqL K T a (ns.map V.int) := .inr ⟨_, us.toArray, _, hk, rfl, rfl, rfl, by rw [List.size_toArray, nums.length]; exact small, rel⟩
    exact quiet_endT (H := T) inK nsG nsB bb nl ng at_a room tabs bm F bind (want T (fun p hp => tIn (mem p hp)) ⟨_, _, tS⟩ hS) sys noSys (fun p hp => tIn (mem p hp)) tKind (fun c u z => tOk T c u z) fun c z => .inr (tOne c z)
  | none =>
    have hS : SqL K (upd T a (.frz { cls := .type "list", data := .seq us.toArray } (.lst (ns.map V.int)))) a (ns.map V.int) := .inl (.inr ⟨_, upd_same⟩)
    have up : ∀ p ∈ cs, upd T a (.frz { cls := .type "list", data := .seq us.toArray } (.lst (ns.map V.int))) p.2 = some (.tbl #[]) := fun p hp => by
      rw [upd_ne fun z => na (by rw [← z]; exact mem p hp)]
      exact tIn (mem p hp)
    refine quiet_endT (H := upd T a (.frz { cls := .type "list", data := .seq us.toArray } (.lst (ns.map V.int)))) inK nsG nsB bb nl ng at_a room tabs bm F bind (want _ up ⟨_, _, by rw [upd_ne ns2.symm]; exact tS⟩ hS) sys noSys up (fun c => ?_) (fun c u z => ?_) fun c z => ?_
    · by_cases hc : c = a
      · exact .inr (.inr ⟨_, _, by rw [hc]; exact upd_same⟩)
      · rw [upd_ne hc]
        exact tKind c
    · by_cases hc : c = a
      · subst hc
        rw [upd_same] at z
        cases z
        exact ⟨at_a, by rw [List.length_map]; exact small, us, _, rel, at_a⟩
      · rw [upd_ne hc] at z
        exact tOk _ c u z
    · by_cases hc : c = a
      · exact .inl ⟨hc, hk⟩
      · rw [upd_ne hc] at z
        exact .inr (tOne c z)
theorem sys_there {h : Heap} (n : h.NoSeer) : ∃ o es ep, h.get? sysModules = some o ∧ o.data = .dict es ep := by
  obtain ⟨mm, ⟨o, es, ep, e, d, _⟩, _⟩ := n.mods
  exact ⟨o, es, ep, e, d⟩
/-- what the head tells of the tables of the defs of q -/
def TabsOf (q : Program) (K : PySem.W.Frag) (h : Heap) : Prop := ∀ (x : Str) (d : DefRec) (c P : Addr), (recsOf q).find? (fun e => e.name == x) = some d → PySem.W.tabIn K x = some (c, P) → PySem.W.CodeHd h c P ∧ h.get? P = some tabNil
theorem walkGT {l : PySem.W.OpenLaw} {n k : Nat} {q : Program} {loose : List Str} {XP : (Str → Option Value) → Heap → Prop} {YP : World → Heap → Prop} {d : DefRec} {K : Params → PySem.W.Frag} {x : Str} (most : l.most = some n) (small : n ≤ sizeLine) (plain : d.params.defaults = []) (room : Room k callerA) (alone : importsNone q = true) (noSys : ∀ w : World, (K w.params).lookup sysModules = none)
    (left : ∀ (w : World) (h : Heap), YP w h → (K w.params).In h)
    (F : ∀ (w : World) (mg : Str → Option Value) (fa : Addr) (h : Heap), (K w.params).In h → h.Ns mainGlobals mg → TabsOf q (K w.params) h → mg d.name = some (.ref fa) → ∃ (fd : FuncData) (cs : List (Addr × Addr)) (sp : Sp), (∀ p ∈ cs, PySem.W.CodeHd h p.1 p.2 ∧ h.get? p.2 = some tabNil ∧ (K w.params).lookup p.2 = none) ∧ (∀ (s : Shared) (u : Value), BindsTo s fd ⟨[u], []⟩ [(x, u)]) ∧
      (∀ (H : Hp) (a : Addr) (ns : List Int), ns.length ≤ n → (∀ p ∈ cs, H p.2 = some (.tbl #[])) → Sys H → SqL (K w.params) H a (ns.map V.int) → sp [.ref a] H (fun v _ => v = .bl true) fun _ _ _ => False) ∧
      ∀ base : Heap, (K w.params).In base → base.Ns mainGlobals mg → (∀ p ∈ cs, TabB base mg p.1 p.2) → FnG l.prog w (K w.params) mg base k fa fd [x] sp) :
    PySem.W.WalkO q loose XP YP l.row.toRowW d [] (fun f vs => PySem.call f vs) := by
  refine Att.attach_call most plain fun w s0 s mg mb fa o pm cd doc a us ns G Y ho hd hcd hmg at_a nums le ng => ?_
  have inK := left w _ Y
  obtain ⟨fd, cs, sp, tabs, bind, want, fn⟩ := F w mg fa _ inK G.T.g (fun x d c P h1 h2 => PySem.W.tab_of G.T inK h1 h2) hmg
  exact quiet_callT inK G.T.g G.T.b G.T.builtins G.T.nolimit ng at_a nums (Nat.le_trans le small) room tabs G.T.bmain fn bind (sys_there (G.T.seer alone)) (noSys w) fun H hH hY hS => want H a ns le hH hY hS
end Gu
namespace Gu
open PySem PySem.Spec PyProof.Rows L2
section
variable {P : Program} {w : World} {K : PySem.W.Frag} {mg : Str → Option Value} {base : Heap}
/-! ### _law_ladle -/
def spLadle : Sp := fun vs H Q _ => ∃ (p : Addr) (m : Int), vs = [.ref p, .int m] ∧ Pot H p ∧ 0 < m ∧ m < 1000000 ∧ ∀ d G, 0 ≤ d → d < m → Ladled p H G → Q (.int d) G
theorem cal_ladle (B : Bi mg) (D : At K mg "_law_ladle" s_law_ladle ps_law_ladle) : Cal P w K mg base 1 "_law_ladle" ps_law_ladle spLadle := by
  refine D.cal sc_law_ladle (fun vs H Q E h => ?_) (fun f cdv A outer s H vs Q E hr h => ?_)
  · obtain ⟨p, m, rfl, _⟩ := h
    rfl
  · obtain ⟨p, m, rfl, ⟨x, y, z, hp⟩, m0, m1, k⟩ := h
    refine ⟨_, (pss_cons (ps_asg (pe_op op_add (pe_ix ix_list (pv 0) pe_int (fun _ _ => rfl)) pe_int) (pg_sub (pv 0) pe_int set_list))
      (pss_cons (ps_if (pt_cmpR op_gt (pe_ix ix_list (pv 0) pe_int (fun _ _ => rfl)) pe_int (nomark _)) (pss_cons (ps_asg (pe_callB call_divmod (by rfl) B.divmod (by decide +kernel) (pa_cons (pe_callTy call_int1 (by rfl) B.int (by decide +kernel) (pa_cons (pe_ix ix_list (pv 0) pe_int (fun _ _ => rfl)) pa_nil)) (pa_cons (pv 1) pa_nil))) (pg_tup rfl (pgs_cons (pg_sub (pv 0) pe_int set_list) (pgs_cons (pg_name (i := 2) sc_law_ladle.nd rfl (.inl rfl)) pgs_nil))))
      (pss_one (ps_ret (pv 2)))) pss_nil)
      (pss_cons (ps_asg (pe_op op_mod (pe_callTy call_int1 (by rfl) B.int (by decide +kernel) (pa_cons (pe_op op_add (pe_op op_add (pe_op op_mul (pe_ix ix_list (pv 0) pe_int (fun _ _ => rfl)) pe_int) (pe_op op_mul (pe_ix ix_list (pv 0) pe_int (fun _ _ => rfl)) pe_int)) (pe_op op_mul (pe_op op_fdiv (pe_ix ix_list (pv 0) pe_int (fun _ _ => rfl)) pe_int) pe_int)) pa_nil)) pe_int) (pg_sub (pv 0) pe_int set_list))
      (pss_one (ps_ret (pe_op op_mod (pe_callTy call_int1 (by rfl) B.int (by decide +kernel) (pa_cons (pe_op op_fdiv (pe_ix ix_list (pv 0) pe_int (fun _ _ => rfl)) pe_int) pa_nil)) (pv 1))))))), ?_⟩
    refine ⟨_, rfl, p, _, _, _, rfl, rfl, .inl (.inl hp), (rfl : atI [V.int x, V.int y, V.int z] 1 = some (V.int y)), _, _, rfl, rfl, _, rfl, p, _, _, 1, rfl, rfl, hp, rfl, ?_⟩
    have h1 : upd H p (.lst ([V.int x, V.int y, V.int z].set 1 (.int (y + 3)))) p = some (.lst [.int x, .int (y + 3), .int z]) := upd_same
    refine ⟨_, rfl, p, _, _, _, rfl, rfl, .inl (.inl h1), (rfl : atI [V.int x, V.int (y + 3), V.int z] 0 = some (V.int x)), _, _, rfl, rfl, _, rfl, ite2 (fun _ => ?_) (fun _ => ?_)⟩
    · refine ⟨_, rfl, p, _, _, _, rfl, rfl, .inl (.inl h1), (rfl : atI [V.int x, V.int (y + 3), V.int z] 0 = some (V.int x)), .inl ⟨_, rfl, _, rfl, _, _, rfl, ⟨m0, by omega⟩, fun q hq => ?_⟩⟩
      have npq : p ≠ q := ne_of_none h1 hq
      refine ⟨q, _, rfl, .inl (.inl upd_same), rfl, _, _, rfl, ⟨_, rfl, p, _, _, 0, rfl, rfl, (by rw [upd_ne npq]; exact h1), rfl, _, _, rfl, rfl, ?_⟩⟩
      refine ⟨_, rfl, ?_⟩
      refine k (x % m) _ (Int.emod_nonneg _ (by omega)) (Int.emod_lt_of_pos _ m0) ⟨⟨_, _, _, upd_same⟩, fun b o e n => ?_⟩
      have hb : upd H p (.lst ([V.int x, V.int y, V.int z].set 1 (.int (y + 3)))) b = some o := by rw [upd_ne n]; exact e
      rw [upd_ne n, upd_ne (ne_of_none hb hq), upd_ne n]
      exact e
    · refine ⟨_, rfl, p, _, _, _, rfl, rfl, .inl (.inl h1), (rfl : atI [V.int x, V.int (y + 3), V.int z] 2 = some (V.int z)), _, _, rfl, rfl, .inr ⟨by decide, by decide⟩, _, rfl, p, _, _, _, rfl, rfl, .inl (.inl h1), (rfl : atI [V.int x, V.int (y + 3), V.int z] 1 = some (V.int (y + 3))), _, _, rfl, rfl, .inr ⟨by decide, by decide⟩, _, _, rfl, rfl, ?_⟩
      refine ⟨_, rfl, p, _, _, _, rfl, rfl, .inl (.inl h1), (rfl : atI [V.int x, V.int (y + 3), V.int z] 2 = some (V.int z)), _, _, rfl, rfl, ⟨by decide, by decide⟩, _, _, rfl, rfl, .inr ⟨by decide, by decide⟩, _, _, rfl, rfl, .inl ⟨_, rfl, _, _, rfl, rfl, (by decide : (0 : Int) < 1999999889), ?_⟩⟩
      refine ⟨_, rfl, p, _, _, 2, rfl, rfl, h1, rfl, ?_⟩
      refine ⟨_, rfl, p, _, _, _, rfl, rfl, .inl (.inl upd_same), rfl, _, _, rfl, rfl, ⟨by decide, by decide⟩, .inl ⟨_, rfl, _, rfl, _, _, rfl, rfl, m0, ?_⟩⟩
      refine k _ _ (Int.emod_nonneg _ (by omega)) (Int.emod_lt_of_pos _ m0) ⟨⟨_, _, _, upd_same⟩, fun b o e n => ?_⟩
      rw [upd_ne n, upd_ne n]
      exact e
/-! ### _law_one_of: of a list or of a text -/
def spOneOf (K : PySem.W.Frag) : Sp := fun vs H Q _ => ∃ (p : Addr), Pot H p ∧
  ((∃ (l : Addr) (xs : List V), vs = [.ref p, .ref l] ∧ SqL K H l xs ∧ l ≠ p ∧ 0 < xs.length ∧ xs.length < 1000 ∧ ∀ v G, v ∈ xs → Ladled p H G → Q v G) ∨
   (∃ (z : Str), vs = [.ref p, .str z] ∧ 0 < z.cps.toList.length ∧ z.cps.toList.length < 1000 ∧ ∀ c G, c ∈ z.cps.toList → Ladled p H G → Q (.str ⟨#[c]⟩) G))
theorem Ladled.seq {K : PySem.W.Frag} {H G : Hp} {p l : Addr} {xs : List V} (a : Ladled p H G) (n : l ≠ p) (h : SqL K H l xs) : SqL K G l xs := by
  rcases h with (h | ⟨o, h⟩) | h
  · exact .inl (.inl (a.keep _ _ h n))
  · exact .inl (.inr ⟨o, a.keep _ _ h n⟩)
  · exact .inr h
theorem at_in {α : Type} {xs : List α} {d : Int} (h0 : 0 ≤ d) (h1 : d < (xs.length : Int)) : ∃ v, v ∈ xs ∧ atI xs d = some v := by
  obtain ⟨j, rfl⟩ := Int.eq_ofNat_of_zero_le h0
  have hj : j < xs.length := by omega
  exact ⟨xs[j], List.getElem_mem hj, atI_nat (List.getElem?_eq_getElem hj)⟩
theorem cal_oneOf (B : Bi mg) (D : At K mg "_law_one_of" s_law_one_of ps_law_one_of) (C_law_ladle : Cal P w K mg base 1 "_law_ladle" ps_law_ladle spLadle) : Cal P w K mg base 2 "_law_one_of" ps_law_one_of (spOneOf K) := by
  refine D.cal sc_law_one_of (fun vs H Q E h => ?_) (fun f cdv A outer s H vs Q E hr h => ?_)
  · obtain ⟨p, _, ⟨l, xs, rfl, _⟩ | ⟨z, rfl, _⟩⟩ := h
    · rfl
    · rfl
  · refine ⟨_, (pss_one (ps_ret (pe_ix ix_seq (pv 1) (pe_own C_law_ladle hr (by decide) (by rfl) (pa_cons (pv 0) (pa_cons (pe_callB call_len (by rfl) B.len (by decide +kernel) (pa_cons (pv 1) pa_nil)) pa_nil))) (fun _ _ => rfl)))), ?_⟩
    obtain ⟨p, hp, ⟨l, xs, rfl, hl, np, l0, l1, k⟩ | ⟨z, rfl, l0, l1, k⟩⟩ := h
    · refine ⟨_, rfl, _, rfl, _, rfl, _, _, rfl, .inl ⟨_, hl, rfl⟩, p, _, rfl, hp, by omega, by omega, fun d G d0 d1 L => ?_⟩
      obtain ⟨v, hv, ha⟩ := at_in (xs := xs) d0 d1
      exact .inl ⟨l, xs, d, v, rfl, rfl, L.seq np hl, ha, k v G hv L⟩
    · have ez : z.length = z.cps.toList.length := rfl
      refine ⟨_, rfl, _, rfl, _, rfl, _, _, rfl, ⟨Nat.le_of_lt (small1000 (by omega)), rfl⟩, p, _, rfl, hp, by omega, by omega, fun d G d0 d1 L => ?_⟩
      obtain ⟨c, hc, ha⟩ := at_in (xs := z.cps.toList) d0 (by omega)
      exact .inr (.inr ⟨z, d, c, rfl, rfl, Nat.le_of_lt (small1000 (by omega)), ha, k c G hc L⟩)
/-! ### _law_pot -/
def spPot (K : PySem.W.Frag) : Sp := fun vs H Q _ => ∃ (a : Addr) (k : Nat) (ns : List Int), vs = [.ref a, .int (k : Int)] ∧ SqL K H a (ns.map V.int) ∧ k < 1000 ∧ ∀ p G, H p = none → Pot G p → Same H G → Q (.ref p) G
theorem cal_pot (B : Bi mg) (D : At K mg "_law_pot" s_law_pot ps_law_pot) : Cal P w K mg base 1 "_law_pot" ps_law_pot (spPot K) := by
  refine D.cal sc_law_pot (fun vs H Q E h => ?_) (fun f cdv A outer s H vs Q E hr h => ?_)
  · obtain ⟨a, k, ns, rfl, _⟩ := h
    rfl
  · obtain ⟨a, k, ns, rfl, hS, hk, q⟩ := h
    refine ⟨_, (pss_cons (ps_set (i := 2) sc_law_pot.nd rfl (.inl rfl) (pe_mid (pe_ifExp (pt_cmpR op_lt (pv 1) (pe_callB call_len_seq (by rfl) B.len (by decide +kernel) (pa_cons (pv 0) pa_nil)) (nomark _)) (pe_callTy call_int1 (by rfl) B.int (by decide +kernel) (pa_cons (pe_ix ix_list (pv 0) (pv 1) (fun _ _ => rfl)) pa_nil)) (pe_op op_add (pe_op op_mul pe_int (pv 1)) pe_int))))
      (pss_cons (ps_set (i := 3) sc_law_pot.nd rfl (.inl rfl) (pe_op op_add pe_int (pe_op op_mul pe_int (pv 1))))
      (pss_cons (ps_for PassesOwn.never rfl (pi_list (pe_slice sl_list (pv 0) po_none (po_some pe_int))) (pg_name (i := 4) sc_law_pot.nd rfl (.inl rfl))
      (pss_one (ps_set (i := 3) sc_law_pot.nd rfl (.inl rfl) (pe_op op_mod (pe_callTy call_int1 (by rfl) B.int (by decide +kernel) (pa_cons (pe_op op_add (pe_op op_mul (pv 3) pe_int) (pe_op op_mod (pe_callTy call_int1 (by rfl) B.int (by decide +kernel) (pa_cons (pv 4) pa_nil)) pe_int)) pa_nil)) pe_int))))
      (pss_one (ps_ret (pe_lst (pa_cons (pe_mid (pe_ifExp (PW.pt (pw_or (pt_cmpR op_lt (pv 2) pe_int (nomark _)) (pw_or1 (pt_cmpR op_ge (pv 2) (pe_op op_pow pe_int pe_int) (nomark _))))) (pe_callB call_abs (by rfl) B.abs (by decide +kernel) (pa_cons (pv 2) pa_nil)) pe_int)) (pa_cons pe_int (pa_cons (pe_op op_mod (pe_callTy call_int1 (by rfl) B.int (by decide +kernel) (pa_cons (pe_op op_add (pe_op op_mul (pv 3) pe_int) (pe_op op_mod (pv 2) pe_int)) pa_nil)) pe_int) pa_nil))))))))), ?_⟩
    refine ⟨fun v G => (∃ i : Int, v = .int i) ∧ G = H, ?_, ?_⟩
    · refine ⟨_, rfl, _, rfl, a, _, rfl, .inl hS, _, _, rfl, rfl, _, rfl, ite2 (fun e => ?_) (fun _ => ?_)⟩
      · have hlt := of_decide_eq_true e
        have hj : k < ns.length := by
          rw [List.length_map] at hlt
          omega
        refine ⟨_, rfl, _, rfl, a, _, _, _, rfl, rfl, hS, atI_nat (j := k) (v := .int ns[k]) (by rw [List.getElem?_map, List.getElem?_eq_getElem hj]; rfl), .inl ⟨_, rfl, ⟨_, rfl⟩, rfl⟩⟩
      · refine ⟨_, rfl, _, _, rfl, rfl, .inl ⟨by decide, by decide⟩, _, _, rfl, rfl, ⟨_, rfl⟩, rfl⟩
    · rintro _ H0 ⟨⟨own, rfl⟩, eH⟩
      subst eH
      refine ⟨_, rfl, _, _, rfl, rfl, .inl ⟨by decide, by decide⟩, _, _, rfl, rfl, ?_⟩
      refine ⟨_, rfl, 14, rfl, a, _, rfl, hS, fun c nc => ?_⟩
      have sc : Same H0 (upd H0 c (.lst (cutV (ns.map V.int) none (some 14)))) := same_new nc
      have hC : cutV (ns.map V.int) none (some 14) = (ns.take 14).map V.int := by
        unfold cutV
        rw [HT.sIx_none, show HT.sIx (ns.map V.int).length (ns.map V.int).length (some 14) = min 14 (ns.map V.int).length from HT.sIx_nat _ _ 14, List.drop_zero, Nat.sub_zero, List.map_take, List.take_eq_take_iff]
        omega
      refine ⟨c, rfl, ⟨_, .inl (.inl upd_same)⟩, for_list (K := K) (a := c) (xs := (ns.take 14).map V.int) (fun i σ J => ∃ (mx : Int) (u : Option V), σ = [some (.ref a), some (.int (k : Int)), some (.int own), some (.int mx), u] ∧ Same H0 J ∧ J c = some (.lst ((ns.take 14).map V.int)))
        ⟨_, none, rfl, sc, by rw [upd_same, hC]⟩ (fun i σ J _ ⟨_, _, _, _, e⟩ => .inl (.inl e)) ?_ ?_⟩
      · rintro i v σ J hi ⟨mx, u, rfl, sJ, eJ⟩
        obtain ⟨t, rfl⟩ : ∃ t, v = V.int t := by
          rw [List.getElem?_map] at hi
          cases e : (ns.take 14)[i]? with
          | none =>
            rw [e] at hi
            cases hi
          | some t =>
            rw [e] at hi
            exact ⟨t, (Option.some.inj hi).symm⟩
        refine ⟨_, rfl, _, _, rfl, rfl, .inr ⟨by decide, by decide⟩, _, rfl, .inl ⟨_, rfl, _, _, rfl, rfl, (by decide : (0 : Int) < 1999999889), _, _, rfl, rfl, .inl ⟨_, rfl, _, _, rfl, rfl, (by decide : (0 : Int) < 1999999889), ?_⟩⟩⟩
        exact ⟨_, _, rfl, sJ, eJ⟩
      · rintro σ J ⟨mx, u, rfl, sJ, eJ⟩
        refine ⟨fun v J1 => (∃ i : Int, v = .int i) ∧ J1 = J, ?_, ?_⟩
        · refine ⟨_, rfl, _, _, rfl, rfl, _, rfl, ite2 (fun _ => ?_) (fun _ => ?_)⟩
          · refine iteT ⟨_, rfl, _, rfl, ⟨_, rfl⟩, rfl⟩
          · refine ⟨_, rfl, _, _, rfl, rfl, ⟨by decide, by decide, by decide⟩, _, _, rfl, rfl, _, rfl, ite2 (fun _ => ⟨_, rfl, _, rfl, ⟨_, rfl⟩, rfl⟩) (fun _ => ⟨⟨_, rfl⟩, rfl⟩)⟩
        · rintro _ _ ⟨⟨x, rfl⟩, rfl⟩
          refine ⟨_, rfl, _, _, rfl, rfl, .inr ⟨by decide, by decide⟩, _, rfl, _, _, rfl, rfl, (by decide : (0 : Int) < 1999999889), _, _, rfl, rfl, .inl ⟨_, rfl, _, _, rfl, rfl, (by decide : (0 : Int) < 1999999889), ?_⟩⟩
          refine ⟨by show 3 ≤ sizeLine; decide, fun p np => ?_⟩
          exact q p _ (sJ.free np) ⟨_, _, _, upd_same⟩ (sJ.trans (same_new np))
end
end Gu
namespace Gu
open PySem PySem.Spec PyProof.Rows L2
/-! ### _law_told -/
def marks : List Str := ["", "~", "..", "...", "a.b", "~"]
/-- four things as they are drawn -/
structure Four (l h t : Int) (z : Str) : Prop where
  l0 : 0 ≤ l
  l1 : l ≤ 40
  h0 : 0 ≤ h
  h1 : h ≤ 40
  t0 : 0 ≤ t
  t1 : t ≤ 40
  z : z ∈ marks
theorem marks_len {z : Str} (h : z ∈ marks) : z.cps.toList.length ≤ 3 := by
  have a : ∀ y ∈ marks, y.cps.toList.length ≤ 3 := by decide +kernel
  exact a z h
end Gu
namespace Gu
open PySem PySem.Spec PyProof.Rows L2
/-! ### _law_tolds -/
structure Rec where
  l : Int
  h : Int
  t : Int
  z : Str
def Rec.vs (r : Rec) : List V := [.int r.l, .int r.h, .int r.t, .str r.z]
def Rec.ok (r : Rec) : Prop := Four r.l r.h r.t r.z
theorem Pot.ne {H : Hp} {p q : Addr} (h : Pot H p) (n : H q = none) : q ≠ p := fun e => by
  subst e
  obtain ⟨o, ho⟩ := h.some
  rw [n] at ho
  cases ho
theorem yes {σ : L2.St} {H : Hp} {Q : Bool → Hp → Prop} (h : Q true H) : tYes σ H Q := h
section
variable {P : Program} {w : World} {K : PySem.W.Frag} {mg : Str → Option Value} {base : Heap}
/-- told tuples: a list of them at D -/
structure ToldsAt (G : Hp) (D : Addr) (ps : List (Addr × Rec)) : Prop where
  ls : G D = some (.lst (ps.map fun q => V.ref q.1))
  tp : ∀ q ∈ ps, G q.1 = some (.tup q.2.vs) ∧ q.2.ok
end
end Gu
namespace Gu
open PySem PySem.Spec PyProof.Rows L2
/-! ### is_integer, is_text -/
/-- isinstance(x, T) is b -/
def Isa (K : PySem.W.Frag) (H : Hp) (x : V) (T : String) (b : Bool) : Prop := ∃ t, TyX K H x t ∧ PySem.W.kitOne K t (.type T) = some b
def signs : Str := ".0123456789abcdefghijklmnopqrstuvwxyz~"
def isTxt (z : Str) (m : Int) : Bool := decide ((z.length : Int) ≤ m) && z.cps.toList.all fun c => decide (c ∈ signs.cps.toList)
section
variable {P : Program} {w : World} {K : PySem.W.Frag} {mg : Str → Option Value} {base : Heap}
theorem Isa.int_int {H : Hp} {i : Int} : Isa K H (.int i) "int" true := ⟨_, .base (.int i), kit_ty (by decide +kernel)⟩
theorem Isa.int_bool {H : Hp} {i : Int} : Isa K H (.int i) "bool" false := ⟨_, .base (.int i), kit_ty (by decide +kernel)⟩
theorem Isa.str_str {H : Hp} {z : Str} : Isa K H (.str z) "str" true := ⟨_, .base (.str z), kit_ty (by decide +kernel)⟩
def spIsInteger (K : PySem.W.Frag) : Sp := fun vs H Q _ => ∃ (x : V) (a b : Int), vs = [x, .int a, .int b] ∧
  ((∃ v, x = .int v ∧ Q (.bl (decide (a ≤ v ∧ v ≤ b))) H) ∨ (Isa K H x "int" false ∧ Q (.bl false) H) ∨ (Isa K H x "int" true ∧ Isa K H x "bool" true ∧ Q (.bl false) H))
theorem cal_isInteger (B : Bi mg) (D : At K mg "is_integer" s_is_integer ps_is_integer) : Cal P w K mg base 1 "is_integer" ps_is_integer (spIsInteger K) := by
  refine D.cal sc_is_integer (fun vs H Q E h => ?_) (fun f cdv A outer s H vs Q E hr h => ?_)
  · obtain ⟨x, a, b, rfl, _⟩ := h
    rfl
  · obtain ⟨x, a, b, rfl, h⟩ := h
    refine ⟨_, (pss_cons (ps_if (PW.pt (pw_or (pt_not (pt_val (pe_callB call_isi (by rfl) B.isinstance (by decide +kernel) (pa_cons (pv 0) (pa_cons (pe_bltn (v := .ty "int") (by rfl) B.int (by decide +kernel) rfl) pa_nil))))) (pw_or1 (pt_val (pe_callB call_isi (by rfl) B.isinstance (by decide +kernel) (pa_cons (pv 0) (pa_cons (pe_bltn (v := .ty "bool") (by rfl) B.bool (by decide +kernel) rfl) pa_nil))))))) (pss_one (ps_ret pe_bl)) pss_nil)
      (pss_one (ps_ret (pe_chain op_le op_le (pv 1) (pv 0) (pv 2))))), ?_⟩
    rcases h with ⟨v, rfl, k⟩ | ⟨⟨t, i1, i2⟩, k⟩ | ⟨⟨t, i1, i2⟩, ⟨t', j1, j2⟩, k⟩
    · obtain ⟨t, i1, i2⟩ := Isa.int_int (K := K) (H := H) (i := v)
      obtain ⟨t', j1, j2⟩ := Isa.int_bool (K := K) (H := H) (i := v)
      refine ⟨_, rfl, _, _, t, _, true, rfl, .ty _, i1, i2, _, rfl, iteF ⟨_, rfl, _, _, t', _, false, rfl, .ty _, j1, j2, _, rfl, iteF ?_⟩⟩
      refine ⟨_, rfl, _, rfl, _, _, rfl, rfl, _, rfl, ?_⟩
      by_cases e1 : a ≤ v
      · rw [decide_eq_true e1]
        refine iteT ⟨_, rfl, _, _, rfl, rfl, ?_⟩
        have e : decide (a ≤ v ∧ v ≤ b) = decide (v ≤ b) := by simp only [e1, true_and]
        rw [e] at k
        exact k
      · rw [decide_eq_false e1]
        refine iteF ?_
        have e : decide (a ≤ v ∧ v ≤ b) = false := by simp only [e1, false_and, decide_false]
        rw [e] at k
        exact k
    · refine ⟨_, rfl, _, _, t, _, false, rfl, .ty _, i1, i2, _, rfl, iteT (iteT k)⟩
    · refine ⟨_, rfl, _, _, t, _, true, rfl, .ty _, i1, i2, _, rfl, iteF ⟨_, rfl, _, _, t', _, true, rfl, .ty _, j1, j2, _, rfl, iteT k⟩⟩
def spIsText (K : PySem.W.Frag) : Sp := fun vs H Q _ => ∃ (x : V) (m : Int), vs = [x, .int m] ∧
  ((∃ z : Str, x = .str z ∧ z.length ≤ 1000 ∧ ∀ G, Same H G → Q (.bl (isTxt z m)) G) ∨ (Isa K H x "str" false ∧ Q (.bl false) H))
theorem cal_isText (B : Bi mg) (D : At K mg "is_text" s_is_text ps_is_text) : Cal P w K mg base 1 "is_text" ps_is_text (spIsText K) := by
  refine D.cal sc_is_text (fun vs H Q E h => ?_) (fun f cdv A outer s H vs Q E hr h => ?_)
  · obtain ⟨x, m, rfl, _⟩ := h
    rfl
  · obtain ⟨x, m, rfl, h⟩ := h
    refine ⟨_, (pss_cons (ps_if (PW.pt (pw_or (pt_not (pt_val (pe_callB call_isi (by rfl) B.isinstance (by decide +kernel) (pa_cons (pv 0) (pa_cons (pe_bltn (v := .ty "str") (by rfl) B.str (by decide +kernel) rfl) pa_nil))))) (pw_or1 (pt_cmpR op_gt (pe_callB call_len (by rfl) B.len (by decide +kernel) (pa_cons (pv 0) pa_nil)) (pv 1) (nomark _))))) (pss_one (ps_ret pe_bl)) pss_nil)
      (pss_one (ps_ret (pe_callB (cr_all rfl) (by rfl) B.all (by decide +kernel) (pa_cons (pe_lc (own := [("character", 2)]) (by rfl) sc_is_text.nd (pi_str (pv 0)) (blkOk_by (own := [("character", 2)]) (N := ["value", "most", "character"]) (sc := defScope s_is_text) (by decide +kernel)) (fun _ _ _ _ _ => pg_name (i := 2) sc_is_text.nd rfl (.inl rfl)) (fun _ _ _ _ _ => pts_nil) (fun _ _ _ _ _ => (pe_cmpR op_in_sign (pv 2) (pe_cst B.SIGNS (by rfl)) (by rfl)))) pa_nil))))), ?_⟩
    rcases h with ⟨z, rfl, zl, k⟩ | ⟨⟨t, i1, i2⟩, k⟩
    · obtain ⟨t, i1, i2⟩ := Isa.str_str (K := K) (H := H) (z := z)
      refine ⟨_, rfl, _, _, t, _, true, rfl, .ty _, i1, i2, _, rfl, iteF ⟨_, rfl, _, _, rfl, ⟨Nat.le_of_lt (small1000 zl), rfl⟩, _, rfl, _, _, rfl, rfl, _, rfl, ite2 (fun e => ?_) (fun e => ?_)⟩⟩
      · have e1 : ¬ (z.length : Int) ≤ m := by
          have := of_decide_eq_true e
          omega
        have e2 : isTxt z m = false := by
          unfold isTxt
          rw [decide_eq_false e1, Bool.false_and]
        rw [e2] at k
        exact k H (Same.refl H)
      · have e1 : (z.length : Int) ≤ m := by
          have h2 : ¬ m < (z.length : Int) := fun h3 => e (decide_eq_true h3)
          omega
        refine ⟨_, rfl, z, rfl, fun D nD => lc_it walk_str (fun i J => Same H J ∧ J D = some (.lst (((z.cps.toList.take i).map fun c => decide (c ∈ signs.cps.toList)).map V.bl)))
          ⟨same_new nD, by rw [upd_same]; rfl⟩ (fun _ _ _ _ => trivial) ?_ ?_⟩
        · rintro i v J _ hi ⟨sJ, eJ⟩ ⟨rfl, c, hc, rfl⟩
          refine ⟨rfl, yes (iteT ?_)⟩
          refine ⟨_, rfl, c, signs, rfl, rfl, _, eJ, small1000 ?_, ?_, ?_⟩
          · rw [List.length_map, List.length_map, List.length_take]
            have : z.length = z.cps.toList.length := rfl
            omega
          · exact fun b o e => by
              rw [upd_ne (ne_of_none e nD)]
              exact sJ b o e
          · rw [upd_same]
            have hc' : z.cps.toList[i]? = some c := by
              rw [← Array.getElem?_toList] at hc
              exact hc
            rw [List.take_add_one, hc', List.map_append, List.map_append]
            rfl
        · rintro J ⟨sJ, eJ⟩
          refine ⟨D, ((z.cps.toList.take z.cps.size).map fun c => decide (c ∈ signs.cps.toList)), rfl, .inl (.inl eJ), ?_⟩
          have e2 : ((z.cps.toList.take z.cps.size).map fun c => decide (c ∈ signs.cps.toList)).all id = isTxt z m := by
            unfold isTxt
            rw [decide_eq_true e1, Bool.true_and, List.take_of_length_le (show z.cps.toList.length ≤ z.cps.size from Nat.le_refl _), List.all_map]
            rfl
          rw [e2]
          exact k J sJ
    · refine ⟨_, rfl, _, _, t, _, false, rfl, .ty _, i1, i2, _, rfl, iteT (iteT k)⟩
end
end Gu
namespace Gu
open PySem PySem.Spec PyProof.Rows L2
/-! ### is_tuple -/
theorem isaTupP {K : PySem.W.Frag} {H : Hp} {l : Addr} {xs : List V} (h : SqT K H l xs) : Isa K H (.ref l) "tuple" true := by
  rcases h with (h | ⟨o, h⟩) | ⟨o, its, n, e, c, _⟩
  · exact ⟨_, .base (.tup h), kit_ty (by decide +kernel)⟩
  · exact ⟨_, .fTuple h, kit_ty (by decide +kernel)⟩
  · exact ⟨_, .kTuple e c, kit_ty (by decide +kernel)⟩
section
variable {P : Program} {w : World} {K : PySem.W.Frag} {mg : Str → Option Value} {base : Heap} {C : Addr}
def spIsTuple (K : PySem.W.Frag) : Sp := fun vs H Q _ => ∃ (x : V) (a b : Int), vs = [x, .int a, .int b] ∧
  ((∃ (l : Addr) (xs : List V), x = .ref l ∧ SqT K H l xs ∧ Q (.bl (decide (a ≤ (xs.length : Int) ∧ (xs.length : Int) ≤ b))) H) ∨ (Isa K H x "tuple" false ∧ Q (.bl false) H))
theorem cal_isTuple (B : Bi mg) (D : At K mg "is_tuple" s_is_tuple ps_is_tuple) : Cal P w K mg base 1 "is_tuple" ps_is_tuple (spIsTuple K) := by
  refine D.cal sc_is_tuple (fun vs H Q E h => ?_) (fun f cdv A outer s H vs Q E hr h => ?_)
  · obtain ⟨x, a, b, rfl, _⟩ := h
    rfl
  · obtain ⟨x, a, b, rfl, h⟩ := h
    refine ⟨_, (pss_one (ps_ret (pe_and (pe_callB call_isi (by rfl) B.isinstance (by decide +kernel) (pa_cons (pv 0) (pa_cons (pe_bltn (v := .ty "tuple") (by rfl) B.tuple (by decide +kernel) rfl) pa_nil))) (pe_one (pe_chain op_le op_le (pv 1) (pe_callB call_len (by rfl) B.len (by decide +kernel) (pa_cons (pv 0) pa_nil)) (pv 2)))))), ?_⟩
    rcases h with ⟨l, xs, rfl, hT, k⟩ | ⟨⟨t, i1, i2⟩, k⟩
    · obtain ⟨t, i1, i2⟩ := isaTupP hT
      refine ⟨_, rfl, _, _, t, _, true, rfl, .ty _, i1, i2, _, rfl, iteT ?_⟩
      refine ⟨_, rfl, _, rfl, _, _, rfl, .inr ⟨_, hT, rfl⟩, _, _, rfl, rfl, _, rfl, ?_⟩
      by_cases e1 : a ≤ (xs.length : Int)
      · rw [decide_eq_true e1]
        refine iteT ⟨_, rfl, _, _, rfl, rfl, ?_⟩
        have e : decide (a ≤ (xs.length : Int) ∧ (xs.length : Int) ≤ b) = decide ((xs.length : Int) ≤ b) := by simp only [e1, true_and]
        rw [e] at k
        exact k
      · rw [decide_eq_false e1]
        refine iteF ?_
        have e : decide (a ≤ (xs.length : Int) ∧ (xs.length : Int) ≤ b) = false := by simp only [e1, false_and, decide_false]
        rw [e] at k
        exact k
    · exact ⟨_, rfl, _, _, t, _, false, rfl, .ty _, i1, i2, _, rfl, iteF k⟩
end
end Gu
namespace Gu
open PySem PySem.Spec PyProof.Rows L2
/-! ### the class Shortener, its __init__ -/
def flds (r : Rec) (b : Addr) : List (Str × V) := putF "told" (.ref b) (putF "mark" (.str r.z) (putF "tail" (.int r.t) (putF "head" (.int r.h) (putF "limit" (.int r.l) []))))
theorem flds_limit (r : Rec) (b : Addr) : (flds r b).lookup ("limit" : Str) = some (.int r.l) := by
  unfold flds
  rw [lookup_putF, if_neg (by decide +kernel), lookup_putF, if_neg (by decide +kernel), lookup_putF, if_neg (by decide +kernel), lookup_putF, if_neg (by decide +kernel), lookup_putF, if_pos rfl]
theorem flds_head (r : Rec) (b : Addr) : (flds r b).lookup ("head" : Str) = some (.int r.h) := by
  unfold flds
  rw [lookup_putF, if_neg (by decide +kernel), lookup_putF, if_neg (by decide +kernel), lookup_putF, if_neg (by decide +kernel), lookup_putF, if_pos rfl]
theorem flds_tail (r : Rec) (b : Addr) : (flds r b).lookup ("tail" : Str) = some (.int r.t) := by
  unfold flds
  rw [lookup_putF, if_neg (by decide +kernel), lookup_putF, if_neg (by decide +kernel), lookup_putF, if_pos rfl]
theorem flds_mark (r : Rec) (b : Addr) : (flds r b).lookup ("mark" : Str) = some (.str r.z) := by
  unfold flds
  rw [lookup_putF, if_neg (by decide +kernel), lookup_putF, if_pos rfl]
theorem flds_told (r : Rec) (b : Addr) : (flds r b).lookup ("told" : Str) = some (.ref b) := by
  unfold flds
  rw [lookup_putF, if_pos rfl]
/-- what a Shortener may be made of -/
structure Rec.fit (r : Rec) : Prop where
  l : 0 ≤ r.l ∧ r.l ≤ 40
  h : 0 ≤ r.h ∧ r.h ≤ 40
  t : 0 ≤ r.t ∧ r.t ≤ 40
  z : isTxt r.z 3 = true
theorem isTxt_len {z : Str} {m : Int} (h : isTxt z m = true) : (z.length : Int) ≤ m := by
  unfold isTxt at h
  rw [Bool.and_eq_true] at h
  exact of_decide_eq_true h.1
theorem Rec.ok.fit {r : Rec} (o : r.ok) : r.fit := by
  have a : ∀ y ∈ marks, isTxt y 3 = true := by decide +kernel
  exact ⟨⟨o.l0, o.l1⟩, ⟨o.h0, o.h1⟩, ⟨o.t0, o.t1⟩, a _ o.z⟩
/-- the class as the top has left it -/
structure ShC (K : PySem.W.Frag) (mg : Str → Option Value) (C : Addr) : Prop where
  cl : Cls K C
  nL : NoAttr K C "limit"
  nH : NoAttr K C "head"
  nT : NoAttr K C "tail"
  nM : NoAttr K C "mark"
  nD : NoAttr K C "told"
  g : mg "Shortener" = some (.ref C)
  ha : PySem.W.findIn K (.ref C) "__class__" = some (some (.builtin "object.__class__"))
  hn : PySem.W.specialIn K (.builtin "object.__class__") "__get__" = some (some (.builtin "getset_descriptor.__get__"))
  ht : PySem.W.takesIn K (.builtin "object.__class__") = some true
  hm : PySem.W.mroIn K C (.type "object") = some true
  kk : PySem.W.kitOne K (.ref C) (.ref C) = some true
structure InitAt (K : PySem.W.Frag) (C : Addr) : Prop where
  ex : ∃ (f : Addr) (fd : FuncData), Mk K C f ∧ Fun K "__init__" "Shortener.__init__" s_Shortener_init f fd ∧ Binds K fd ps_Shortener_init []
structure Mak (P : Program) (w : World) (K : PySem.W.Frag) (mg : Str → Option Value) (base : Heap) (k : Nat) (x : Str) (C : Addr) (sp : Sp) : Prop where
  ex : ∃ (f : Addr) (fd : FuncData) (ps : List Str), Mk K C f ∧ FnOk P w K mg base CX0 k f fd ps sp ∧ mg x = some (.ref C) ∧ Binds K fd ps []
section
variable {X : Cx} {k j : Nat} {x : Str} {C : Addr} {sp : Sp} {p pos : Pos} {e : Expr} {es : List Expr} {t : TA}
theorem pe_new (c : Mak X.prog X.w X.K X.mg X.base k x C sp) (hr : Room j X.A) (hk : k + 1 ≤ j) (hg : Gl X x) (ha : PA X (e :: es) t)
    (hdb : (x == ("__debug__" : Str)) = false := by decide) (he : starEach (e :: es) X.env = (false, eval e X.env) :: starEach es X.env := by rfl) (hpl : (backTo pos (starEach es X.env)).any (·.1) = false := by rfl) :
    PE X (.Call (.Name x p) (e :: es) [] pos) (tMake C sp [] E0 t) := by
  obtain ⟨f, fd, ps, M, F, hm, b⟩ := c.ex
  exact pe_make M F (hr.mono hk) hg hm b .nil pass0 ha hdb he hpl
end
section
variable {P : Program} {w : World} {K : PySem.W.Frag} {mg : Str → Option Value} {base : Heap} {C : Addr}
def spCheckMark : Sp := fun vs H Q _ => ∃ (z : Str), vs = [.str z] ∧ isTxt z 3 = true ∧ ∀ G, Same H G → Q .non G
theorem cal_checkMark (B : Bi mg) (D : At K mg "check_mark" s_check_mark ps_check_mark) (C_is_text : Cal P w K mg base 1 "is_text" ps_is_text (spIsText K)) : Cal P w K mg base 2 "check_mark" ps_check_mark spCheckMark := by
  refine D.cal sc_check_mark (fun vs H Q E h => ?_) (fun f cdv A outer s H vs Q E hr h => ?_)
  · obtain ⟨z, rfl, _⟩ := h
    rfl
  · obtain ⟨z, rfl, hz, k⟩ := h
    have zl := isTxt_len hz
    refine ⟨_, (pss_one (ps_if (pt_not (pt_val (pe_own C_is_text hr (by decide) (by rfl) (pa_cons (pv 0) (pa_cons (pe_cst B.MOST_MARK (by rfl)) pa_nil))))) pss_never pss_nil)), ?_⟩
    refine ⟨_, rfl, _, _, rfl, .inl ⟨z, rfl, by omega, fun G sG => ⟨_, rfl, ?_⟩⟩⟩
    rw [hz]
    exact iteF (k G sG)
def spInit (C : Addr) : Sp := fun vs H Q _ => ∃ (x dx : Addr) (r : Rec), vs = [.ref x, .int r.l, .int r.h, .int r.t, .str r.z] ∧ H x = some (.ins C dx []) ∧ r.fit ∧
  ∀ (b : Addr) (G : Hp), H b = none → G x = some (.ins C dx (flds r b)) → G b = some (.tup r.vs) → (∀ c o, H c = some o → c ≠ x → G c = some o) → Q .non G
theorem ok_init {f : Addr} {fd : FuncData} (B : Bi mg) (S : ShC K mg C) (F : Fun K "__init__" "Shortener.__init__" s_Shortener_init f fd) (C_is_integer : Cal P w K mg base 1 "is_integer" ps_is_integer (spIsInteger K)) (C_check_mark : Cal P w K mg base 2 "check_mark" ps_check_mark spCheckMark) : FnOk P w K mg base CX0 3 f fd ps_Shortener_init (spInit C) := by
  refine F.ok sc_Shortener_init (fun vs H Q E h => ?_) (fun cdv A outer s H vs Q E hr h => ?_)
  · obtain ⟨x, dx, r, rfl, _⟩ := h
    rfl
  · obtain ⟨x, dx, r, rfl, hx, fit, k⟩ := h
    refine ⟨_, (pss_cons (ps_for PassesOwn.never rfl (pi_tup (pe_tup (pa_cons (pv 1) (pa_cons (pv 2) (pa_cons (pv 3) pa_nil))))) (pg_name (i := 5) sc_Shortener_init.nd rfl (.inl rfl))
      (pss_one (ps_if (pt_not (pt_val (pe_own C_is_integer hr (by decide) (by rfl) (pa_cons (pv 5) (pa_cons pe_int (pa_cons (pe_cst B.MOST_SIGNS (by rfl)) pa_nil)))))) pss_never pss_nil)))
      (pss_cons (ps_expr (pe_own C_check_mark hr (by decide) (by rfl) (pa_cons (pv 4) pa_nil)))
      (pss_cons (ps_fld (pv 0) (pv 1) rfl)
      (pss_cons (ps_fld (pv 0) (pv 2) rfl)
      (pss_cons (ps_fld (pv 0) (pv 3) rfl)
      (pss_cons (ps_fld (pv 0) (pv 4) rfl)
      (pss_one (ps_fld (pv 0) (pe_tup (pa_cons (pv 1) (pa_cons (pv 2) (pa_cons (pv 3) (pa_cons (pv 4) pa_nil))))) rfl)))))))), ?_⟩
    refine ⟨_, rfl, _, rfl, _, rfl, by show 3 ≤ sizeLine; decide, fun T nT => ?_⟩
    have nxT : x ≠ T := ne_of_none hx nT
    have hxT : upd H T (.tup [.int r.l, .int r.h, .int r.t]) x = some (.ins C dx []) := by rw [upd_ne nxT]; exact hx
    refine ⟨T, rfl, ⟨_, .inl (.inl upd_same)⟩, for_tup (K := K) (a := T) (xs := [.int r.l, .int r.h, .int r.t]) (fun i σ J => ∃ u, σ = [some (.ref x), some (.int r.l), some (.int r.h), some (.int r.t), some (.str r.z), u] ∧ J = upd H T (.tup [.int r.l, .int r.h, .int r.t]))
      ⟨none, rfl, rfl⟩ (fun i σ J _ ⟨_, _, e⟩ => by rw [e]; exact .inl (.inl upd_same)) ?_ ?_⟩
    · rintro i v σ J hi ⟨u, rfl, rfl⟩
      obtain ⟨n, n0, n1, rfl⟩ : ∃ n : Int, 0 ≤ n ∧ n ≤ 40 ∧ v = .int n := by
        have hv := List.mem_of_getElem? hi
        simp only [List.mem_cons, List.not_mem_nil, or_false] at hv
        rcases hv with rfl | rfl | rfl
        · exact ⟨_, fit.l.1, fit.l.2, rfl⟩
        · exact ⟨_, fit.h.1, fit.h.2, rfl⟩
        · exact ⟨_, fit.t.1, fit.t.2, rfl⟩
      refine ⟨_, rfl, _, _, _, rfl, .inl ⟨_, rfl, _, rfl, ?_⟩⟩
      rw [decide_eq_true ⟨n0, n1⟩]
      exact iteF ⟨_, rfl, rfl⟩
    · rintro σ J ⟨u, rfl, rfl⟩
      refine ⟨_, rfl, _, rfl, fit.z, fun G sG => ?_⟩
      have g0 : G x = some (.ins C dx []) := sG _ _ hxT
      refine ⟨_, rfl, _, rfl, x, C, dx, [], rfl, g0, S.cl, S.nL, by decide, ?_⟩
      refine ⟨_, rfl, _, rfl, x, C, dx, _, rfl, upd_same, S.cl, S.nH, by exact Nat.lt_of_le_of_lt (length_putF _ _ _) (by decide), ?_⟩
      rw [upd_upd]
      refine ⟨_, rfl, _, rfl, x, C, dx, _, rfl, upd_same, S.cl, S.nT, by exact Nat.lt_of_le_of_lt (length_putF _ _ _) (Nat.lt_of_le_of_lt (Nat.succ_le_succ (length_putF _ _ _)) (by decide)), ?_⟩
      rw [upd_upd]
      refine ⟨_, rfl, _, rfl, x, C, dx, _, rfl, upd_same, S.cl, S.nM, by exact Nat.lt_of_le_of_lt (length_putF _ _ _) (Nat.lt_of_le_of_lt (Nat.succ_le_succ (Nat.le_trans (length_putF _ _ _) (Nat.succ_le_succ (length_putF _ _ _)))) (by decide)), ?_⟩
      rw [upd_upd]
      refine ⟨_, rfl, _, rfl, _, rfl, _, rfl, by show 4 ≤ sizeLine; decide, fun b nb => ?_⟩
      have nxb : x ≠ b := ne_of_none upd_same nb
      refine ⟨_, rfl, x, C, dx, _, rfl, (by rw [upd_ne nxb, upd_same]), S.cl, S.nD, by exact Nat.lt_of_le_of_lt (length_putF _ _ _) (Nat.lt_of_le_of_lt (Nat.succ_le_succ (Nat.le_trans (length_putF _ _ _) (Nat.succ_le_succ (Nat.le_trans (length_putF _ _ _) (Nat.succ_le_succ (length_putF _ _ _)))))) (by decide)), ?_⟩
      have nb1 : G b = none := by rw [upd_ne nxb.symm] at nb; exact nb
      have nb0 : H b = none := (same_new nT).free (sG.free nb1)
      refine k b _ nb0 upd_same (by rw [upd_ne nxb.symm, upd_same]; rfl) fun c o e nc => ?_
      rw [upd_ne nc, upd_ne (ne_of_none e nb0), upd_ne nc]
      exact sG _ _ (same_new nT _ _ e)
theorem mak_sh (B : Bi mg) (S : ShC K mg C) (D : InitAt K C) (C_is_integer : Cal P w K mg base 1 "is_integer" ps_is_integer (spIsInteger K)) (C_check_mark : Cal P w K mg base 2 "check_mark" ps_check_mark spCheckMark) : Mak P w K mg base 3 "Shortener" C (spInit C) := by
  obtain ⟨f, fd, M, F, b⟩ := D.ex
  exact ⟨f, fd, ps_Shortener_init, M, ok_init B S F C_is_integer C_check_mark, S.g, b⟩
end
end Gu
namespace PySem
open Sem (wp)
open AutoSeq1 (wpAny_loadPart')
theorem gu_new_enum (a : Addr) (vs : Array Value) (n : Nat) (dt : Option Addr) (sl : Array (Option Value)) : Meets (Builtin.«enumerate.__new__» ⟨[.type "enumerate", .ref a], []⟩) (fun _ R s =>
    s.heap.get? a = some ⟨.type "tuple", dt, .seq vs n, sl⟩ ∧ R (.ok (.ret (.ref (s.heap.push { cls := .type "tuple_iterator", data := .fields #[.ref a, .int 0 0] }).objs.size))) { s with heap := (s.heap.push { cls := .type "tuple_iterator", data := .fields #[.ref a, .int 0 0] }).push { cls := .type "enumerate", data := .fields #[.none, .bool false, .ref s.heap.objs.size, rawInt 0, .none, .none] } }) :=
  .of_wp fun prog w A R s h => by
    obtain ⟨s1, s2, s3, s4, s5⟩ := s
    obtain ⟨ha, h⟩ := h
    have sb := sub_enumerate
    have hT : Heap.IsTuple (Shared.heap ⟨s1, s2, s3, s4, s5⟩) a vs := ⟨_, ha, rfl, n, rfl⟩
    wp_walk using wpAny_loadPart' ha
    refine wpAny_stack_any fun fr => wpAny_pure ?_
    split
    · next c _ _ _ _ _ =>
      cases (c == Value.type "enumerate") <;> (wp_walk using wpAny_loadPart' ha, wpAny_pyIter_tuple hT; exact ⟨_, rfl, h⟩)
    · wp_walk using wpAny_loadPart' ha, wpAny_pyIter_tuple hT
      exact ⟨_, rfl, h⟩
section
variable {prog : Program} {w : World} {A : Around} {E : Value → Shared → Prop} {s : Shared}
theorem gu_call_enum {a : Addr} {vs : Array Value} {Q : Value → Shared → Prop} (hT : s.heap.IsTuple a vs)
    (h : ∀ g, IsEnum g (s.heap.objs.size + 1) s.heap.objs.size 0 .none → g.IsTupleIter s.heap.objs.size a 0 → (∀ b o, s.heap.get? b = some o → g.get? b = some o) → Q (.ref (s.heap.objs.size + 1)) { s with heap := g }) :
    wpAny (model prog w) A (call (.type "enumerate") [.ref a]) Q E s := by
  obtain ⟨⟨oc, od, dd, sl⟩, ha, hc, n, hd⟩ := hT
  cases (show oc = .type "tuple" from hc)
  cases (show dd = .seq vs n from hd)
  refine callType_new F.called_enumerate (by decide) (F.typeCall_enumerate_1 _) (F.newCall_enumerate_1 _) (fun o => F.args_object_init_2 o _) F.entry_enumerate_new (gu_new_enum a vs n od sl) ⟨ha, ?_⟩
  have z1 : (s.heap.push { cls := .type "tuple_iterator", data := .fields #[.ref a, .int 0 0] }).objs.size = s.heap.objs.size + 1 := Heap.size_push ..
  show _ ∧ _
  rw [z1]
  have en : IsEnum ((s.heap.push { cls := .type "tuple_iterator", data := .fields #[.ref a, .int 0 0] }).push { cls := .type "enumerate", data := .fields #[.none, .bool false, .ref s.heap.objs.size, rawInt 0, .none, .none] }) (s.heap.objs.size + 1) s.heap.objs.size 0 .none := by
    have q := Heap.get?_push_size (s.heap.push { cls := .type "tuple_iterator", data := .fields #[.ref a, .int 0 0] }) (o := { cls := .type "enumerate", data := .fields #[.none, .bool false, .ref s.heap.objs.size, rawInt 0, .none, .none] }) rfl
    rw [z1] at q
    exact q
  exact ⟨⟨_, en, rfl⟩, h _ en ⟨_, Heap.get?_push_of_some _ (Heap.get?_push_size _ rfl), rfl, rfl⟩ fun b o x => Heap.get?_push_of_some _ (Heap.get?_push_of_some _ x)⟩
end
end PySem
namespace Gu
open PySem PySem.Spec PyProof.Rows L2
/-- the tuple at a, each item in a new pair with its place -/
def EnT (K : PySem.W.Frag) (a : Addr) : It where
  go := fun i H => ∃ (xs : List V) (x : V), SqT K H a xs ∧ xs[i]? = some x
  yld := fun i H v G => ∃ T x, v = .ref T ∧ H T = none ∧ G = upd H T (.tup [.int (i : Nat), x]) ∧ ∀ xs, SqT K H a xs → xs[i]? = some x
  stop := fun i H => ∃ xs : List V, SqT K H a xs ∧ xs.length = i
theorem turn_enT {P : Program} {w : World} {K : PySem.W.Frag} {es : List Expr} {kk : Nat} {tp : Pos} (a e it : Addr) :
    Turn P w K (.Tuple es kk tp) (EnT K a) [e, it] e (fun i h => (∃ old, IsEnum h e it ((i : Nat) : Int) old) ∧ h.IsTupleIter it a i ∧ e ≠ it) where
  mem := List.mem_cons_self ..
  obj := fun i h st b hb => by
    obtain ⟨⟨old, he⟩, ⟨o, ho, hc, hd⟩, _⟩ := st
    simp only [List.mem_cons, List.not_mem_nil, or_false] at hb
    rcases hb with rfl | rfl
    · exact ⟨_, he, fun v q => nomatch q⟩
    · exact ⟨o, ho, fun v q => by rw [hd] at q; cases q⟩
  keep := fun i h g st k => by
    obtain ⟨⟨old, he⟩, hi, ne⟩ := st
    exact ⟨⟨old, k e (by simp) _ he⟩, hi.at fun o q => k it (by simp) o q, ne⟩
  item := by
    intro X hP hw hK hc i pins s σ H E I hf st hg
    subst hP hw hK
    obtain ⟨⟨old, he⟩, hit, ne⟩ := st
    obtain ⟨xs, x, hq, hx⟩ := hg
    obtain ⟨its, rv, tp, hz⟩ := I.tuple hq
    obtain ⟨u, hu, ru⟩ := rv.get hx
    have el : e < s.heap.objs.size := Heap.lt_size he
    have il : it < s.heap.objs.size := by
      obtain ⟨_, q, _⟩ := hit
      exact Heap.lt_size q
    have tp' : s.heap.IsTuple a its.toArray := tp
    have nai : a ≠ it := fun z => by
      obtain ⟨o1, g1, c1, _⟩ := tp'
      obtain ⟨o2, g2, c2, _⟩ := hit
      rw [z] at g1
      cases g1.symm.trans g2
      exact absurd (Value.type.inj (c1.symm.trans c2)) (by decide)
    have nea : e ≠ a := fun z => by
      obtain ⟨o1, g1, c1, _⟩ := tp'
      have g2 := he
      rw [z] at g2
      cases g1.symm.trans g2
      exact absurd (Value.type.inj c1) (by decide)
    have hd : X.A.in1.handled = none := I.ok.hd hc
    refine wpAny_pyNext_enum_itemD (Draws.tuple hd it a nai its.toArray) he ⟨hit, tp'⟩ (i := i) (by
      have := (List.getElem?_eq_some_iff.mp hu).1
      simpa using this) ne (by simp [ne, nea]) fun y g tk hy ho st' hT hsz hk => ?_
    have ey : y = u := by
      have : its[i]? = some y := by simpa using hy
      rw [hu] at this
      exact (Option.some.inj this).symm
    subst ey
    refine ⟨_, rfl, wpAny_letOwnedTupleGo_enum (s := { s with heap := g, toks := tk + 1 }) ho fun g2 he' sb => ?_⟩
    have hT2 : g2.get? s.heap.objs.size = some { cls := .type "tuple", data := .seq #[.int i tk, y] } := (sb.2 _ (Nat.ne_of_gt el)).trans hT
    have nw : ObjOk X.prog X.w (upd H s.heap.objs.size (.tup [.int (i : Nat), x])) g2 s.heap.objs.size (.tup [.int (i : Nat), x]) := ⟨by show 2 ≤ sizeLine; decide, [.int i tk, y], .cons ⟨_, rfl⟩ (.cons ru .nil), ⟨_, hT2, rfl, _, rfl⟩⟩
    have I1 : Inv X pins σ (upd H s.heap.objs.size (.tup [.int (i : Nat), x])) { s with heap := g2, toks := tk + 1 } :=
      I.turnedNew (ch := [e, it]) (fun b ob hb q => (sb.2 b (fun z => hb (by simp [z]))).trans (hk b ob (fun z => hb (by simp [z])) (fun z => hb (by simp [z])) q)) hf (Nat.le_refl _) nw
    refine ⟨.ref s.heap.objs.size, _, I1, rfl, ⟨_, x, rfl, I.hok.fresh (Nat.le_refl _), rfl, fun ys hy => by rw [I.tuple_inj hy hq]; exact hx⟩, ⟨⟨y, ?_⟩, st'.1.at fun o q => (sb.2 it (Ne.symm ne)).trans q, ne⟩, fun b hb => ?_⟩
    · rw [show ((i + 1 : Nat) : Int) = (i : Int) + 1 by omega]
      exact he'
    · have hb' : b < s.heap.objs.size := by
        simp only [List.mem_cons, List.not_mem_nil, or_false] at hb
        rcases hb with rfl | rfl
        · exact el
        · exact il
      rw [upd_ne (Nat.ne_of_lt hb')]
      exact (hf b hb).1
  done := by
    intro X hP hw hK hc i pins s σ H E I hf st hg
    subst hP hw hK
    obtain ⟨⟨old, he⟩, hit, ne⟩ := st
    obtain ⟨xs, hq, hx⟩ := hg
    obtain ⟨its, rv, tp, hz⟩ := I.tuple hq
    have tp' : s.heap.IsTuple a its.toArray := tp
    have nai : a ≠ it := fun z => by
      obtain ⟨o1, g1, c1, _⟩ := tp'
      obtain ⟨o2, g2, c2, _⟩ := hit
      rw [z] at g1
      cases g1.symm.trans g2
      exact absurd (Value.type.inj (c1.symm.trans c2)) (by decide)
    have hd : X.A.in1.handled = none := I.ok.hd hc
    have en : its.toArray.size = i := by
      have := rv.length
      simp only [List.size_toArray]
      omega
    obtain ⟨f0, f1, f2, f3, f4, f5⟩ := hf it (by simp)
    exact wpAny_pyNext_enum_endD (Draws.tuple hd it a nai its.toArray) he ⟨by rw [en]; exact hit, tp'⟩ fun g eb => ⟨rfl, I.turned (t' := s.toks) (fun b o hb q => eb b o hb q) f0 f1 f3 f4 f5⟩
  self := fun A i s Q E st h => by
    obtain ⟨⟨_, he⟩, _⟩ := st
    exact wpAny_pyIter_enum he h
def iEnT (K : PySem.W.Frag) (ta : TA) : TI := fun σ H R => ta σ H fun vs G => ∃ a xs, vs = [.ref a] ∧ SqT K G a xs ∧ R (EnT K a) G
theorem pi_enT {X : Cx} {e : Expr} {ta : TA} {p pos tp : Pos} {es : List Expr} {kk : Nat} (hg : Gl X "enumerate") (hm : X.mg "enumerate" = none) (ha : PA X [e] ta) (hs : starEach [e] X.env = [(false, eval e X.env)] := by rfl) :
    PI X (.Tuple es kk tp) (.Call (.Name "enumerate" p) [e] [] pos) (iEnT X.K ta) := by
  refine ⟨fun pins s σ H R I h => ?_⟩
  refine Call_ (ld_blt I hg hm boot_enumerate (PyProof.Rows.callWith_type1 (thn (ha.run pos pins s σ H _ I h) fun us s1 ⟨vs, G, I1, r1, q1⟩ => ?_) hs rfl))
  obtain ⟨a, xs, ex, hq, q⟩ := q1
  subst ex
  cases r1 with
  | cons r rr =>
    cases rr
    cases r
    obtain ⟨its, rv, tq, hz⟩ := I1.tuple hq
    refine gu_call_enum (show s1.heap.IsTuple a its.toArray from tq) fun g he hit hk => wpAny_pyIter_enum he ?_
    have I2 : Inv X pins σ G { s1 with heap := g } := I1.kept (t' := s1.toks) hk
    refine ⟨s1.heap.objs.size + 1, [s1.heap.objs.size + 1, s1.heap.objs.size], _, _, G, rfl, I2, turn_enT a (s1.heap.objs.size + 1) s1.heap.objs.size, ⟨⟨.none, he⟩, hit, Nat.succ_ne_self _⟩, fun b hb => ?_, q⟩
    have le : s1.heap.objs.size ≤ b := by
      simp only [List.mem_cons, List.not_mem_nil, or_false] at hb
      rcases hb with rfl | rfl
      · exact Nat.le_add_right _ _
      · exact Nat.le_refl _
    exact I1.fpOk le (I1.hok.fresh le)
/-- the walk of such a loop: a new pair each turn -/
theorem walk_enT {K : PySem.W.Frag} {a : Addr} {xs : List V} : Walk (EnT K a) xs.length (fun H => SqT K H a xs) (fun i H v G => ∃ T x, xs[i]? = some x ∧ v = .ref T ∧ H T = none ∧ G = upd H T (.tup [.int (i : Nat), x])) where
  goes := fun i H hi h => ⟨xs, xs[i], h, List.getElem?_eq_getElem hi⟩
  stops := fun H h => ⟨xs, h, rfl⟩
  yields := fun i H v G hi h ⟨T, x, e1, e2, e3, e4⟩ => ⟨T, x, e4 xs h, e1, e2, e3⟩
end Gu
namespace Gu
open PySem PySem.Spec PyProof.Rows L2
/-! ### what is cut, as lists -/
def cut {α : Type} (l h t : Nat) (m xs : List α) : List α := if xs.length ≤ l then xs else xs.take h ++ m ++ xs.drop (xs.length - t)
theorem cut_front {α : Type} (xs : List α) {h : Int} (h0 : 0 ≤ h) : (xs.drop (HT.sIx xs.length 0 none)).take (HT.sIx xs.length xs.length (some h) - HT.sIx xs.length 0 none) = xs.take h.toNat := by
  obtain ⟨k, rfl⟩ := Int.eq_ofNat_of_zero_le h0
  rw [HT.sIx_none, HT.sIx_nat, List.drop_zero, Nat.sub_zero, Int.toNat_natCast, List.take_eq_take_iff]
  omega
theorem cut_back {α : Type} (xs : List α) {h : Int} (h0 : 0 ≤ h) : (xs.drop (HT.sIx xs.length 0 (some h))).take (HT.sIx xs.length xs.length none - HT.sIx xs.length 0 (some h)) = xs.drop h.toNat := by
  obtain ⟨k, rfl⟩ := Int.eq_ofNat_of_zero_le h0
  rw [HT.sIx_none, HT.sIx_nat, Int.toNat_natCast]
  rw [List.take_of_length_le (by rw [List.length_drop]; omega)]
  by_cases e : k ≤ xs.length
  · rw [Nat.min_eq_left e]
  · rw [Nat.min_eq_right (by omega), List.drop_length, List.drop_eq_nil_of_le (by omega)]
theorem cut_length {α : Type} {l h t : Nat} {m xs : List α} : (cut l h t m xs).length ≤ max xs.length (h + m.length + t) := by
  unfold cut
  split
  · omega
  · rw [List.length_append, List.length_append, List.length_take, List.length_drop]
    omega
theorem app_cps (a b : Str) : (a ++ b).cps.toList = a.cps.toList ++ b.cps.toList := by
  show (a.cps ++ b.cps).toList = _
  rw [Array.toList_append]
def Rec.cut (r : Rec) (xs : List Nat) : List Nat := Gu.cut r.l.toNat r.h.toNat r.t.toNat r.z.cps.toList xs
def cuts (rs : List Rec) (xs : List Nat) : List Nat := rs.foldl (fun acc r => r.cut acc) xs
theorem Rec.fit.zl {r : Rec} (f : r.fit) : r.z.cps.toList.length ≤ 3 := by
  have h := isTxt_len f.z
  have e : r.z.length = r.z.cps.toList.length := rfl
  omega
theorem Rec.fit.cut_len {r : Rec} (f : r.fit) {xs : List Nat} (h : xs.length ≤ 200) : (r.cut xs).length ≤ 200 := by
  have a : (r.cut xs).length ≤ _ := cut_length
  have b := f.zl
  have c := f.h
  have d := f.t
  omega
/-! ### shorteners and rows in the heap -/
def ShAt (C : Addr) (H : Hp) (x : Addr) (r : Rec) : Prop := ∃ dx b, H x = some (.ins C dx (flds r b)) ∧ H b = some (.tup r.vs)
structure RowAt (C : Addr) (H : Hp) (a : Addr) (rs : List (Addr × Rec)) : Prop where
  tp : H a = some (.tup (rs.map fun q => V.ref q.1))
  sh : ∀ q ∈ rs, ShAt C H q.1 q.2 ∧ q.2.fit
theorem ShAt.same {C : Addr} {H G : Hp} {x : Addr} {r : Rec} (s : Same H G) (h : ShAt C H x r) : ShAt C G x r := by
  obtain ⟨dx, b, h1, h2⟩ := h
  exact ⟨dx, b, s _ _ h1, s _ _ h2⟩
theorem RowAt.same {C : Addr} {H G : Hp} {a : Addr} {rs : List (Addr × Rec)} (s : Same H G) (h : RowAt C H a rs) : RowAt C G a rs := ⟨s _ _ h.tp, fun q hq => ⟨(h.sh q hq).1.same s, (h.sh q hq).2⟩⟩
section
variable {P : Program} {w : World} {K : PySem.W.Frag} {mg : Str → Option Value} {base : Heap} {C : Addr}
/-! ### check_row, check_text -/
def spCheckRow (C : Addr) : Sp := fun vs H Q _ => ∃ (a : Addr) (rs : List (Addr × Rec)), vs = [.ref a] ∧ RowAt C H a rs ∧ 1 ≤ rs.length ∧ rs.length ≤ 4 ∧ ∀ G, Same H G → Q .non G
theorem cal_checkRow (B : Bi mg) (S : ShC K mg C) (D : At K mg "check_row" s_check_row ps_check_row) (C_is_tuple : Cal P w K mg base 1 "is_tuple" ps_is_tuple (spIsTuple K)) : Cal P w K mg base 2 "check_row" ps_check_row (spCheckRow C) := by
  refine D.cal sc_check_row (fun vs H Q E h => ?_) (fun f cdv A outer s H vs Q E hr h => ?_)
  · obtain ⟨a, rs, rfl, _⟩ := h
    rfl
  · obtain ⟨a, rs, rfl, hR, l1, l4, k⟩ := h
    refine ⟨_, (pss_cons (ps_if (pt_not (pt_val (pe_own C_is_tuple hr (by decide) (by rfl) (pa_cons (pv 0) (pa_cons pe_int (pa_cons (pe_cst B.MOST_ROW (by rfl)) pa_nil)))))) pss_never pss_nil)
      (pss_one (ps_for PassesOwn.never rfl (pi_enT (by rfl) B.enumerate (pa_cons (pv 0) pa_nil)) (pg_tup rfl (pgs_cons (pg_name (i := 1) sc_check_row.nd rfl (.inl rfl)) (pgs_cons (pg_name (i := 2) sc_check_row.nd rfl (.inl rfl)) pgs_nil)))
      (pss_one (ps_if (pt_not (pt_val (pe_callB call_isi (by rfl) B.isinstance (by decide +kernel) (pa_cons (pv 2) (pa_cons (pe_glob (v := .ref C) (by rfl) S.g rfl) pa_nil))))) pss_never pss_nil))))), ?_⟩
    refine ⟨_, rfl, _, _, _, rfl, .inl ⟨a, _, rfl, .inl (.inl hR.tp), _, rfl, ?_⟩⟩
    rw [decide_eq_true (show (1 : Int) ≤ ((rs.map fun q => V.ref q.1).length : Int) ∧ ((rs.map fun q => V.ref q.1).length : Int) ≤ 4 by rw [List.length_map]; omega)]
    refine iteF ⟨_, rfl, a, _, rfl, .inl (.inl hR.tp), for_it walk_enT (fun i σ J => ∃ u v, σ = [some (.ref a), u, v] ∧ Same H J) ⟨none, none, rfl, Same.refl H⟩ (fun i σ J _ ⟨_, _, _, sJ⟩ => .inl (.inl (sJ _ _ hR.tp))) ?_ ?_⟩
    · rintro i v σ J J1 hi ⟨u, v2, rfl, sJ⟩ ⟨T, x, hx, rfl, nT, rfl⟩
      obtain ⟨q, hq, rfl⟩ : ∃ q ∈ rs, x = .ref q.1 := by
        obtain ⟨q, h1, h2⟩ := List.mem_map.mp (List.mem_of_getElem? hx)
        exact ⟨q, h1, h2.symm⟩
      have sT : Same H (upd J T (.tup [.int (i : Nat), .ref q.1])) := sJ.trans (same_new nT)
      obtain ⟨dx, b, e1, _⟩ := ((hR.sh q hq).1).same sT
      refine ⟨T, _, rfl, .inl (.inl upd_same), rfl, _, _, rfl, _, _, rfl, rfl, ?_⟩
      refine ⟨_, rfl, _, _, _, _, true, rfl, .own C, .base (.ins e1 S.cl S.ha S.hn S.ht S.hm), S.kk, _, rfl, iteF ⟨_, _, rfl, sT⟩⟩
    · rintro σ J ⟨u, v, rfl, sJ⟩
      exact k J sJ
def spCheckText : Sp := fun vs H Q _ => ∃ (z : Str), vs = [.str z] ∧ isTxt z 200 = true ∧ ∀ G, Same H G → Q .non G
/-! ### shortened: of a text -/
def spShortS (C : Addr) : Sp := fun vs H Q _ => ∃ (x : Addr) (r : Rec) (z : Str), vs = [.ref x, .str z, .str r.z] ∧ ShAt C H x r ∧ r.fit ∧ z.length ≤ 1000 ∧ ∀ y : Str, y.cps.toList = r.cut z.cps.toList → Q (.str y) H
theorem cal_shortS (B : Bi mg) (S : ShC K mg C) (D : At K mg "shortened" s_shortened ps_shortened) : Cal P w K mg base 1 "shortened" ps_shortened (spShortS C) := by
  refine D.cal sc_shortened (fun vs H Q E h => ?_) (fun f cdv A outer s H vs Q E hr h => ?_)
  · obtain ⟨x, r, z, rfl, _⟩ := h
    rfl
  · obtain ⟨x, r, z, rfl, ⟨dx, b, hx, _⟩, fit, zl, k⟩ := h
    have ez : z.length = z.cps.toList.length := rfl
    have zs : z.length ≤ sizeLine := Nat.le_of_lt (small1000 zl)
    have f1 := fit.l
    have f2 := fit.h
    have f3 := fit.t
    have f4 := fit.zl
    refine ⟨_, (pss_cons (ps_if (pt_cmpR op_le (pe_callB call_len (by rfl) B.len (by decide +kernel) (pa_cons (pv 1) pa_nil)) (pe_fld (pv 0) rfl) (nomark _)) (pss_one (ps_ret (pv 1))) pss_nil)
      (pss_cons (ps_set (i := 3) sc_shortened.nd rfl (.inl rfl) (pe_callB (call_max2 rfl) (by rfl) B.max (by decide +kernel) (pa_cons pe_int (pa_cons (pe_op op_sub (pe_callB call_len (by rfl) B.len (by decide +kernel) (pa_cons (pv 1) pa_nil)) (pe_fld (pv 0) rfl)) pa_nil))))
      (pss_one (ps_ret (pe_op op_add_str (pe_op op_add_str (pe_slice sl_str (pv 1) po_none (po_some (pe_fld (pv 0) rfl))) (pv 2)) (pe_slice sl_str (pv 1) (po_some (pv 3)) po_none)))))), ?_⟩
    refine ⟨_, rfl, _, _, rfl, ⟨zs, rfl⟩, _, rfl, x, C, dx, _, _, rfl, hx, S.cl, S.nL, flds_limit _ _, _, _, rfl, rfl, _, rfl, ite2 (fun e => ?_) (fun e => ?_)⟩
    · have e1 := of_decide_eq_true e
      refine ⟨_, rfl, k z ?_⟩
      unfold Rec.cut cut
      rw [if_pos (by omega)]
    · have e1 : ¬ (z.length : Int) ≤ r.l := fun h => e (decide_eq_true h)
      refine ⟨_, rfl, _, _, rfl, ⟨zs, rfl⟩, _, rfl, x, C, dx, _, _, rfl, hx, S.cl, S.nT, flds_tail _ _, _, _, rfl, rfl, _, _, rfl, ?_⟩
      refine ⟨_, rfl, _, rfl, x, C, dx, _, _, rfl, hx, S.cl, S.nH, flds_head _ _, _, rfl, z, rfl, zs, _, rfl, _, _, rfl, rfl, ?_, _, rfl, _, rfl, _, rfl, z, rfl, zs, _, _, rfl, rfl, ?_, k _ ?_⟩
      · have a := cutS_length z none (some r.h)
        have b : r.z.length = r.z.cps.toList.length := rfl
        exact Nat.le_of_lt (Nat.lt_of_le_of_lt (show _ ≤ 2000 by omega) (by decide))
      · have a := cutS_length z none (some r.h)
        have b : r.z.length = r.z.cps.toList.length := rfl
        have c := cutS_length z (some (if (z.length : Int) - r.t > 0 then (z.length : Int) - r.t else 0)) none
        have d : (cutS z none (some r.h) ++ r.z).length = (cutS z none (some r.h)).length + r.z.length := by
          show (cutS z none (some r.h) ++ r.z).cps.toList.length = _
          rw [app_cps, List.length_append]
          rfl
        exact Nat.le_of_lt (Nat.lt_of_le_of_lt (show _ ≤ 4000 by omega) (by decide))
      · rw [app_cps, app_cps]
        have a : (cutS z none (some r.h)).cps.toList = z.cps.toList.take r.h.toNat := by
          show ((z.cps.toList.drop _).take _).toArray.toList = _
          rw [List.toList_toArray]
          exact cut_front z.cps.toList f2.1
        have c : (cutS z (some (if (z.length : Int) - r.t > 0 then (z.length : Int) - r.t else 0)) none).cps.toList = z.cps.toList.drop (z.cps.toList.length - r.t.toNat) := by
          show ((z.cps.toList.drop _).take _).toArray.toList = _
          rw [List.toList_toArray]
          have q := cut_back z.cps.toList (h := if (z.length : Int) - r.t > 0 then (z.length : Int) - r.t else 0) (by split <;> omega)
          have n : (if (z.length : Int) - r.t > 0 then (z.length : Int) - r.t else 0).toNat = z.cps.toList.length - r.t.toNat := by split <;> omega
          rw [n] at q
          exact q
        rw [a, c]
        unfold Rec.cut cut
        rw [if_neg (show ¬ z.cps.toList.length ≤ r.l.toNat by omega)]
/-! ### shown_by, show -/
theorem Rec.fit.cut_lenW {r : Rec} (f : r.fit) {xs : List Nat} (h : xs.length ≤ 600) : (r.cut xs).length ≤ 600 := by
  have a : (r.cut xs).length ≤ _ := cut_length
  have b := f.zl
  have c := f.h
  have d := f.t
  omega
def spShownBy (C : Addr) : Sp := fun vs H Q _ => ∃ (a : Addr) (rs : List (Addr × Rec)) (z : Str), vs = [.ref a, .str z] ∧ RowAt C H a rs ∧ z.cps.toList.length ≤ 600 ∧ ∀ (y : Str), y.cps.toList = cuts (rs.map (·.2)) z.cps.toList → Q (.str y) H
theorem cal_shownBy (B : Bi mg) (S : ShC K mg C) (D : At K mg "shown_by" s_shown_by ps_shown_by) (C_shortened : Cal P w K mg base 1 "shortened" ps_shortened (spShortS C)) : Cal P w K mg base 2 "shown_by" ps_shown_by (spShownBy C) := by
  refine D.cal sc_shown_by (fun vs H Q E h => ?_) (fun f cdv A outer s H vs Q E hr h => ?_)
  · obtain ⟨a, rs, z, rfl, _⟩ := h
    rfl
  · obtain ⟨a, rs, z, rfl, R2, zl, k⟩ := h
    refine ⟨_, (pss_cons (ps_set (i := 2) sc_shown_by.nd rfl (.inl rfl) (pv 1))
      (pss_cons (ps_for PassesOwn.never rfl (pi_tup (pv 0)) (pg_name (i := 3) sc_shown_by.nd rfl (.inl rfl))
      (pss_one (ps_set (i := 2) sc_shown_by.nd rfl (.inl rfl) (pe_own C_shortened hr (by decide) (by rfl) (pa_cons (pv 3) (pa_cons (pv 2) (pa_cons (pe_fld (pv 3) rfl) pa_nil)))))))
      (pss_one (ps_ret (pv 2))))), ?_⟩
    refine ⟨_, rfl, _, rfl, a, rfl, ⟨_, .inl (.inl R2.tp)⟩, for_tup (K := K) (a := a) (xs := rs.map fun q => V.ref q.1) (fun i σ J => ∃ (y : Str) (u : Option V), σ = [some (.ref a), some (.str z), some (.str y), u] ∧ J = H ∧ y.cps.toList = cuts ((rs.take i).map (·.2)) z.cps.toList ∧ y.cps.toList.length ≤ 600)
      ⟨z, none, rfl, rfl, rfl, zl⟩ (fun i σ J _ ⟨_, _, _, e, _⟩ => by rw [e]; exact .inl (.inl R2.tp)) ?_ ?_⟩
    · rintro i v σ J hi ⟨y, u, rfl, rfl, ey, ly⟩
      rw [List.getElem?_map] at hi
      cases hq : rs[i]? with
      | none =>
        rw [hq] at hi
        cases hi
      | some q =>
        rw [hq] at hi
        cases hi
        have mq : q ∈ rs := List.mem_of_getElem? hq
        obtain ⟨sq, fq⟩ := R2.sh q mq
        obtain ⟨dx, b, e1, e2⟩ := id sq
        have lz : y.length = y.cps.toList.length := rfl
        refine ⟨_, rfl, _, rfl, _, rfl, q.1, C, dx, _, _, rfl, e1, S.cl, S.nM, flds_mark _ _, q.1, q.2, y, rfl, sq, fq, by omega, fun y2 h2 => ⟨y2, _, rfl, rfl, ?_, ?_⟩⟩
        · rw [h2, ey, List.take_add_one, hq]
          unfold cuts
          rw [List.map_append, List.foldl_append]
          rfl
        · rw [h2]
          exact fq.cut_lenW ly
    · rintro σ J ⟨y, u, rfl, rfl, ey, ly⟩
      rw [List.length_map, List.take_length] at ey
      exact ⟨_, rfl, k y ey⟩
def spShow (C : Addr) : Sp := fun vs H Q _ => ∃ (a : Addr) (rs : List (Addr × Rec)) (z : Str), vs = [.ref a, .str z] ∧ RowAt C H a rs ∧ 1 ≤ rs.length ∧ rs.length ≤ 4 ∧ isTxt z 200 = true ∧ ∀ (y : Str) (G : Hp), Same H G → y.cps.toList = cuts (rs.map (·.2)) z.cps.toList → Q (.str y) G
end
end Gu
namespace Gu
open PySem PySem.Spec PyProof.Rows L2
/-! ### texts of single signs -/
def one (c : Nat) : Str := ⟨#[c]⟩
def ones (cs : List Nat) : List V := cs.map fun c => V.str (one c)
theorem join_ones : ∀ cs : List Nat, (Str.join ⟨#[]⟩ (cs.map one)).cps.toList = cs
  | [] => rfl
  | c :: r => by
    rw [List.map_cons, join_nil_cons, app_cps, join_ones r]
    rfl
theorem tjoin_ones (cs : List Nat) : (Txt.join "" (cs.map one)).cps.toList = cs := by
  have e : (("" : String) : Str) = ⟨#[]⟩ := by decide +kernel
  show (Builtin.Str.glued _ _).cps.toList = cs
  rw [e, StrLaws.glued_eq_join]
  exact join_ones cs
theorem ones_len (cs : List Nat) : ((cs.map one).map (·.length)).sum = cs.length := by
  induction cs with
  | nil => rfl
  | cons c r ih =>
    rw [List.map_cons, List.map_cons, List.sum_cons, ih]
    show 1 + r.length = r.length + 1
    omega
theorem ones_map (cs : List Nat) : ones cs = (cs.map one).map V.str := by
  unfold ones
  rw [List.map_map]
  rfl
def cutsV (rs : List Rec) (xs : List V) : List V := rs.foldl (fun acc r => cut r.l.toNat r.h.toNat r.t.toNat (ones r.z.cps.toList) acc) xs
theorem cut_map {α β : Type} (f : α → β) (l h t : Nat) (m xs : List α) : cut l h t (m.map f) (xs.map f) = (cut l h t m xs).map f := by
  unfold cut
  rw [List.length_map]
  split
  · rfl
  · rw [List.map_append, List.map_append, List.map_take, List.map_drop]
theorem cutsV_ones : ∀ (rs : List Rec) (cs : List Nat), cutsV rs (ones cs) = ones (cuts rs cs)
  | [], _ => rfl
  | r :: rs, cs => by
    show cutsV rs (cut r.l.toNat r.h.toNat r.t.toNat (ones r.z.cps.toList) (ones cs)) = ones (cuts rs (r.cut cs))
    unfold ones
    rw [cut_map]
    exact cutsV_ones rs (r.cut cs)
theorem cuts_len : ∀ (rs : List Rec) {xs : List Nat}, (∀ r ∈ rs, r.fit) → xs.length ≤ 200 → (cuts rs xs).length ≤ 200
  | [], _, _, h => h
  | r :: rs, xs, hf, h => cuts_len rs (xs := r.cut xs) (fun q hq => hf q (List.mem_cons_of_mem _ hq)) ((hf r (List.mem_cons_self ..)).cut_len h)
theorem ShAt.list {C : Addr} {H : Hp} {x M : Addr} {r : Rec} {acc ys : List V} (h : ShAt C H x r) (e : H M = some (.lst acc)) : ShAt C (upd H M (.lst ys)) x r := by
  obtain ⟨dx, b, h1, h2⟩ := h
  exact ⟨dx, b, by rw [upd_ne (ne_of h1 e (by intro z; cases z))]; exact h1, by rw [upd_ne (ne_of h2 e (by intro z; cases z))]; exact h2⟩
theorem ToldsAt.same {H G : Hp} {D : Addr} {ps : List (Addr × Rec)} (s : Same H G) (h : ToldsAt H D ps) : ToldsAt G D ps := ⟨s _ _ h.ls, fun q hq => ⟨s _ _ (h.tp q hq).1, (h.tp q hq).2⟩⟩
section
variable {P : Program} {w : World} {K : PySem.W.Frag} {mg : Str → Option Value} {base : Heap} {C : Addr}
/-! ### _law_made -/
def spMade (C : Addr) : Sp := fun vs H Q _ => ∃ (D : Addr) (ps : List (Addr × Rec)), vs = [.ref D] ∧ ToldsAt H D ps ∧ ps.length ≤ 4 ∧ ∀ (a : Addr) (G : Hp) (rs : List (Addr × Rec)), H a = none → RowAt C G a rs → rs.map (·.2) = ps.map (·.2) → Same H G → Q (.ref a) G
/-! ### _law_cut -/
theorem neg_back {α : Type} (xs : List α) {h : Int} (h0 : 0 < h) : (xs.drop (HT.sIx xs.length 0 (some (-h)))).take (HT.sIx xs.length xs.length none - HT.sIx xs.length 0 (some (-h))) = xs.drop (xs.length - h.toNat) := by
  have e : HT.sIx xs.length 0 (some (-h)) = xs.length - h.toNat := by
    show (if -h < 0 then (-h + (xs.length : Int)).toNat else min (-h).toNat xs.length) = _
    rw [if_pos (by omega)]
    omega
  rw [e, HT.sIx_none, List.take_of_length_le (by rw [List.length_drop]; omega)]
theorem cutsV_snoc (ps : List (Addr × Rec)) {i : Nat} {q : Addr × Rec} (h : ps[i]? = some q) (xs : List V) :
    cutsV ((ps.take (i + 1)).map (·.2)) xs = cut q.2.l.toNat q.2.h.toNat q.2.t.toNat (ones q.2.z.cps.toList) (cutsV ((ps.take i).map (·.2)) xs) := by
  rw [List.take_add_one, h, List.map_append]
  unfold cutsV
  rw [List.foldl_append]
  rfl
def spCut : Sp := fun vs H Q _ => ∃ (D T : Addr) (ps : List (Addr × Rec)) (xs : List V), vs = [.ref D, .ref T] ∧ ToldsAt H D ps ∧ H T = some (.lst xs) ∧ xs.length ≤ 600 ∧ ∀ (U : Addr) (G : Hp), Same H G → G U = some (.lst (cutsV (ps.map (·.2)) xs)) → Q (.ref U) G
end
end Gu
namespace Gu
open PySem PySem.Spec PyProof.Rows L2
/-! ### calls by keywords alone -/
structure CalK (P : Program) (w : World) (K : PySem.W.Frag) (mg : Str → Option Value) (base : Heap) (k : Nat) (x : Str) (ks : List Str) (gV : List V → List V) (sp : Sp) : Prop where
  ex : ∃ (f : Addr) (fd : FuncData) (ps : List Str) (g : List Value → List Value), FnOk P w K mg base CX0 k f fd ps sp ∧ mg x = some (.ref f) ∧ PySem.W.keepIn K (.ref f) = true ∧ KBn K fd ps 0 ks (fun _ ws => g ws) (fun _ zs => gV zs)
theorem Cal.kw {P : Program} {w : World} {K : PySem.W.Frag} {mg : Str → Option Value} {base : Heap} {k : Nat} {x : Str} {st : Stmt} {ps ks : List Str} {sp : Sp} (g : {α : Type} → List α → List α) (c : Cal P w K mg base k x ps sp) (D : At K mg x st ps)
    (hv : ∀ {zs : List V} {ws : List Value}, Vals zs ws → Vals (g zs) (g ws))
    (hb : ∀ (kV doc pm : Value) (an : Option Addr) (cdv ct : Value) (ws : List Value), ws.length = ks.length → bindArgs (PySem.W.fnOf x x (defArgs st) (defBody st) (defScope st) .none kV doc pm an cdv ct) ⟨[], ks.zip ws⟩ = pure (ps.zip (g ws))) : CalK P w K mg base k x ks g sp := by
  obtain ⟨f, fd, F, hm, kp, b, oc, od, sl, lk⟩ := c.ex
  obtain ⟨f2, fd2, F2, b2, hm2⟩ := D.ex
  cases hm.symm.trans hm2
  obtain ⟨oc2, od2, kV, doc, pm, an, cdv, ct, sl2, e, lk2, hcd⟩ := F2.ex
  cases lk.symm.trans lk2
  refine ⟨f, fd, ps, g, F, hm, kp, ⟨fun s us ws I l1 l2 => ?_, fun _ r => hv r⟩⟩
  cases us with
  | nil =>
    rw [e]
    exact BindsTo.of_eq (hb kV doc pm an cdv ct ws l2)
  | cons u r => cases l1
def tKw (m : Nat) (gV : List V → List V) (sp : Sp) (tk : TA) : TE := fun σ H Q => tk σ H fun zs G => zs.length = m ∧ sp (gV zs) G Q E0
section
variable {X : Cx} {k j : Nat} {x : Str} {ks : List Str} {gV : List V → List V} {sp : Sp} {p pos : Pos} {kws : List Keyword} {tk : TA}
theorem pe_kw (c : CalK X.prog X.w X.K X.mg X.base k x ks gV sp) (hr : Room j X.A) (hk : k ≤ j) (hg : Gl X x) (hkw : PK X kws tk) (hall : (backToKw pos (keywordEach kws X.env)).all (·.1.isSome) = true := by rfl)
    (hks : (backToKw pos (keywordEach kws X.env)).filterMap (·.1) = ks := by rfl) (hdb : (x == ("__debug__" : Str)) = false := by decide)
    (hpl : ((backTo pos (starEach [] X.env)).any (·.1) || (backToKw pos (keywordEach kws X.env)).any (·.1.isNone)) = false := by rfl) : PE X (.Call (.Name x p) [] kws pos) (tKw ks.length gV sp tk) := by
  obtain ⟨f, fd, ps, g, F, hm, kp, b⟩ := c.ex
  refine ⟨fun pins s σ H Q I h => ?_⟩
  refine wpAny_Call_Name_kw (ld_glob I hg hm ?_ hdb)
  refine PySem.W.callWith_KW0 (h₀ := X.base) I.ok.mod.kin kp hall ?_ hpl
  refine thn (hkw.run pos pins s σ H _ I h) fun ws s2 ⟨zs, G, I2, rz, l2, q2⟩ => ⟨I2.kIn, ?_⟩
  rw [hks]
  exact run_fnN (us := []) (vs := []) F (hr.mono hk) b pass0 I2 .nil rz rfl l2 q2
end
def swap2 {α : Type} : List α → List α
  | [a, b] => [b, a]
  | l => l
theorem swap2_vals {zs : List V} {ws : List Value} (r : Vals zs ws) : Vals (swap2 zs) (swap2 ws) := by
  cases r with
  | nil => exact .nil
  | cons a r =>
    cases r with
    | nil => exact .cons a .nil
    | cons b r =>
      cases r with
      | nil => exact .cons b (.cons a .nil)
      | cons c r => exact .cons a (.cons b (.cons c r))
theorem str_ext {a b : Str} (h : a.cps.toList = b.cps.toList) : a = b := by
  cases a
  cases b
  exact congrArg Str.mk (Array.ext' h)
end Gu
namespace Gu
open PySem PySem.Spec PyProof.Rows L2
section
variable {P : Program} {w : World} {K : PySem.W.Frag} {mg : Str → Option Value} {base : Heap} {C : Addr}
theorem Ladled.row {C : Addr} {H G : Hp} {p a : Addr} {rs : List (Addr × Rec)} (L : Ladled p H G) (hp : Pot H p) (h : RowAt C H a rs) : RowAt C G a rs := by
  obtain ⟨x, y, z, e⟩ := hp
  refine ⟨L.keep _ _ h.tp (ne_of h.tp e (by intro z; cases z)), fun q hq => ⟨?_, (h.sh q hq).2⟩⟩
  obtain ⟨dx, b, h1, h2⟩ := (h.sh q hq).1
  exact ⟨dx, b, L.keep _ _ h1 (ne_of h1 e (by intro z; cases z)), L.keep _ _ h2 (ne_of h2 e (by intro z; cases z))⟩
theorem Ladled.tolds {H G : Hp} {p D : Addr} {ps : List (Addr × Rec)} (L : Ladled p H G) (n : D ≠ p) (nq : ∀ q ∈ ps, q.1 ≠ p) (h : ToldsAt H D ps) : ToldsAt G D ps := ⟨L.keep _ _ h.ls n, fun q hq => ⟨L.keep _ _ (h.tp q hq).1 (nq q hq), (h.tp q hq).2⟩⟩
/-! ### signs stay signs -/
def Signs (xs : List Nat) : Prop := ∀ c ∈ xs, c ∈ signs.cps.toList
theorem isTxt_signs {z : Str} {m : Int} (h : isTxt z m = true) : Signs z.cps.toList := by
  unfold isTxt at h
  rw [Bool.and_eq_true, List.all_eq_true] at h
  exact fun c hc => of_decide_eq_true (h.2 c hc)
theorem cut_signs {l h t : Nat} {m xs : List Nat} (hm : Signs m) (hx : Signs xs) : Signs (cut l h t m xs) := by
  unfold cut
  split
  · exact hx
  · intro c hc
    rcases List.mem_append.mp hc with hc | hc
    · rcases List.mem_append.mp hc with hc | hc
      · exact hx c (List.mem_of_mem_take hc)
      · exact hm c hc
    · exact hx c (List.mem_of_mem_drop hc)
theorem cuts_signs : ∀ (rs : List Rec) {xs : List Nat}, (∀ r ∈ rs, r.fit) → Signs xs → Signs (cuts rs xs)
  | [], _, _, h => h
  | r :: rs, xs, hf, h => cuts_signs rs (xs := r.cut xs) (fun q hq => hf q (List.mem_cons_of_mem _ hq)) (cut_signs (isTxt_signs (hf r (List.mem_cons_self ..)).z) h)
theorem signs_ok {y : Str} (h : Signs y.cps.toList) : (PyData.str y).canLay0 = true := by
  have a : ∀ c ∈ signs.cps.toList, c < 0x110000 := by decide +kernel
  show y.cps.all _ = true
  rw [← Array.all_toList, List.all_eq_true]
  exact fun c hc => decide_eq_true (a c (h c hc))
theorem shaped_two {y z : Str} (hy : Signs y.cps.toList) (hz : Signs z.cps.toList) : SeqAt.shaped (.list [.str y, .str z]) = true := by
  have a := signs_ok hy
  have b := signs_ok hz
  show ((PyData.str y).canLay0 && ((PyData.str z).canLay0 && true) && true) = true
  rw [a, b]
  rfl
end
end Gu
namespace Gu
open PySem PySem.Spec PyProof.Rows L2 LamX
/-! ### heaps with tables -/
/-- all but tables stands -/
def SameN (H G : Hp) : Prop := ∀ c o, H c = some o → (∀ ps, o ≠ .tbl ps) → G c = some o
theorem SameN.refl (H : Hp) : SameN H H := fun _ _ e _ => e
theorem SameN.trans {H G J : Hp} (a : SameN H G) (b : SameN G J) : SameN H J := fun c o e n => b c o (a c o e n) n
theorem Same.n {H G : Hp} (a : Same H G) : SameN H G := fun c o e _ => a c o e
theorem SameN.lst {H G : Hp} (s : SameN H G) {a : Addr} {xs : List V} (h : H a = some (.lst xs)) : G a = some (.lst xs) := s _ _ h fun _ z => by cases z
theorem SameN.tup {H G : Hp} (s : SameN H G) {a : Addr} {xs : List V} (h : H a = some (.tup xs)) : G a = some (.tup xs) := s _ _ h fun _ z => by cases z
theorem SameN.xd {H G : Hp} (s : SameN H G) {a : Addr} {xs : List (Str × V)} (h : H a = some (.xd xs)) : G a = some (.xd xs) := s _ _ h fun _ z => by cases z
theorem SameN.ins {H G : Hp} (s : SameN H G) {a C dx : Addr} {fs : List (Str × V)} (h : H a = some (.ins C dx fs)) : G a = some (.ins C dx fs) := s _ _ h fun _ z => by cases z
theorem SameN.sys {H G : Hp} (s : SameN H G) (h : Sys H) : Sys G := by
  obtain ⟨o, u, e⟩ := h
  exact ⟨o, u, s _ _ e fun _ z => by cases z⟩
theorem SameN.sqT {K : PySem.W.Frag} {H G : Hp} {a : Addr} {xs : List V} (s : SameN H G) (h : SqT K H a xs) : SqT K G a xs := by
  rcases h with (h | ⟨o, h⟩) | h
  · exact .inl (.inl (s.tup h))
  · exact .inl (.inr ⟨o, s _ _ h fun _ z => by cases z⟩)
  · exact .inr h
theorem SameN.sqL {K : PySem.W.Frag} {H G : Hp} {a : Addr} {xs : List V} (s : SameN H G) (h : SqL K H a xs) : SqL K G a xs := by
  rcases h with (h | ⟨o, h⟩) | h
  · exact .inl (.inl (s.lst h))
  · exact .inl (.inr ⟨o, s _ _ h fun _ z => by cases z⟩)
  · exact .inr h
mutual
theorem DpE.sameN {K : PySem.W.Frag} {H G : Hp} (s : SameN H G) : ∀ {v : V} {d : PyData}, DpE K H v d → DpE K G v d
  | _, _, .non => .non
  | _, _, .bl b => .bl b
  | _, _, .int i => .int i
  | _, _, .str x => .str x
  | _, _, .lst h a => .lst (s.lst h) (DpEs.sameN s a)
  | _, _, .tup h a => .tup (s.sqT h) (DpEs.sameN s a)
  | _, _, .dict h => .dict (s _ _ h fun _ z => by cases z)
theorem DpEs.sameN {K : PySem.W.Frag} {H G : Hp} (s : SameN H G) : ∀ {vs : List V} {ds : List PyData}, DpEs K H vs ds → DpEs K G vs ds
  | _, _, .nil => .nil
  | _, _, .cons a b => .cons (DpE.sameN s a) (DpEs.sameN s b)
end
/-- from H to G the pot at p may have changed and tables may have grown, the rest stands -/
structure LadT (T : List (Addr × Str)) (p : Addr) (H G : Hp) : Prop where
  pot : Pot G p
  keep : ∀ c o, H c = some o → c ≠ p → (∀ ps, o ≠ .tbl ps) → G c = some o
  tabs : Tabs T G
  sys : Sys G
/-! ### defs that make lambdas -/
structure AtC (K : PySem.W.Frag) (mg : Str → Option Value) (x : Str) (st : Stmt) (ps : List Str) (c : Addr) : Prop where
  ex : ∃ (f : Addr) (fd : FuncData), Fun K x x st f fd ∧ Binds K fd ps [] ∧ mg x = some (.ref f) ∧ fd.code = .ref c
section
variable {P : Program} {w : World} {K : PySem.W.Frag} {mg : Str → Option Value} {base : Heap}
theorem okGT {x qual : Str} {st : Stmt} {f c : Addr} {fd : FuncData} {N ps : List Str} {k : Nat} {sp : Sp} (F : Fun K x qual st f fd) (hc : fd.code = .ref c) (S : FnScope N ps (defScope st)) (len : ∀ vs H Q E, sp vs H Q E → vs.length = ps.length)
    (body : ∀ (A : Around) (outer : List Env) (s : Shared) (H : Hp) (vs : List V) (Q : VK) (E : XK), Room k (A.deeper (envOfC qual (defScope st) s.heap.objs.size f (.ref c))) → A.guards = some [] → sp vs H Q E →
      ∃ t, PSs (cxOf CX0 P w K mg base N qual (defScope st) f (.ref c) A outer s H E).nox (defBody st) t ∧ t { nx := fun _ G => Q .non G, rt := Q } (start N vs) H) : FnG P w K mg base (k + 1) f fd ps sp := by
  obtain ⟨oc, od, kV, doc, pm, an, cdv, ct, osl, rfl, lk, hcd⟩ := F.ex
  obtain rfl : cdv = .ref c := hc
  refine ⟨len, fun A outer s H args us vs Q E room quiet env binds rel want => ?_⟩
  have stays : ∀ b o, base.get? b = some o → s.heap.get? b = some o := fun b o e => (env.bs b o e).1
  have inK : K.In s.heap := env.mod.kin.keeps stays
  have free : s.heap.NoLimit := env.mod.nolimit.keeps stays
  refine codeAny_call_function room.depth (inK _ _ lk) rfl S.co S.gen rfl (PySem.W.codeRec_of inK hcd) (binds _ _ _ _ ?_)
  refine wpAny_newFunctionEnv_cells S.kind (fun ⟨n, v⟩ hy => (S.par n (List.of_mem_zip hy).1).imp id fun q => ⟨q, PySem.W.cellsFrom_some _ _ _ (.inl q)⟩) fun env1 e1 s1 c1 => ?_
  subst e1
  refine ⟨free.keeps c1.toInCall.keep, codeAny_func ?_⟩
  obtain ⟨t, d, q⟩ := body A outer s H vs Q E (room.deeper _) quiet want
  refine wpAny_mono (d.nox.run [] s1 (start N vs) H _ (inv_start S room.hd env (len _ _ _ _ want) rel c1) q) (fun fl s2 h2 => ?_) fun e s2 h2 => h2
  cases fl with
  | ret u =>
    obtain ⟨v, σ2, G, J, rv, r⟩ := h2
    exact ⟨v, G, J.os, J.bare, J.base, J.hok, rv, r⟩
  | next =>
    obtain ⟨σ2, G, J, r⟩ := h2
    exact ⟨V.non, G, J.os, J.bare, J.base, J.hok, rfl, r⟩
  | brk => exact (h2.choose_spec.choose_spec.2 : False).elim
  | cont => exact (h2.choose_spec.choose_spec.2 : False).elim
theorem AtC.calG {x : Str} {st : Stmt} {N ps : List Str} {k : Nat} {sp : Sp} {c : Addr} (D : AtC K mg x st ps c) (S : FnScope N ps (defScope st)) (len : ∀ vs H Q E, sp vs H Q E → vs.length = ps.length)
    (body : ∀ (f : Addr) (A : Around) (outer : List Env) (s : Shared) (H : Hp) (vs : List V) (Q : VK) (E : XK), Room k (A.deeper (envOfC x (defScope st) s.heap.objs.size f (.ref c))) → A.guards = some [] → sp vs H Q E →
      ∃ t, PSs (cxOf CX0 P w K mg base N x (defScope st) f (.ref c) A outer s H E).nox (defBody st) t ∧ t { nx := fun _ G => Q .non G, rt := Q } (start N vs) H) : CalG P w K mg base (k + 1) x ps sp := by
  obtain ⟨f, fd, F, b, g, hc⟩ := D.ex
  exact ⟨f, fd, okGT F hc S len (body f), g, F.kp, b⟩
/-! ### defs that may raise -/
structure CalX (P : Program) (w : World) (K : PySem.W.Frag) (mg : Str → Option Value) (base : Heap) (k : Nat) (x : Str) (ps : List Str) (sp : Sp) : Prop where
  ex : ∃ (f : Addr) (fd : FuncData), FnOk P w K mg base (L2.CX P w) k f fd ps sp ∧ mg x = some (.ref f) ∧ PySem.W.keepIn K (.ref f) = true ∧ Binds K fd ps [] ∧ ∃ oc od sl, K.lookup f = some ⟨oc, od, .func fd, sl⟩
theorem At.calX {x : Str} {st : Stmt} {N ps : List Str} {k : Nat} {sp : Sp} (D : At K mg x st ps) (S : FnScope N ps (defScope st)) (len : ∀ vs H Q E, sp vs H Q E → vs.length = ps.length)
    (body : ∀ (f : Addr) (cdv : Value) (A : Around) (outer : List Env) (s : Shared) (H : Hp) (vs : List V) (Q : VK) (E : XK), Room k (A.deeper (envOfC x (defScope st) s.heap.objs.size f cdv)) → sp vs H Q E →
      ∃ t, PSs (cxOf (L2.CX P w) P w K mg base N x (defScope st) f cdv A outer s H E) (defBody st) t ∧ t { nx := fun _ G => Q .non G, rt := Q } (start N vs) H) : CalX P w K mg base (k + 1) x ps sp := by
  obtain ⟨f, fd, F, b, g⟩ := D.ex
  obtain ⟨oc, od, kV, doc, pm, an, cdv, ct, osl, e, lk, hcd⟩ := F.ex
  exact ⟨f, fd, F.okX S len (body f), g, F.kp, b, oc, od, osl, lk⟩
structure MakX (P : Program) (w : World) (K : PySem.W.Frag) (mg : Str → Option Value) (base : Heap) (k : Nat) (x : Str) (C : Addr) (sp : Sp) : Prop where
  ex : ∃ (f : Addr) (fd : FuncData) (ps : List Str), Mk K C f ∧ FnOk P w K mg base (L2.CX P w) k f fd ps sp ∧ mg x = some (.ref C) ∧ Binds K fd ps []
end
section
variable {X : Cx} {k j : Nat} {x : Str} {ps : List Str} {sp : Sp} {p pos : Pos} {e : Expr} {es : List Expr} {t : TA} {E : XK} {W : WX} {C : Addr}
theorem pe_ownX (c : CalX X.prog X.w X.K X.mg X.base k x ps sp) (hr : Room j X.A) (hk : k ≤ j) (tk : Takes X W) (hW : ∀ cls d σ H, E cls d H → W cls d σ H) (hg : Gl X x) (ha : PA X (e :: es) t)
    (hdb : (x == ("__debug__" : Str)) = false := by decide) (he : starEach (e :: es) X.env = (false, eval e X.env) :: starEach es X.env := by rfl) (hpl : (backTo pos (starEach es X.env)).any (·.1) = false := by rfl) :
    PE X (.Call (.Name x p) (e :: es) [] pos) (tCall sp [] E t) := by
  obtain ⟨f, fd, F, hm, kp, b, _⟩ := c.ex
  exact pe_call F (hr.mono hk) hg hm kp b .nil (passes_call tk hW) ha hdb he hpl
theorem pe_newX (c : MakX X.prog X.w X.K X.mg X.base k x C sp) (hr : Room j X.A) (hk : k + 1 ≤ j) (tk : Takes X W) (hW : ∀ cls d σ H, E cls d H → W cls d σ H) (hg : Gl X x) (ha : PA X (e :: es) t)
    (hdb : (x == ("__debug__" : Str)) = false := by decide) (he : starEach (e :: es) X.env = (false, eval e X.env) :: starEach es X.env := by rfl) (hpl : (backTo pos (starEach es X.env)).any (·.1) = false := by rfl) :
    PE X (.Call (.Name x p) (e :: es) [] pos) (tMake C sp [] E t) := by
  obtain ⟨f, fd, ps, M, F, hm, b⟩ := c.ex
  exact pe_make M F (hr.mono hk) hg hm b .nil (passes_call tk hW) ha hdb he hpl
end
/-! ### x(lambda: body) -/
section
variable {X : Cx}
theorem pe_lamE {T : List (Addr × Str)} {TT : (XK → Hp → VK → Prop) → Hp → VK → Prop} {x a : Str} {c P : Addr} {k j : Nat} {st : Stmt} {Ng : List Str} {params : Arguments} {body : Expr} {scope : Scope} {t : XK → TE} {p lpos pos : Pos} (D : At X.K X.mg x st [a]) (S : FnScope Ng [a] (defScope st))
    (hG : ∀ (g : Addr) (cdv : Value), GivesTo X Ng x (defScope st) g cdv (defBody st) a (X.env.qual ++ "<lambda>") TT) (TB : TabB X.base X.mg c P) (hr : Room j X.A) (hk : k + 2 ≤ j) (hg : Gl X x) (hNg : Ng[0]? = some a) (hva : Vis (defScope st) a) (hcode : X.env.code = .ref c) (hmT : (P, X.env.qual ++ "<lambda>") ∈ T) (hu : ∀ p ∈ T, p.1 = P → p.2 = X.env.qual ++ "<lambda>") (L : LamS X.env.scope scope) (hdef : defaultsOf params X.env = ([], []))
    (hbind : ∀ (q : Str) (cl : List (Str × Addr)) (pm cv ctv : Value), bindArgs (PySem.W.kla_fn "<lambda>" q params body scope cl pm cv ctv) ⟨[], []⟩ = pure [])
    (hbody : ∀ (A : Around) (outer : List Env) (s : Shared) (H : Hp) (E : XK) (f c' : Addr), Room k (A.deeper (lamEnv X scope s.heap.objs.size f c')) → PE (lamCx X A outer s H E scope f c') body (t E))
    (hdb : (x == ("__debug__" : Str)) = false := by decide) (hd : (a == ("__debug__" : Str)) = false := by decide) (hcd : (a == ("__classdict__" : Str)) = false := by decide) :
    PE X (.Call (.Name x p) [.Lambda params body scope lpos] [] pos) (tLam T TT t) := by
  obtain ⟨g, fd, F, b, hm⟩ := D.ex
  obtain ⟨oc, od, kV, doc, pm, an, cdv, ct, osl, rfl, lk, hcg⟩ := F.ex
  exact pe_lamcall (k := k) hg hm F.kp lk hcg b S hNg hva (hG g cdv) TB hcode hmT hu (hr.mono hk) L hdef hbind hbody hdb hd hcd
end
end Gu
namespace Gu
open PySem PySem.Spec PyProof.Rows L2 LamX
/-- what _law_ended makes of what it is handed -/
def Ended (hs : List (Str × Str × Addr)) (Q : VK) : XK := fun cls d G => ∃ (N Fl : Str) (C dd : Addr) (v : V), (N, Fl, C) ∈ hs ∧ cls = .ref C ∧ d = some dd ∧ G dd = some (.xd [(Fl, v)]) ∧ ∀ p J, Same G J → J p = some (.lst [.str N, v, .bl true]) → Q (.ref p) J
def TEnd (hs : List (Str × Str × Addr)) : (XK → Hp → VK → Prop) → Hp → VK → Prop := fun tl H Q => ∃ (E1 : XK) (Q1 : VK), tl E1 H Q1 ∧ (∀ cls d G, E1 cls d G → Ended hs Q cls d G) ∧ ∀ v G, Q1 v G → ∀ p J, Same G J → J p = some (.lst [.str "given", v]) → Q (.ref p) J
set_option maxHeartbeats 4000000 in
theorem ended_gives {X : Cx} {q : Str} {g U C0 C1 C2 C3 C4 : Addr} {cdg : Value} (B : Bi X.mg) (UI : UpK X.K X.mg bVE "InputError" U) (T0 : ErrK X.K X.mg bVE U "InvalidMark" C0) (S0 : ErrF X.K "InvalidMark" "value" C0) (T1 : ErrK X.K X.mg bVE U "InvalidRow" C1) (S1 : ErrF X.K "InvalidRow" "index" C1) (T2 : ErrK X.K X.mg bVE U "InvalidRule" C2) (S2 : ErrF X.K "InvalidRule" "value" C2) (T3 : ErrK X.K X.mg bVE U "InvalidTexts" C3) (S3 : ErrF X.K "InvalidTexts" "index" C3) (T4 : ErrK X.K X.mg bVE U "InvalidWidth" C4) (S4 : ErrF X.K "InvalidWidth" "value" C4) :
    GivesTo X ["_law_ask", "_law_given", "e"] "_law_ended" (defScope s_law_ended) g cdg (defBody s_law_ended) "_law_ask" q (TEnd [("InvalidMark", "value", C0), ("InvalidRow", "index", C1), ("InvalidRule", "value", C2), ("InvalidTexts", "index", C3), ("InvalidWidth", "value", C4)]) := by
  intro f c' s H Q tl act hc h
  refine ⟨_, pss_cons (ps_try_manyA (i := 2) (tb := fun W D σ H => ∃ Ech : XK, (∀ cls d σ1 G, Ech cls d G → W cls d σ1 G) ∧ σ[0]? = some (some (.ref f)) ∧ H c' = some (CodeO c' q) ∧ ∃ Q1 : VK, tl Ech H Q1 ∧ ∀ v G, Q1 v G → D.nx (σ.set 1 (some v)) G) (Wout := fun _ _ _ _ => False) rfl rfl sc_law_ended.nd rfl rfl L2.takes0
      (fun W pn xe tk _ => ⟨fun pins s1 σ G D I h1 => by
        obtain ⟨Ech, hW, h2, h3, Q1, h4, h5⟩ := h1
        exact (pss_one (ps_set (i := 1) sc_law_ended.nd rfl (.inl rfl) (pe_mid (act W pn xe Ech _ _ tk hW)))).run pins s1 σ G D I ⟨Q1, ⟨h2, h3, h4⟩, h5⟩⟩)
      (.cons (htest_name ⟨rfl, by decide, .inl T0.g⟩) (fun a oe cls d pn hz hf => (pss_one (ps_ret (pe_lst (pa_cons pe_str (pa_cons (pe_xfE T0 S0 (List.mem_cons_self ..) hz hf (pv 2) rfl) (pa_cons (pe_and (pe_callB (id := "isinstance") (r := rIsX X.K C0 a cls d) (by exact call_isX T0 (List.mem_cons_self ..) hz hf) (by rfl) B.isinstance (by decide +kernel) (pa_cons (pv 2) (pa_cons (pe_glob (v := .ref U) (by rfl) UI.g rfl) pa_nil))) (pe_one (pe_callB (id := "isinstance") (r := rIsX X.K C0 a cls d) (by exact call_isX T0 (List.mem_cons_self ..) hz hf) (by rfl) B.isinstance (by decide +kernel) (pa_cons (pv 2) (pa_cons (pe_bltn (v := .ty "ValueError") (by rfl) B.ValueError (by decide +kernel) rfl) pa_nil))))) pa_nil))))))) (.cons (htest_name ⟨rfl, by decide, .inl T1.g⟩) (fun a oe cls d pn hz hf => (pss_one (ps_ret (pe_lst (pa_cons pe_str (pa_cons (pe_xfE T1 S1 (List.mem_cons_self ..) hz hf (pv 2) rfl) (pa_cons (pe_and (pe_callB (id := "isinstance") (r := rIsX X.K C1 a cls d) (by exact call_isX T1 (List.mem_cons_self ..) hz hf) (by rfl) B.isinstance (by decide +kernel) (pa_cons (pv 2) (pa_cons (pe_glob (v := .ref U) (by rfl) UI.g rfl) pa_nil))) (pe_one (pe_callB (id := "isinstance") (r := rIsX X.K C1 a cls d) (by exact call_isX T1 (List.mem_cons_self ..) hz hf) (by rfl) B.isinstance (by decide +kernel) (pa_cons (pv 2) (pa_cons (pe_bltn (v := .ty "ValueError") (by rfl) B.ValueError (by decide +kernel) rfl) pa_nil))))) pa_nil))))))) (.cons (htest_name ⟨rfl, by decide, .inl T2.g⟩) (fun a oe cls d pn hz hf => (pss_one (ps_ret (pe_lst (pa_cons pe_str (pa_cons (pe_xfE T2 S2 (List.mem_cons_self ..) hz hf (pv 2) rfl) (pa_cons (pe_and (pe_callB (id := "isinstance") (r := rIsX X.K C2 a cls d) (by exact call_isX T2 (List.mem_cons_self ..) hz hf) (by rfl) B.isinstance (by decide +kernel) (pa_cons (pv 2) (pa_cons (pe_glob (v := .ref U) (by rfl) UI.g rfl) pa_nil))) (pe_one (pe_callB (id := "isinstance") (r := rIsX X.K C2 a cls d) (by exact call_isX T2 (List.mem_cons_self ..) hz hf) (by rfl) B.isinstance (by decide +kernel) (pa_cons (pv 2) (pa_cons (pe_bltn (v := .ty "ValueError") (by rfl) B.ValueError (by decide +kernel) rfl) pa_nil))))) pa_nil))))))) (.cons (htest_name ⟨rfl, by decide, .inl T3.g⟩) (fun a oe cls d pn hz hf => (pss_one (ps_ret (pe_lst (pa_cons pe_str (pa_cons (pe_xfE T3 S3 (List.mem_cons_self ..) hz hf (pv 2) rfl) (pa_cons (pe_and (pe_callB (id := "isinstance") (r := rIsX X.K C3 a cls d) (by exact call_isX T3 (List.mem_cons_self ..) hz hf) (by rfl) B.isinstance (by decide +kernel) (pa_cons (pv 2) (pa_cons (pe_glob (v := .ref U) (by rfl) UI.g rfl) pa_nil))) (pe_one (pe_callB (id := "isinstance") (r := rIsX X.K C3 a cls d) (by exact call_isX T3 (List.mem_cons_self ..) hz hf) (by rfl) B.isinstance (by decide +kernel) (pa_cons (pv 2) (pa_cons (pe_bltn (v := .ty "ValueError") (by rfl) B.ValueError (by decide +kernel) rfl) pa_nil))))) pa_nil))))))) (.cons (htest_name ⟨rfl, by decide, .inl T4.g⟩) (fun a oe cls d pn hz hf => (pss_one (ps_ret (pe_lst (pa_cons pe_str (pa_cons (pe_xfE T4 S4 (List.mem_cons_self ..) hz hf (pv 2) rfl) (pa_cons (pe_and (pe_callB (id := "isinstance") (r := rIsX X.K C4 a cls d) (by exact call_isX T4 (List.mem_cons_self ..) hz hf) (by rfl) B.isinstance (by decide +kernel) (pa_cons (pv 2) (pa_cons (pe_glob (v := .ref U) (by rfl) UI.g rfl) pa_nil))) (pe_one (pe_callB (id := "isinstance") (r := rIsX X.K C4 a cls d) (by exact call_isX T4 (List.mem_cons_self ..) hz hf) (by rfl) B.isinstance (by decide +kernel) (pa_cons (pv 2) (pa_cons (pe_bltn (v := .ty "ValueError") (by rfl) B.ValueError (by decide +kernel) rfl) pa_nil))))) pa_nil))))))) .nil))))))
    (pss_one (ps_ret (pe_lst (pa_cons pe_str (pa_cons (pv 1) pa_nil))))), ?_⟩
  obtain ⟨E1, Q1, h1, hE, hQ⟩ := h
  refine ⟨E1, fun cls d σ1 G he => ?_, rfl, hc, Q1, h1, fun v G hv => ?_⟩
  · obtain ⟨N, Fl, C, dd, v, mem, e1, e2, e3, k⟩ := hE cls d G he
    subst e1 e2
    simp only [List.mem_cons, List.not_mem_nil, or_false, Prod.mk.injEq] at mem
    have lk : ∀ Fl : Str, List.lookup Fl [(Fl, v)] = some v := fun Fl => by simp [List.lookup]
    rcases mem with mem | mem | mem | mem | mem
    · obtain ⟨rfl, rfl, rfl⟩ := mem
      refine ⟨_, T0.exm T0 (UI.ne T0 (by decide +kernel)), fun _ a na len => ?_, fun z => absurd (decide_eq_true (rfl : ("InvalidMark" : Str) = "InvalidMark")) (by rw [z]; decide)⟩
      have here : (σ1.set 2 (some (V.ref a)))[2]? = some (some (V.ref a)) := List.getElem?_set_self len
      refine ⟨.ref a, here, rfl, rfl, dd, _, v, rfl, e3, lk _, .ref a, here, _, .ref U, true, rfl, rfl, fun u hu => hu, T0.kitU UI, fun d2 e => ⟨_, by cases e; exact e3⟩, ?_⟩
      exact ⟨_, rfl, iteT ⟨.ref a, here, _, .type "ValueError", true, rfl, rfl, fun u hu => hu, T0.kitV (by decide +kernel), fun d2 e => ⟨_, by cases e; exact e3⟩, by show 3 ≤ sizeLine; decide, fun p np => k p _ (same_new np) upd_same⟩⟩
    · obtain ⟨rfl, rfl, rfl⟩ := mem
      refine ⟨_, T1.exm T0 (UI.ne T0 (by decide +kernel)), fun z => absurd (of_decide_eq_true z) (by decide +kernel), fun _ => ?_⟩
      refine ⟨_, T1.exm T1 (UI.ne T1 (by decide +kernel)), fun _ a na len => ?_, fun z => absurd (decide_eq_true (rfl : ("InvalidRow" : Str) = "InvalidRow")) (by rw [z]; decide)⟩
      have here : (σ1.set 2 (some (V.ref a)))[2]? = some (some (V.ref a)) := List.getElem?_set_self len
      refine ⟨.ref a, here, rfl, rfl, dd, _, v, rfl, e3, lk _, .ref a, here, _, .ref U, true, rfl, rfl, fun u hu => hu, T1.kitU UI, fun d2 e => ⟨_, by cases e; exact e3⟩, ?_⟩
      exact ⟨_, rfl, iteT ⟨.ref a, here, _, .type "ValueError", true, rfl, rfl, fun u hu => hu, T1.kitV (by decide +kernel), fun d2 e => ⟨_, by cases e; exact e3⟩, by show 3 ≤ sizeLine; decide, fun p np => k p _ (same_new np) upd_same⟩⟩
    · obtain ⟨rfl, rfl, rfl⟩ := mem
      refine ⟨_, T2.exm T0 (UI.ne T0 (by decide +kernel)), fun z => absurd (of_decide_eq_true z) (by decide +kernel), fun _ => ?_⟩
      refine ⟨_, T2.exm T1 (UI.ne T1 (by decide +kernel)), fun z => absurd (of_decide_eq_true z) (by decide +kernel), fun _ => ?_⟩
      refine ⟨_, T2.exm T2 (UI.ne T2 (by decide +kernel)), fun _ a na len => ?_, fun z => absurd (decide_eq_true (rfl : ("InvalidRule" : Str) = "InvalidRule")) (by rw [z]; decide)⟩
      have here : (σ1.set 2 (some (V.ref a)))[2]? = some (some (V.ref a)) := List.getElem?_set_self len
      refine ⟨.ref a, here, rfl, rfl, dd, _, v, rfl, e3, lk _, .ref a, here, _, .ref U, true, rfl, rfl, fun u hu => hu, T2.kitU UI, fun d2 e => ⟨_, by cases e; exact e3⟩, ?_⟩
      exact ⟨_, rfl, iteT ⟨.ref a, here, _, .type "ValueError", true, rfl, rfl, fun u hu => hu, T2.kitV (by decide +kernel), fun d2 e => ⟨_, by cases e; exact e3⟩, by show 3 ≤ sizeLine; decide, fun p np => k p _ (same_new np) upd_same⟩⟩
    · obtain ⟨rfl, rfl, rfl⟩ := mem
      refine ⟨_, T3.exm T0 (UI.ne T0 (by decide +kernel)), fun z => absurd (of_decide_eq_true z) (by decide +kernel), fun _ => ?_⟩
      refine ⟨_, T3.exm T1 (UI.ne T1 (by decide +kernel)), fun z => absurd (of_decide_eq_true z) (by decide +kernel), fun _ => ?_⟩
      refine ⟨_, T3.exm T2 (UI.ne T2 (by decide +kernel)), fun z => absurd (of_decide_eq_true z) (by decide +kernel), fun _ => ?_⟩
      refine ⟨_, T3.exm T3 (UI.ne T3 (by decide +kernel)), fun _ a na len => ?_, fun z => absurd (decide_eq_true (rfl : ("InvalidTexts" : Str) = "InvalidTexts")) (by rw [z]; decide)⟩
      have here : (σ1.set 2 (some (V.ref a)))[2]? = some (some (V.ref a)) := List.getElem?_set_self len
      refine ⟨.ref a, here, rfl, rfl, dd, _, v, rfl, e3, lk _, .ref a, here, _, .ref U, true, rfl, rfl, fun u hu => hu, T3.kitU UI, fun d2 e => ⟨_, by cases e; exact e3⟩, ?_⟩
      exact ⟨_, rfl, iteT ⟨.ref a, here, _, .type "ValueError", true, rfl, rfl, fun u hu => hu, T3.kitV (by decide +kernel), fun d2 e => ⟨_, by cases e; exact e3⟩, by show 3 ≤ sizeLine; decide, fun p np => k p _ (same_new np) upd_same⟩⟩
    · obtain ⟨rfl, rfl, rfl⟩ := mem
      refine ⟨_, T4.exm T0 (UI.ne T0 (by decide +kernel)), fun z => absurd (of_decide_eq_true z) (by decide +kernel), fun _ => ?_⟩
      refine ⟨_, T4.exm T1 (UI.ne T1 (by decide +kernel)), fun z => absurd (of_decide_eq_true z) (by decide +kernel), fun _ => ?_⟩
      refine ⟨_, T4.exm T2 (UI.ne T2 (by decide +kernel)), fun z => absurd (of_decide_eq_true z) (by decide +kernel), fun _ => ?_⟩
      refine ⟨_, T4.exm T3 (UI.ne T3 (by decide +kernel)), fun z => absurd (of_decide_eq_true z) (by decide +kernel), fun _ => ?_⟩
      refine ⟨_, T4.exm T4 (UI.ne T4 (by decide +kernel)), fun _ a na len => ?_, fun z => absurd (decide_eq_true (rfl : ("InvalidWidth" : Str) = "InvalidWidth")) (by rw [z]; decide)⟩
      have here : (σ1.set 2 (some (V.ref a)))[2]? = some (some (V.ref a)) := List.getElem?_set_self len
      refine ⟨.ref a, here, rfl, rfl, dd, _, v, rfl, e3, lk _, .ref a, here, _, .ref U, true, rfl, rfl, fun u hu => hu, T4.kitU UI, fun d2 e => ⟨_, by cases e; exact e3⟩, ?_⟩
      exact ⟨_, rfl, iteT ⟨.ref a, here, _, .type "ValueError", true, rfl, rfl, fun u hu => hu, T4.kitV (by decide +kernel), fun d2 e => ⟨_, by cases e; exact e3⟩, by show 3 ≤ sizeLine; decide, fun p np => k p _ (same_new np) upd_same⟩⟩
  · exact ⟨_, rfl, by show 2 ≤ sizeLine; decide, fun p np => hQ v G hv p _ (same_new np) upd_same⟩
end Gu
namespace Gu
open PySem PySem.Spec PyProof.Rows L2
/-! ### Shorteners refused -/
section
variable {P : Program} {w : World} {K : PySem.W.Frag} {mg : Str → Option Value} {base : Heap} {C U CM CN : Addr}
def OkNum (v : V) : Prop := ∃ i : Int, v = .int i ∧ 0 ≤ i ∧ i ≤ 40
/-- no whole number from 0 to m -/
def NoNum (K : PySem.W.Frag) (H : Hp) (m : Int) (v : V) : Prop := (∃ i : Int, v = .int i ∧ ¬ (0 ≤ i ∧ i ≤ m)) ∨ Isa K H v "int" false ∨ (Isa K H v "int" true ∧ Isa K H v "bool" true)
/-- no text of at most m signs -/
def NoTxt (K : PySem.W.Frag) (H : Hp) (m : Int) (v : V) : Prop := Isa K H v "str" false ∨ ∃ z : Str, v = .str z ∧ z.length ≤ 1000 ∧ isTxt z m = false
theorem TyX.same {H G : Hp} (s : Same H G) {v : V} {t : Value} (h : TyX K H v t) : TyX K G v t := by
  cases h with
  | base b =>
    refine .base ?_
    cases b with
    | non => exact .non
    | bl x => exact .bl x
    | int i => exact .int i
    | str x => exact .str x
    | flt x => exact .flt x
    | lst e => exact .lst (s _ _ e)
    | frz e => exact .frz (s _ _ e)
    | tup e => exact .tup (s _ _ e)
    | dK e => exact .dK (s _ _ e)
    | dT e => exact .dT (s _ _ e)
    | ins e a b c d f => exact .ins (s _ _ e) a b c d f
  | byt b => exact .byt b
  | set e => exact .set (s _ _ e)
  | kList e c => exact .kList e c
  | kTuple e c => exact .kTuple e c
  | kDict e c => exact .kDict e c
  | fTuple e => exact .fTuple (s _ _ e)
  | fDict e => exact .fDict (s _ _ e)
theorem Isa.same {H G : Hp} (s : Same H G) {v : V} {T : String} {b : Bool} (h : Isa K H v T b) : Isa K G v T b := by
  obtain ⟨t, a, c⟩ := h
  exact ⟨t, TyX.same s a, c⟩
theorem NoNum.same {H G : Hp} (s : Same H G) {m : Int} {v : V} (h : NoNum K H m v) : NoNum K G m v := h.imp id (Or.imp (Isa.same s) fun ⟨a, b⟩ => ⟨a.same s, b.same s⟩)
theorem NoTxt.same {H G : Hp} (s : Same H G) {m : Int} {v : V} (h : NoTxt K H m v) : NoTxt K G m v := h.imp (Isa.same s) id
theorem Cal.imp {k : Nat} {x : Str} {ps : List Str} {s1 s2 : Sp} (c : Cal P w K mg base k x ps s1) (h : ∀ vs H Q E, s2 vs H Q E → s1 vs H Q E) : Cal P w K mg base k x ps s2 := by
  obtain ⟨f, fd, F, r⟩ := c.ex
  exact ⟨f, fd, ⟨fun vs H Q E z => F.len vs H Q E (h vs H Q E z), fun A outer s H args us vs Q E a b c d z => F.run A outer s H args us vs Q E a b c d (h vs H Q E z)⟩, r⟩
/-- a whole number from 0 to m, or none -/
def spNum (K : PySem.W.Frag) : Sp := fun vs H Q _ => ∃ (v : V) (m : Int), vs = [v, .int 0, .int m] ∧ ((∃ i : Int, v = .int i ∧ 0 ≤ i ∧ i ≤ m ∧ Q (.bl true) H) ∨ (NoNum K H m v ∧ Q (.bl false) H))
theorem num_of (c : Cal P w K mg base 1 "is_integer" ps_is_integer (spIsInteger K)) : Cal P w K mg base 1 "is_integer" ps_is_integer (spNum K) := c.imp fun vs H Q E ⟨v, m, e, h⟩ => by
  refine ⟨v, 0, m, e, ?_⟩
  rcases h with ⟨i, rfl, h0, h1, q⟩ | ⟨⟨i, rfl, h⟩ | h | ⟨h, k⟩, q⟩
  · exact .inl ⟨i, rfl, by rw [decide_eq_true ⟨h0, h1⟩]; exact q⟩
  · exact .inl ⟨i, rfl, by rw [decide_eq_false h]; exact q⟩
  · exact .inr (.inl ⟨h, q⟩)
  · exact .inr (.inr ⟨h, k, q⟩)
/-- a text of at most m signs, or none -/
def spTxt (K : PySem.W.Frag) : Sp := fun vs H Q _ => ∃ (v : V) (m : Int), vs = [v, .int m] ∧ ((∃ z : Str, v = .str z ∧ z.length ≤ 1000 ∧ isTxt z m = true ∧ ∀ G, Same H G → Q (.bl true) G) ∨ (NoTxt K H m v ∧ ∀ G, Same H G → Q (.bl false) G))
theorem txt_of (c : Cal P w K mg base 1 "is_text" ps_is_text (spIsText K)) : Cal P w K mg base 1 "is_text" ps_is_text (spTxt K) := c.imp fun vs H Q E ⟨v, m, e, h⟩ => by
  refine ⟨v, m, e, ?_⟩
  rcases h with ⟨z, rfl, l, h, q⟩ | ⟨h | ⟨z, rfl, l, h⟩, q⟩
  · exact .inl ⟨z, rfl, l, fun G s => by rw [h]; exact q G s⟩
  · exact .inr ⟨h, q H (Same.refl H)⟩
  · exact .inl ⟨z, rfl, l, fun G s => by rw [h]; exact q G s⟩
/-- an error of the class at C is raised that holds v -/
def Raised (C : Addr) (Fl : Str) (v : V) (H : Hp) (E : XK) : Prop := ∀ (d : Addr) (G : Hp), Same H G → G d = some (.xd [(Fl, v)]) → E (.ref C) (some d) G
theorem Raised.same {Fl : Str} {v : V} {H G : Hp} {E : XK} (s : Same H G) (h : Raised C Fl v H E) : Raised C Fl v G E := fun d J sJ e => h d J (s.trans sJ) e
def spMarkX (K : PySem.W.Frag) (CM : Addr) : Sp := fun vs H _ E => ∃ v : V, vs = [v] ∧ NoTxt K H 3 v ∧ Raised CM "value" v H E
theorem cal_markX (B : Bi mg) (D : At K mg "check_mark" s_check_mark ps_check_mark) (T_InvalidMark : ErrK K mg bVE U "InvalidMark" CM) (S_InvalidMark : ErrF K "InvalidMark" "value" CM) (C_is_text : Cal P w K mg base 1 "is_text" ps_is_text (spTxt K)) : CalX P w K mg base 2 "check_mark" ps_check_mark (spMarkX K CM) := by
  refine D.calX sc_check_mark (fun vs H Q E h => ?_) (fun f cdv A outer s H vs Q E hr h => ?_)
  · obtain ⟨v, rfl, _⟩ := h
    rfl
  · obtain ⟨v, rfl, no, k⟩ := h
    refine ⟨_, (pss_one (ps_if (pt_not (pt_val (pe_own C_is_text hr (by decide) (by rfl) (pa_cons (pv 0) (pa_cons (pe_cst B.MOST_MARK (by rfl)) pa_nil))))) (pss_one (ps_raiseE T_InvalidMark S_InvalidMark rfl hr (takes_of rfl rfl rfl rfl) (pa_cons (pv 0) pa_nil) (by rfl))) pss_nil)), ?_⟩
    refine ⟨_, rfl, v, 3, rfl, .inr ⟨no, fun G s => ⟨_, rfl, iteT ?_⟩⟩⟩
    exact ⟨_, rfl, v, rfl, fun d nd => k d _ (s.trans (same_new nd)) upd_same⟩
def spInitX (K : PySem.W.Frag) (C CN CM : Addr) : Sp := fun vs H _ E => ∃ (x dx : Addr) (l h t m : V), vs = [.ref x, l, h, t, m] ∧ H x = some (.ins C dx []) ∧
  ((∃ v, ((NoNum K H 40 l ∧ v = l) ∨ (OkNum l ∧ NoNum K H 40 h ∧ v = h) ∨ (OkNum l ∧ OkNum h ∧ NoNum K H 40 t ∧ v = t)) ∧ Raised CN "value" v H E) ∨ (OkNum l ∧ OkNum h ∧ OkNum t ∧ NoTxt K H 3 m ∧ Raised CM "value" m H E))
theorem ok_initX {f : Addr} {fd : FuncData} (B : Bi mg) (F : Fun K "__init__" "Shortener.__init__" s_Shortener_init f fd) (T_InvalidNumber : ErrK K mg bVE U "InvalidNumber" CN) (S_InvalidNumber : ErrF K "InvalidNumber" "value" CN) (C_is_integer : Cal P w K mg base 1 "is_integer" ps_is_integer (spNum K)) (CX_check_mark : CalX P w K mg base 2 "check_mark" ps_check_mark (spMarkX K CM)) : FnOk P w K mg base (L2.CX P w) 3 f fd ps_Shortener_init (spInitX K C CN CM) := by
  refine F.okX sc_Shortener_init (fun vs H Q E h => ?_) (fun cdv A outer s H vs Q E hr h => ?_)
  · obtain ⟨x, dx, l, h, t, m, rfl, _⟩ := h
    rfl
  · obtain ⟨x, dx, l, h, t, m, rfl, hx, way⟩ := h
    refine ⟨_, (pss_cons (ps_for (passes_of rfl) rfl (pi_tup (pe_tup (pa_cons (pv 1) (pa_cons (pv 2) (pa_cons (pv 3) pa_nil))))) (pg_name (i := 5) sc_Shortener_init.nd rfl (.inl rfl))
      (pss_one (ps_if (pt_not (pt_val (pe_own C_is_integer hr (by decide) (by rfl) (pa_cons (pv 5) (pa_cons pe_int (pa_cons (pe_cst B.MOST_SIGNS (by rfl)) pa_nil)))))) (pss_one (ps_raiseE T_InvalidNumber S_InvalidNumber rfl hr (takes_of rfl rfl rfl rfl) (pa_cons (pv 5) pa_nil) (by rfl))) pss_nil)))
      (pss_cons (ps_expr (pe_ownX CX_check_mark hr (by decide) (takes_of rfl rfl rfl rfl) (fun _ _ _ _ h => h) (by rfl) (pa_cons (pv 4) pa_nil)))
      (pss_cons (ps_fld (pv 0) (pv 1) rfl)
      (pss_cons (ps_fld (pv 0) (pv 2) rfl)
      (pss_cons (ps_fld (pv 0) (pv 3) rfl)
      (pss_cons (ps_fld (pv 0) (pv 4) rfl)
      (pss_one (ps_fld (pv 0) (pe_tup (pa_cons (pv 1) (pa_cons (pv 2) (pa_cons (pv 3) (pa_cons (pv 4) pa_nil))))) rfl)))))))), ?_⟩
    refine ⟨_, rfl, _, rfl, _, rfl, by show 3 ≤ sizeLine; decide, fun T nT => ?_⟩
    have sT : Same H (upd H T (.tup [l, h, t])) := same_new nT
    have eT : upd H T (.tup [l, h, t]) T = some (.tup [l, h, t]) := upd_same
    generalize upd H T (.tup [l, h, t]) = H1 at sT eT
    -- the numbers up to the first bad one
    have way1 : ∃ j : Nat, (∀ i u, i < j → [l, h, t][i]? = some u → OkNum u) ∧ ((j < 3 ∧ ∃ v, [l, h, t][j]? = some v ∧ NoNum K H1 40 v ∧ Raised CN "value" v H1 E) ∨ (j = 3 ∧ NoTxt K H1 3 m ∧ Raised CM "value" m H1 E)) := by
      have one : ∀ {u v : V}, OkNum v → some v = some u → OkNum u := fun o e => by
        cases e
        exact o
      rcases way with ⟨v, ⟨n, rfl⟩ | ⟨o, n, rfl⟩ | ⟨o, o2, n, rfl⟩, r⟩ | ⟨o, o2, o3, n, r⟩
      · exact ⟨0, fun i u hi => absurd hi (Nat.not_lt_zero i), .inl ⟨by decide, v, rfl, n.same sT, r.same sT⟩⟩
      · exact ⟨1, fun i u hi e => match i, hi, e with | 0, _, e => one o e, .inl ⟨by decide, v, rfl, n.same sT, r.same sT⟩⟩
      · exact ⟨2, fun i u hi e => match i, hi, e with | 0, _, e => one o e | 1, _, e => one o2 e, .inl ⟨by decide, v, rfl, n.same sT, r.same sT⟩⟩
      · exact ⟨3, fun i u _ e => match i, e with | 0, e => one o e | 1, e => one o2 e | 2, e => one o3 e, .inr ⟨rfl, n.same sT, r.same sT⟩⟩
    obtain ⟨j, fine, last⟩ := way1
    refine ⟨T, rfl, ⟨_, .inl (.inl eT)⟩, for_tup (K := K) (a := T) (xs := [l, h, t]) (fun i σ J => (∃ u, σ = [some (.ref x), some l, some h, some t, some m, u]) ∧ J = H1 ∧ i ≤ j)
      ⟨⟨none, rfl⟩, rfl, Nat.zero_le _⟩ (fun i σ J _ ⟨_, e, _⟩ => by rw [e]; exact .inl (.inl eT)) ?_ ?_⟩
    · rintro i v σ J hi ⟨⟨u, rfl⟩, rfl, ij⟩
      rcases Nat.lt_or_ge i j with lt | ge
      · obtain ⟨n, rfl, n0, n1⟩ := fine i v lt hi
        exact ⟨_, rfl, _, 40, rfl, .inl ⟨n, rfl, n0, n1, _, rfl, iteF ⟨⟨_, rfl⟩, rfl, lt⟩⟩⟩
      · have ej : j = i := by omega
        subst ej
        rcases last with ⟨_, v', e, n, r⟩ | ⟨e, _⟩
        · rw [e] at hi
          cases hi
          exact ⟨_, rfl, _, 40, rfl, .inr ⟨n, _, rfl, iteT ⟨_, rfl, v, rfl, fun d nd => r d _ (same_new nd) upd_same⟩⟩⟩
        · rw [e] at hi
          cases hi
    · rintro σ J ⟨⟨u, rfl⟩, rfl, ij⟩
      rcases last with ⟨lt, _⟩ | ⟨_, n, r⟩
      · exact absurd ij (Nat.not_le.mpr lt)
      · exact ⟨_, rfl, m, rfl, n, r⟩
theorem mak_shX (B : Bi mg) (S : ShC K mg C) (D : InitAt K C) (T_InvalidNumber : ErrK K mg bVE U "InvalidNumber" CN) (S_InvalidNumber : ErrF K "InvalidNumber" "value" CN) (C_is_integer : Cal P w K mg base 1 "is_integer" ps_is_integer (spNum K)) (CX_check_mark : CalX P w K mg base 2 "check_mark" ps_check_mark (spMarkX K CM)) : MakX P w K mg base 3 "Shortener" C (spInitX K C CN CM) := by
  obtain ⟨f, fd, M, F, b⟩ := D.ex
  exact ⟨f, fd, ps_Shortener_init, M, ok_initX B F T_InvalidNumber S_InvalidNumber C_is_integer CX_check_mark, S.g, b⟩
end
end Gu
namespace Gu
open PySem PySem.Spec PyProof.Rows L2 LamX
/-! ### what stands while the pot is used and tables grow -/
def KeepP (p : Addr) (H G : Hp) : Prop := ∀ c o, H c = some o → c ≠ p → (∀ ps, o ≠ .tbl ps) → G c = some o
theorem KeepP.refl (p : Addr) (H : Hp) : KeepP p H H := fun _ _ e _ _ => e
theorem KeepP.trans {p : Addr} {H G J : Hp} (a : KeepP p H G) (b : KeepP p G J) : KeepP p H J := fun c o e n t => b c o (a c o e n t) n t
theorem KeepP.ofSame {p : Addr} {H G : Hp} (a : Same H G) : KeepP p H G := fun c o e _ _ => a c o e
theorem KeepP.ofN {p : Addr} {H G : Hp} (a : SameN H G) : KeepP p H G := fun c o e _ t => a c o e t
theorem KeepP.ofL {p : Addr} {H G : Hp} (a : Ladled p H G) : KeepP p H G := fun c o e n _ => a.keep c o e n
theorem KeepP.tup {p : Addr} {H G : Hp} (k : KeepP p H G) (hp : Pot H p) {a : Addr} {xs : List V} (h : H a = some (.tup xs)) : G a = some (.tup xs) := k _ _ h (fun z => by
  obtain ⟨x, y, w, e⟩ := hp
  rw [← z, h] at e
  cases e) fun _ z => by cases z
theorem KeepP.dict {p : Addr} {H G : Hp} (k : KeepP p H G) (hp : Pot H p) {a : Addr} (h : H a = some (.dK [])) : G a = some (.dK []) := k _ _ h (fun z => by
  obtain ⟨x, y, w, e⟩ := hp
  rw [← z, h] at e
  cases e) fun _ z => by cases z
theorem KeepP.lst {p : Addr} {H G : Hp} (k : KeepP p H G) {a : Addr} (n : a ≠ p) {xs : List V} (h : H a = some (.lst xs)) : G a = some (.lst xs) := k _ _ h n fun _ z => by cases z
theorem KeepP.ins {p : Addr} {H G : Hp} (k : KeepP p H G) (hp : Pot H p) {a C dx : Addr} {fs : List (Str × V)} (h : H a = some (.ins C dx fs)) : G a = some (.ins C dx fs) := k _ _ h (fun z => by
  obtain ⟨x, y, w, e⟩ := hp
  rw [← z, h] at e
  cases e) fun _ z => by cases z
theorem KeepP.lst0 {p : Addr} {H G : Hp} (k : KeepP p H G) (hp : Pot H p) {a : Addr} {xs : List V} (h : H a = some (.lst xs)) (l : xs.length ≠ 3) : G a = some (.lst xs) := k _ _ h (fun z => by
  obtain ⟨x, y, w, e⟩ := hp
  rw [← z, h] at e
  cases e
  exact l rfl) fun _ z => by cases z
theorem TabS.of {H G : Hp} {P p : Addr} {q : Str} (t : TabS H P q) (hp : Pot H p) (e : ∀ b o, H b = some o → b ≠ p → G b = some o) : TabS G P q := by
  obtain ⟨x, y, z, ep⟩ := hp
  obtain ⟨ps, h1, h2, h3⟩ := t
  refine ⟨ps, e _ _ h1 fun q => ?_, h2, fun pos cv hc => ?_⟩
  · rw [q, ep] at h1
    cases h1
  · obtain ⟨c, e1, e2⟩ := h3 pos cv hc
    refine ⟨c, e1, e _ _ e2 fun q => ?_⟩
    rw [q, ep] at e2
    have z := Option.some.inj e2
    unfold CodeO at z
    cases z
theorem tabs_of {T : List (Addr × Str)} {H G : Hp} {p : Addr} (t : Tabs T H) (hp : Pot H p) (L : Ladled p H G) : Tabs T G := fun q hq => TabS.of (t q hq) hp L.keep
theorem sys_of {H G : Hp} {p : Addr} (y : Sys H) (hp : Pot H p) (L : Ladled p H G) : Sys G := by
  obtain ⟨x, y', z, ep⟩ := hp
  obtain ⟨o, u, e⟩ := y
  exact ⟨o, u, L.keep _ _ e fun q => by
    rw [q, ep] at e
    cases e⟩
theorem tabs_upd {T : List (Addr × Str)} {G : Hp} {q : Addr} {xs : List V} {o : HO} (t : Tabs T G) (e : G q = some (.lst xs)) : Tabs T (upd G q o) := fun r hr => by
  obtain ⟨ps, h1, h2, h3⟩ := t r hr
  refine ⟨ps, by rw [upd_ne fun z => by rw [z, e] at h1; cases h1]; exact h1, h2, fun pos cv hc => ?_⟩
  obtain ⟨c, e1, e2⟩ := h3 pos cv hc
  refine ⟨c, e1, ?_⟩
  rw [upd_ne fun z => by
    rw [z, e] at e2
    have y := Option.some.inj e2
    unfold CodeO at y
    cases y]
  exact e2
section
variable {T : List (Addr × Str)} {p : Addr} {H G J : Hp}
theorem LadT.refl (hp : Pot H p) (t : Tabs T H) (y : Sys H) : LadT T p H H := ⟨hp, fun _ _ e _ _ => e, t, y⟩
theorem LadT.trans (a : LadT T p H G) (b : LadT T p G J) : LadT T p H J := ⟨b.pot, fun c o e n t => b.keep c o (a.keep c o e n t) n t, b.tabs, b.sys⟩
theorem LadT.same (a : LadT T p H G) (s : Same G J) : LadT T p H J := ⟨a.pot.same s, fun c o e n t => s _ _ (a.keep c o e n t), a.tabs.ext s, a.sys.same s⟩
theorem LadT.lad (a : LadT T p H G) (L : Ladled p G J) : LadT T p H J := ⟨L.pot, fun c o e n t => L.keep _ _ (a.keep c o e n t) n, tabs_of a.tabs a.pot L, sys_of a.sys a.pot L⟩
theorem LadT.ext (a : LadT T p H G) (s : ExtN G J) (t : Tabs T J) : LadT T p H J := by
  obtain ⟨x, y, z, e⟩ := a.pot
  exact ⟨⟨x, y, z, s _ _ e fun _ q => by cases q⟩, fun c o e n q => s _ _ (a.keep c o e n q) q, t, SameN.sys s a.sys⟩
/-- what is not known in G was not known in H, but for a table -/
theorem LadT.free (a : LadT T p H G) {q : Addr} (h : G q = none) : q ≠ p ∧ ∀ o, H q = some o → ∃ ps, o = .tbl ps := by
  have n : q ≠ p := a.pot.ne h
  refine ⟨n, fun o e => Classical.byContradiction fun z => ?_⟩
  rw [a.keep q o e n fun ps y => z ⟨ps, y⟩] at h
  cases h
/-- a list that is new since H may change -/
theorem LadT.mut {q : Addr} {xs ys : List V} (a : LadT T p H G) (h : q ≠ p ∧ ∀ o, H q = some o → ∃ ps, o = .tbl ps) (e : G q = some (.lst xs)) : LadT T p H (upd G q (.lst ys)) := by
  obtain ⟨n, h⟩ := h
  refine ⟨?_, fun c o e1 nc nt => ?_, tabs_upd a.tabs e, ?_⟩
  · obtain ⟨x, y, z, ep⟩ := a.pot
    exact ⟨x, y, z, by rw [upd_ne (Ne.symm n)]; exact ep⟩
  · rw [upd_ne fun z => by
      obtain ⟨ps, y⟩ := h o (by rw [← z]; exact e1)
      exact nt ps y]
    exact a.keep c o e1 nc nt
  · obtain ⟨o, u, ey⟩ := a.sys
    exact ⟨o, u, by rw [upd_ne fun z => by rw [z, e] at ey; cases ey]; exact ey⟩
end
/-! ### Shortener by keywords, refused -/
def revK {α : Type} (a b : List α) : List α := a ++ b.reverse
theorem valsK : ∀ {zs : List V} {ws : List Value}, Vals zs ws → Vals zs.reverse ws.reverse
  | [], _, r => by
    cases r
    exact .nil
  | z :: zs, _, r => by
    cases r with
    | cons a r =>
      rw [List.reverse_cons, List.reverse_cons]
      exact (valsK r).append (.cons a .nil)
structure MakXK (P : Program) (w : World) (K : PySem.W.Frag) (mg : Str → Option Value) (base : Heap) (k : Nat) (x : Str) (C : Addr) (ks : List Str) (gV : List V → List V → List V) (sp : Sp) : Prop where
  ex : ∃ (f : Addr) (fd : FuncData) (ps : List Str) (g : List Value → List Value → List Value), Mk K C f ∧ FnOk P w K mg base (L2.CX P w) k f fd ps sp ∧ mg x = some (.ref C) ∧ KBn K fd ps 1 ks g gV
theorem pe_newXK {X : Cx} {k j : Nat} {x : Str} {C : Addr} {ks : List Str} {gV : List V → List V → List V} {sp : Sp} {E : XK} {W : WX} {p pos : Pos} {kws : List Keyword} {tk : TA} (c : MakXK X.prog X.w X.K X.mg X.base k x C ks gV sp) (hr : Room j X.A) (hk : k + 1 ≤ j) (ty : Takes X W) (hW : ∀ cls d σ H, E cls d H → W cls d σ H) (hg : Gl X x) (hkw : PK X kws tk)
    (hall : (backToKw pos (keywordEach kws X.env)).all (·.1.isSome) = true := by rfl) (hks : (backToKw pos (keywordEach kws X.env)).filterMap (·.1) = ks := by rfl) (hdb : (x == ("__debug__" : Str)) = false := by decide)
    (hpl : ((backTo pos (starEach [] X.env)).any (·.1) || (backToKw pos (keywordEach kws X.env)).any (·.1.isNone)) = false := by rfl) : PE X (.Call (.Name x p) [] kws pos) (tMakeK C 0 ks.length sp gV E tNil tk) := by
  obtain ⟨f, fd, ps, g, M, F, hm, b⟩ := c.ex
  exact pe_makeK0 M F (hr.mono hk) hg hm b (passes_call ty hW) hkw hall hks hdb hpl
section
variable {P : Program} {w : World} {K : PySem.W.Frag} {mg : Str → Option Value} {base : Heap} {C U CN CM : Addr}
theorem mak_shXK (B : Bi mg) (S : ShC K mg C) (D : InitAt K C) (T_InvalidNumber : ErrK K mg bVE U "InvalidNumber" CN) (S_InvalidNumber : ErrF K "InvalidNumber" "value" CN) (C_is_integer : Cal P w K mg base 1 "is_integer" ps_is_integer (spNum K)) (CX_check_mark : CalX P w K mg base 2 "check_mark" ps_check_mark (spMarkX K CM)) : MakXK P w K mg base 3 "Shortener" C ["mark", "tail", "head", "limit"] revK (spInitX K C CN CM) := by
  obtain ⟨f, fd, M, F, b⟩ := D.ex
  refine ⟨f, fd, ps_Shortener_init, revK, M, ok_initX B F T_InvalidNumber S_InvalidNumber C_is_integer CX_check_mark, S.g, ⟨fun s us ws I l1 l2 => ?_, fun r q => ?_⟩⟩
  · obtain ⟨oc, od, kV, doc, pm, an, cdv, ct, sl, e, lk, hcd⟩ := F.ex
    rw [e]
    match us, ws, l1, l2 with
    | [_], [_, _, _, _], _, _ => exact BindsTo.of_eq rfl
  · exact r.append (valsK q)
end
/-- the way in which a Shortener is refused: the word, the thing -/
def Refused (K : PySem.W.Frag) (H : Hp) (l h t m : V) (N : Str) (v : V) : Prop :=
  (N = "InvalidNumber" ∧ ((NoNum K H 40 l ∧ v = l) ∨ (OkNum l ∧ NoNum K H 40 h ∧ v = h) ∨ (OkNum l ∧ OkNum h ∧ NoNum K H 40 t ∧ v = t))) ∨ (N = "InvalidMark" ∧ OkNum l ∧ OkNum h ∧ OkNum t ∧ NoTxt K H 3 m ∧ v = m)
section
variable {K : PySem.W.Frag} {T : List (Addr × Str)} {C CN CM p : Addr} {H : Hp} {σ : L2.St} {Q : VK} {l h t m v : V} {N : Str}
theorem lam_core {hs : List (Str × Str × Addr)} (mN : (("InvalidNumber" : Str), ("value" : Str), CN) ∈ hs) (mM : (("InvalidMark" : Str), ("value" : Str), CM) ∈ hs) (L : LadT T p H H) (bad : ∀ G, KeepP p H G → Refused K G l h t m N v) (k : ∀ q J, LadT T p H J → J q = some (.lst [.str N, v, .bl true]) → Q (.ref q) J)
    {tl : XK → Hp → VK → Prop} (go : ∀ (E : XK) (G : Hp) (R : VK), (∀ x dx, G x = none → G dx = none → dx ≠ x → spInitX K C CN CM [.ref x, l, h, t, m] (upd (upd G dx (.own x)) x (.ins C dx [])) (fun u J => u = .non ∧ R (.ref x) J) E) → tl E G R) (H1 : Hp) (e1 : ExtN H H1) (t1 : Tabs T H1) : TEnd hs tl H1 Q := by
  have L1 : LadT T p H H1 := L.ext e1 t1
  refine ⟨fun cls d G => ∃ (D dd : Addr), cls = .ref D ∧ (N, ("value" : Str), D) ∈ hs ∧ d = some dd ∧ LadT T p H G ∧ G dd = some (.xd [("value", v)]), fun _ _ => False, go _ H1 _ fun x dx nx ndx ne => ?_, fun cls d G ⟨D, dd, h1, h2, h3, h4, h5⟩ => ⟨N, "value", D, dd, v, h2, h1, h3, h5, fun q J s e => k q J (h4.same s) e⟩, fun _ _ z => z.elim⟩
  have s2 : Same H1 (upd (upd H1 dx (.own x)) x (.ins C dx [])) := (same_new ndx).trans (same_new (by rw [upd_ne (Ne.symm ne)]; exact nx))
  have e2 : upd (upd H1 dx (.own x)) x (.ins C dx []) x = some (.ins C dx []) := upd_same
  generalize upd (upd H1 dx (.own x)) x (.ins C dx []) = H2 at s2 e2
  have L2 := L1.same s2
  refine ⟨x, dx, l, h, t, m, rfl, e2, ?_⟩
  rcases bad H2 L2.keep with ⟨rfl, b⟩ | ⟨rfl, o1, o2, o3, b, rfl⟩
  · exact .inl ⟨v, b, fun d G s e => ⟨CN, d, rfl, mN, rfl, L2.same s, e⟩⟩
  · exact .inr ⟨o1, o2, o3, b, fun d G s e => ⟨CM, d, rfl, mM, rfl, L2.same s, e⟩⟩
theorem lam_init {hs : List (Str × Str × Addr)} {ta : TA} (mN : (("InvalidNumber" : Str), ("value" : Str), CN) ∈ hs) (mM : (("InvalidMark" : Str), ("value" : Str), CM) ∈ hs) (L : LadT T p H H) (args : ∀ (G : Hp) (R : List V → Hp → Prop), R [l, h, t, m] G → ta σ G R) (bad : ∀ G, KeepP p H G → Refused K G l h t m N v) (k : ∀ q J, LadT T p H J → J q = some (.lst [.str N, v, .bl true]) → Q (.ref q) J) :
    tLam T (TEnd hs) (fun E => tMake C (spInitX K C CN CM) [] E ta) σ H Q := ⟨L.tabs, fun H1 e1 t1 => lam_core mN mM L bad k (fun E G R h => args G _ h) H1 e1 t1⟩
theorem lam_initK {hs : List (Str × Str × Addr)} {tk : TA} (mN : (("InvalidNumber" : Str), ("value" : Str), CN) ∈ hs) (mM : (("InvalidMark" : Str), ("value" : Str), CM) ∈ hs) (L : LadT T p H H) (args : ∀ (G : Hp) (R : List V → Hp → Prop), R [m, t, h, l] G → tk σ G R) (bad : ∀ G, KeepP p H G → Refused K G l h t m N v) (k : ∀ q J, LadT T p H J → J q = some (.lst [.str N, v, .bl true]) → Q (.ref q) J) :
    tLam T (TEnd hs) (fun E => tMakeK C 0 4 (spInitX K C CN CM) revK E tNil tk) σ H Q := ⟨L.tabs, fun H1 e1 t1 => lam_core mN mM L bad k (fun E G R h => args G _ ⟨rfl, rfl, h⟩) H1 e1 t1⟩
end
end Gu
namespace Gu
open PySem PySem.Spec PyProof.Rows L2
/-! ### things that are no numbers, no texts, no tuples -/
section
variable {K : PySem.W.Frag} {G : Hp} {m : Int} {a : Addr} {xs : List V}
theorem isa_non {T : String} {b : Bool} (h : PySem.W.kitOne K (.type "NoneType") (.type T) = some b) : Isa K G .non T b := ⟨_, .base .non, h⟩
theorem isa_bl {T : String} {b : Bool} {x : Bool} (h : PySem.W.kitOne K (.type "bool") (.type T) = some b) : Isa K G (.bl x) T b := ⟨_, .base (.bl x), h⟩
theorem isa_int {T : String} {b : Bool} {x : Int} (h : PySem.W.kitOne K (.type "int") (.type T) = some b) : Isa K G (.int x) T b := ⟨_, .base (.int x), h⟩
theorem isa_str {T : String} {b : Bool} {x : Str} (h : PySem.W.kitOne K (.type "str") (.type T) = some b) : Isa K G (.str x) T b := ⟨_, .base (.str x), h⟩
theorem isa_tup {T : String} {b : Bool} (e : G a = some (.tup xs)) (h : PySem.W.kitOne K (.type "tuple") (.type T) = some b) : Isa K G (.ref a) T b := ⟨_, .base (.tup e), h⟩
theorem isa_lst {T : String} {b : Bool} (e : G a = some (.lst xs)) (h : PySem.W.kitOne K (.type "list") (.type T) = some b) : Isa K G (.ref a) T b := ⟨_, .base (.lst e), h⟩
theorem isa_dict {T : String} {b : Bool} (e : G a = some (.dK [])) (h : PySem.W.kitOne K (.type "dict") (.type T) = some b) : Isa K G (.ref a) T b := ⟨_, .base (.dK e), h⟩
theorem nn_non : NoNum K G m .non := .inr (.inl (isa_non (kit_ty (by decide +kernel))))
theorem nn_str {z : Str} : NoNum K G m (.str z) := .inr (.inl (isa_str (kit_ty (by decide +kernel))))
theorem nn_bl {b : Bool} : NoNum K G m (.bl b) := .inr (.inr ⟨isa_bl (kit_ty (by decide +kernel)), isa_bl (kit_ty (by decide +kernel))⟩)
theorem nn_int {i : Int} (h : ¬ (0 ≤ i ∧ i ≤ m)) : NoNum K G m (.int i) := .inl ⟨i, rfl, h⟩
theorem nn_tup (e : G a = some (.tup xs)) : NoNum K G m (.ref a) := .inr (.inl (isa_tup e (kit_ty (by decide +kernel))))
theorem nn_lst (e : G a = some (.lst xs)) : NoNum K G m (.ref a) := .inr (.inl (isa_lst e (kit_ty (by decide +kernel))))
theorem nn_dict (e : G a = some (.dK [])) : NoNum K G m (.ref a) := .inr (.inl (isa_dict e (kit_ty (by decide +kernel))))
theorem nt_non : NoTxt K G m .non := .inl (isa_non (kit_ty (by decide +kernel)))
theorem nt_bl {b : Bool} : NoTxt K G m (.bl b) := .inl (isa_bl (kit_ty (by decide +kernel)))
theorem nt_int {i : Int} : NoTxt K G m (.int i) := .inl (isa_int (kit_ty (by decide +kernel)))
theorem nt_str {z : Str} (l : z.length ≤ 1000) (h : isTxt z m = false) : NoTxt K G m (.str z) := .inr ⟨z, rfl, l, h⟩
theorem nt_tup (e : G a = some (.tup xs)) : NoTxt K G m (.ref a) := .inl (isa_tup e (kit_ty (by decide +kernel)))
theorem nt_lst (e : G a = some (.lst xs)) : NoTxt K G m (.ref a) := .inl (isa_lst e (kit_ty (by decide +kernel)))
theorem nt_dict (e : G a = some (.dK [])) : NoTxt K G m (.ref a) := .inl (isa_dict e (kit_ty (by decide +kernel)))
/-- a thing that can be written out, and of which R holds, wherever only the pot and tables have changed -/
def Thing (K : PySem.W.Frag) (p : Addr) (H : Hp) (v : V) (d : PyData) (R : Hp → V → Prop) : Prop := FineE 2 400 d ∧ ∀ G, KeepP p H G → DpE K G v d ∧ R G v
theorem Thing.at {p : Addr} {H J : Hp} {v : V} {d : PyData} {R : Hp → V → Prop} (h : Thing K p H v d R) (k : KeepP p H J) : Thing K p J v d R := ⟨h.1, fun G z => h.2 G (k.trans z)⟩
variable {p : Addr} {H : Hp} {R : Hp → V → Prop}
theorem th_non (r : ∀ G, R G .non) : ∃ d, Thing K p H .non d R := ⟨.none, Fine.none.e.mono (by decide) (by decide), fun G _ => ⟨.non, r G⟩⟩
theorem th_bl {b : Bool} (r : ∀ G, R G (.bl b)) : ∃ d, Thing K p H (.bl b) d R := ⟨.bool b, (Fine.bool b).e.mono (by decide) (by decide), fun G _ => ⟨.bl b, r G⟩⟩
theorem th_int {i : Int} (h : i.natAbs < 2 ^ 70) (r : ∀ G, R G (.int i)) : ∃ d, Thing K p H (.int i) d R := ⟨.int i, (Fine.int h).e.mono (by decide) (by decide), fun G _ => ⟨.int i, r G⟩⟩
theorem th_str {z : Str} (h : ∀ c ∈ z.cps.toList, c < 16 ^ 8) (l : z.cps.toList.length ≤ 400) (r : ∀ G, R G (.str z)) : ∃ d, Thing K p H (.str z) d R := ⟨.str z, (Fine.str h l).e.mono (by decide) (Nat.le_refl _), fun G _ => ⟨.str z, r G⟩⟩
theorem th_dict {a : Addr} (hp : Pot H p) (e : H a = some (.dK [])) (r : ∀ G, G a = some (.dK []) → R G (.ref a)) : ∃ d, Thing K p H (.ref a) d R := ⟨.dict [], FineE.dict0.mono (by decide) (by decide), fun G k => ⟨.dict (k.dict hp e), r G (k.dict hp e)⟩⟩
theorem th_tup {a : Addr} {xs : List V} {ds : List PyData} (hp : Pot H p) (e : H a = some (.tup xs)) (f : FineE 2 400 (.tuple ds)) (all : ∀ G, KeepP p H G → DpEs K G xs ds) (r : ∀ G, G a = some (.tup xs) → R G (.ref a)) : ∃ d, Thing K p H (.ref a) d R := ⟨.tuple ds, f, fun G k => ⟨.tup (.inl (.inl (k.tup hp e))) (all G k), r G (k.tup hp e)⟩⟩
theorem th_lst {a : Addr} {xs : List V} {ds : List PyData} (n : a ≠ p) (e : H a = some (.lst xs)) (f : FineE 2 400 (.list ds)) (all : ∀ G, KeepP p H G → DpEs K G xs ds) (r : ∀ G, G a = some (.lst xs) → R G (.ref a)) : ∃ d, Thing K p H (.ref a) d R := ⟨.list ds, f, fun G k => ⟨.lst (k.lst n e) (all G k), r G (k.lst n e)⟩⟩
end
end Gu
namespace Gu
open PySem PySem.Spec PyProof.Rows L2
/-! data are equal to themselves -/
mutual
theorem eqv_self : ∀ d : PyData, d.canLay0 = true → PyData.eqv d d = true
  | .none, _ => rfl
  | .bool b, _ => by simp [PyData.eqv]
  | .int i, _ => by simp [PyData.eqv]
  | .str x, _ => by simp [PyData.eqv]
  | .list xs, h => by
    rw [PyData.eqv]
    exact eqv_selfs xs (by simpa [PyData.canLay0] using h)
  | .tuple xs, h => by
    rw [PyData.eqv]
    exact eqv_selfs xs (by simpa [PyData.canLay0] using h)
  | .dict _, h => by simp [PyData.canLay0] at h
theorem eqv_selfs : ∀ xs : List PyData, PyData.canLayAll0 xs = true → PyData.eqvAll xs xs = true
  | [], _ => rfl
  | x :: xs, h => by
    have h2 : x.canLay0 = true ∧ PyData.canLayAll0 xs = true := by simpa [PyData.canLayAll0] using h
    rw [PyData.eqvAll, eqv_self x h2.1, eqv_selfs xs h2.2]
    rfl
end
end Gu
namespace Gu
open PySem PySem.Spec PyProof.Rows L2 LamX
/-! ### what has been seen, one answer after the other -/
theorem LadT.kp {T : List (Addr × Str)} {p : Addr} {H G : Hp} (a : LadT T p H G) : KeepP p H G := a.keep
theorem LadT.here {T : List (Addr × Str)} {p : Addr} {H G : Hp} (a : LadT T p H G) : LadT T p G G := .refl a.pot a.tabs a.sys
theorem pot_neS {H : Hp} {p q : Addr} {z : Str} {xs : List V} (h : Pot H p) (e : H q = some (.lst (.str z :: xs))) : q ≠ p := fun y => by
  obtain ⟨a, b, c, f⟩ := h
  rw [← y, e] at f
  cases f
structure SeenAt (p : Addr) (H : Hp) (S : Addr) (qs : List (Addr × Str × V)) : Prop where
  ls : H S = some (.lst (qs.map fun q => V.ref q.1))
  ne : S ≠ p
  el : ∀ q ∈ qs, H q.1 = some (.lst [.str q.2.1, q.2.2, .bl true]) ∧ q.1 ≠ S
theorem SeenAt.keep {p S : Addr} {H G : Hp} {qs : List (Addr × Str × V)} (h : SeenAt p H S qs) (hp : Pot H p) (k : KeepP p H G) : SeenAt p G S qs := ⟨k.lst h.ne h.ls, h.ne, fun q hq => ⟨k.lst (pot_neS hp (h.el q hq).1) (h.el q hq).1, (h.el q hq).2⟩⟩
theorem SeenAt.first {p S q : Addr} {H : Hp} {N : Str} {v : V} (hp : Pot H p) (nS : H S = none) (e : H q = some (.lst [.str N, v, .bl true])) : SeenAt p (upd H S (.lst [.ref q])) S [(q, N, v)] := by
  refine ⟨upd_same, hp.ne nS, fun r hr => ?_⟩
  rw [List.mem_singleton.mp hr]
  exact ⟨by rw [upd_ne (ne_of_none e nS)]; exact e, ne_of_none e nS⟩
theorem SeenAt.none {p S : Addr} {H : Hp} (hp : Pot H p) (nS : H S = none) : SeenAt p (upd H S (.lst [])) S [] := ⟨upd_same, hp.ne nS, fun r hr => by cases hr⟩
section
variable {T : List (Addr × Str)} {p S q : Addr} {H J : Hp} {qs : List (Addr × Str × V)} {N : Str} {v : V}
/-- S.append(q), q new -/
theorem SeenAt.more (h : SeenAt p J S qs) (e : J q = some (.lst [.str N, v, .bl true])) (n : q ≠ S) : SeenAt p (upd J S (.lst ((qs.map fun q => V.ref q.1) ++ [.ref q]))) S (qs ++ [(q, N, v)]) := by
  refine ⟨by rw [upd_same, List.map_append]; rfl, h.ne, fun r hr => ?_⟩
  rcases List.mem_append.mp hr with hr | hr
  · exact ⟨by rw [upd_ne (h.el r hr).2]; exact (h.el r hr).1, (h.el r hr).2⟩
  · rw [List.mem_singleton.mp hr]
    exact ⟨by rw [upd_ne n]; exact e, n⟩
end
/-- the items of a list are things -/
theorem seen_data {K : PySem.W.Frag} {p S : Addr} {H : Hp} {qs : List (Addr × Str × V)} (h : SeenAt p H S qs) {ds : List PyData} (all : DpEs K H (qs.map (·.2.2)) ds) : DpE K H (.ref S) (.list ((qs.zip ds).map fun x => .list [.str x.1.2.1, x.2, .bool true])) := by
  refine .lst h.ls ?_
  have go : ∀ (qs : List (Addr × Str × V)) (ds : List PyData), (∀ q ∈ qs, H q.1 = some (.lst [.str q.2.1, q.2.2, .bl true])) → DpEs K H (qs.map (·.2.2)) ds → DpEs K H (qs.map fun q => V.ref q.1) ((qs.zip ds).map fun x => .list [.str x.1.2.1, x.2, .bool true]) := by
    intro qs
    induction qs with
    | nil => exact fun _ _ _ => .nil
    | cons q qs ih =>
      intro ds e a
      cases a with
      | cons a1 a2 => exact .cons (.lst (e q (List.mem_cons_self ..)) (.cons (.str _) (.cons a1 (.cons (.bl true) .nil)))) (ih _ (fun r hr => e r (List.mem_cons_of_mem _ hr)) a2)
  exact go qs ds (fun q hq => (h.el q hq).1) all
/-- a short word -/
def isTxt20 (N : Str) : Bool := decide (N.cps.toList.length ≤ 20) && N.cps.toList.all fun c => decide (c < 128)
theorem word_fine {N : Str} (h : isTxt20 N = true) : FineE 2 400 (.str N) := by
  unfold isTxt20 at h
  rw [Bool.and_eq_true, List.all_eq_true] at h
  have l := of_decide_eq_true h.1
  exact (Fine.str (W := 400) (fun c hc => Nat.lt_of_lt_of_le (of_decide_eq_true (h.2 c hc)) (by decide)) (by omega)).e.mono (by decide) (Nat.le_refl _)
/-- an answer written out -/
def said (N : Str) (d : PyData) : PyData := .list [.str N, d, .bool true]
theorem said_fine {N : Str} {d : PyData} (h : FineE 2 400 d) (n : isTxt20 N = true) : FineE 3 1300 (said N d) := by
  have a : FineEs 2 400 [.str N, d, .bool true] := .of fun e he => by
    simp only [List.mem_cons, List.not_mem_nil, or_false] at he
    rcases he with rfl | rfl | rfl
    · exact word_fine n
    · exact h
    · exact (Fine.bool true).e.mono (by decide) (by decide)
  exact a.list.mono (Nat.le_refl _) (by show 3 * 401 ≤ 1300; decide)
theorem all_said {l : List PyData} (h : ∀ d ∈ l, FineE 3 1300 d) (n : l.length ≤ 60) : FineE 60 100000 (.list l) := by
  refine (FineEs.of h).list.mono (by decide) ?_
  have := Nat.mul_le_mul_right 1301 n
  omega
end Gu
namespace Gu
open PySem PySem.Spec PyProof.Rows L2
/-! ### a def that a name holds is called, and may raise -/
structure AskAt (P : Program) (w : World) (K : PySem.W.Frag) (mg : Str → Option Value) (base : Heap) (k : Nat) (sp : Sp) (f : Addr) : Prop where
  ex : ∃ (fd : FuncData) (ps : List Str), FnOk P w K mg base (L2.CX P w) k f fd ps sp ∧ PySem.W.keepIn K (.ref f) = true ∧ Binds K fd ps []
structure AskKw (P : Program) (w : World) (K : PySem.W.Frag) (mg : Str → Option Value) (base : Heap) (k : Nat) (ks : List Str) (gV : List V → List V) (sp : Sp) (f : Addr) : Prop where
  ex : ∃ (fd : FuncData) (ps : List Str) (g : List Value → List Value), FnOk P w K mg base (L2.CX P w) k f fd ps sp ∧ PySem.W.keepIn K (.ref f) = true ∧ KBn K fd ps 0 ks (fun _ ws => g ws) (fun _ zs => gV zs)
theorem fn_up {P : Program} {w : World} {K : PySem.W.Frag} {mg : Str → Option Value} {base : Heap} {CX : CXT} {k j : Nat} {f : Addr} {fd : FuncData} {ps : List Str} {sp : Sp} (F : FnOk P w K mg base CX k f fd ps sp) (h : k ≤ j) : FnOk P w K mg base CX j f fd ps sp :=
  ⟨F.len, fun A outer s H args us vs Q E r => F.run A outer s H args us vs Q E (r.mono h)⟩
theorem fn_imp {P : Program} {w : World} {K : PySem.W.Frag} {mg : Str → Option Value} {base : Heap} {CX : CXT} {k : Nat} {f : Addr} {fd : FuncData} {ps : List Str} {s1 s2 : Sp} (F : FnOk P w K mg base CX k f fd ps s1) (h : ∀ vs H Q E, s2 vs H Q E → s1 vs H Q E) : FnOk P w K mg base CX k f fd ps s2 :=
  ⟨fun vs H Q E z => F.len vs H Q E (h vs H Q E z), fun A outer s H args us vs Q E a b c d z => F.run A outer s H args us vs Q E a b c d (h vs H Q E z)⟩
section
variable {P : Program} {w : World} {K : PySem.W.Frag} {mg : Str → Option Value} {base : Heap} {k j : Nat} {x : Str} {ps : List Str} {sp : Sp}
theorem CalX.ask (c : CalX P w K mg base k x ps sp) (h : k ≤ j) : ∃ f, mg x = some (.ref f) ∧ AskAt P w K mg base j sp f := by
  obtain ⟨f, fd, F, hm, kp, b, _⟩ := c.ex
  exact ⟨f, hm, fd, ps, fn_up F h, kp, b⟩
theorem CalX.or {s1 s2 : Sp} (a : CalX P w K mg base k x ps s1) (b : CalX P w K mg base k x ps s2) : CalX P w K mg base k x ps (fun vs H Q E => s1 vs H Q E ∨ s2 vs H Q E) := by
  obtain ⟨f, fd, F, hm, kp, bd, oc, od, sl, lk⟩ := a.ex
  obtain ⟨f2, fd2, F2, hm2, _, _, oc2, od2, sl2, lk2⟩ := b.ex
  have e1 := hm.symm.trans hm2
  cases e1
  have e2 := lk.symm.trans lk2
  cases e2
  exact ⟨f, fd, ⟨fun vs H Q E h => h.elim (F.len vs H Q E) (F2.len vs H Q E), fun A outer s H args us vs Q E r e b c want => want.elim (fun h => F.run A outer s H args us vs Q E r e b c h) (fun h => F2.run A outer s H args us vs Q E r e b c h)⟩, hm, kp, bd, oc, od, sl, lk⟩
theorem CalX.askK {st : Stmt} {ks : List Str} (g : {α : Type} → List α → List α) (c : CalX P w K mg base k x ps sp) (h : k ≤ j) (D : At K mg x st ps) (hv : ∀ {zs : List V} {ws : List Value}, Vals zs ws → Vals (g zs) (g ws))
    (hb : ∀ (kV doc pm : Value) (an : Option Addr) (cdv ct : Value) (ws : List Value), ws.length = ks.length → bindArgs (PySem.W.fnOf x x (defArgs st) (defBody st) (defScope st) .none kV doc pm an cdv ct) ⟨[], ks.zip ws⟩ = pure (ps.zip (g ws))) : ∃ f, mg x = some (.ref f) ∧ AskKw P w K mg base j ks g sp f := by
  obtain ⟨f, fd, F, hm, kp, b, oc, od, sl, lk⟩ := c.ex
  obtain ⟨f2, fd2, F2, b2, hm2⟩ := D.ex
  cases hm.symm.trans hm2
  obtain ⟨oc2, od2, kV, doc, pm, an, cdv, ct, sl2, e, lk2, hcd⟩ := F2.ex
  cases lk.symm.trans lk2
  refine ⟨f, hm, fd, ps, g, fn_up F h, kp, ⟨fun s us ws I l1 l2 => ?_, fun _ r => hv r⟩⟩
  cases us with
  | nil =>
    rw [e]
    exact BindsTo.of_eq (hb kV doc pm an cdv ct ws l2)
  | cons u r => cases l1
end
section
variable {X : Cx} {k j i : Nat} {x : Str} {sp : Sp} {E : XK} {W : WX} {p pos : Pos} {e : Expr} {es : List Expr} {t tk : TA} {ks : List Str} {gV : List V → List V} {kws : List Keyword}
def tCallD (ok : Addr → Prop) (i : Nat) (sp : Sp) (E : XK) (t : TA) : TE := fun σ H Q => ∃ f, σ[i]? = some (some (.ref f)) ∧ ok f ∧ t σ H fun vs G => sp vs G Q E
theorem pe_callD (ok : Addr → Prop) (A : ∀ f, ok f → AskAt X.prog X.w X.K X.mg X.base k sp f) (hr : Room j X.A) (hk : k ≤ j) (ty : Takes X W) (hW : ∀ cls d σ H, E cls d H → W cls d σ H) (hN : X.N[i]? = some x) (hv : Vis X.env.scope x) (ha : PA X (e :: es) t)
    (hdb : (x == ("__debug__" : Str)) = false := by decide) (hcd : (x == ("__classdict__" : Str)) = false := by decide)
    (he : starEach (e :: es) X.env = (false, eval e X.env) :: starEach es X.env := by rfl) (hpl : (backTo pos (starEach es X.env)).any (·.1) = false := by rfl) : PE X (.Call (.Name x p) (e :: es) [] pos) (tCallD ok i sp E t) := by
  refine ⟨fun pins s σ H Q I h => ?_⟩
  obtain ⟨f, hs, hf, ht⟩ := h
  obtain ⟨fd, ps, F, kp, b⟩ := (A f hf).ex
  refine (pe_callL (i := i) (f := f) (sp := sp) (dvs := []) F (hr.mono hk) hN hv kp b .nil (passes_call ty hW) ha hdb hcd he hpl).run pins s σ H Q I ⟨hs, ?_⟩
  have e0 : (fun (vs : List V) (G : Hp) => sp (vs ++ []) G Q E) = fun vs G => sp vs G Q E := by
    funext vs G
    rw [List.append_nil]
  show t σ H (fun vs G => sp (vs ++ []) G Q E)
  rw [e0]
  exact ht
def tKwD (ok : Addr → Prop) (i m : Nat) (gV : List V → List V) (sp : Sp) (E : XK) (tk : TA) : TE := fun σ H Q => ∃ f, σ[i]? = some (some (.ref f)) ∧ ok f ∧ tk σ H fun zs G => zs.length = m ∧ sp (gV zs) G Q E
theorem pe_kwD (ok : Addr → Prop) (A : ∀ f, ok f → AskKw X.prog X.w X.K X.mg X.base k ks gV sp f) (hr : Room j X.A) (hk : k ≤ j) (ty : Takes X W) (hW : ∀ cls d σ H, E cls d H → W cls d σ H) (hN : X.N[i]? = some x) (hv : Vis X.env.scope x) (hkw : PK X kws tk) (hall : (backToKw pos (keywordEach kws X.env)).all (·.1.isSome) = true := by rfl)
    (hks : (backToKw pos (keywordEach kws X.env)).filterMap (·.1) = ks := by rfl) (hdb : (x == ("__debug__" : Str)) = false := by decide) (hcd : (x == ("__classdict__" : Str)) = false := by decide)
    (hpl : ((backTo pos (starEach [] X.env)).any (·.1) || (backToKw pos (keywordEach kws X.env)).any (·.1.isNone)) = false := by rfl) : PE X (.Call (.Name x p) [] kws pos) (tKwD ok i ks.length gV sp E tk) := by
  refine ⟨fun pins s σ H Q I h => ?_⟩
  obtain ⟨f, hs, hf, ht⟩ := h
  obtain ⟨fd, ps, g, F, kp, b⟩ := (A f hf).ex
  refine wpAny_Call_Name_kw (thn ((pe_var (pos := p) hN hv hdb hcd).run pins s σ H (fun v G => v = .ref f ∧ G = H) I ⟨.ref f, hs, rfl, rfl⟩) fun u s1 ⟨v, G, I1, r1, q1⟩ => ?_)
  obtain ⟨rfl, rfl⟩ := q1
  cases r1
  refine PySem.W.callWith_KW0 (h₀ := X.base) I.ok.mod.kin kp hall ?_ hpl
  refine thn (hkw.run pos pins s1 σ _ _ I1 ht) fun ws s2 ⟨zs, J, I2, rz, l2, q2⟩ => ⟨I2.kIn, ?_⟩
  rw [hks]
  exact run_fnN (us := []) (vs := []) F (hr.mono hk) b (passes_call ty hW) I2 .nil rz rfl l2 q2
end
end Gu
namespace Gu
open PySem PySem.Spec PyProof.Rows L2
/-! ### rows refused -/
/-- what isinstance asks of Shortener, more -/
structure ShX (K : PySem.W.Frag) (C : Addr) : Prop where
  ty : PySem.W.typeIn K (.ref C) = some (.type "type")
  nt : PySem.W.mroIn K C (.type "tuple") = some false
  ns : PySem.W.mroIn K C (.type "str") = some false
  isC : (PySem.W.clsIn K C).isSome = true
def IsaC (K : PySem.W.Frag) (H : Hp) (x : V) (C : Addr) (b : Bool) : Prop := ∃ t, TyX K H x t ∧ PySem.W.kitOne K t (.ref C) = some b
theorem IsaC.same {K : PySem.W.Frag} {H G : Hp} {x : V} {C : Addr} {b : Bool} (s : Same H G) (h : IsaC K H x C b) : IsaC K G x C b := by
  obtain ⟨t, a, c⟩ := h
  exact ⟨t, TyX.same s a, c⟩
/-- no tuple of a to b items -/
def NoTup (K : PySem.W.Frag) (H : Hp) (a b : Nat) (v : V) : Prop := Isa K H v "tuple" false ∨ ∃ (l : Addr) (xs : List V), v = .ref l ∧ SqT K H l xs ∧ ¬ (a ≤ xs.length ∧ xs.length ≤ b)
theorem NoTup.same {K : PySem.W.Frag} {H G : Hp} {a b : Nat} {v : V} (s : Same H G) (h : NoTup K H a b v) : NoTup K G a b v := h.imp (Isa.same s) fun ⟨l, xs, e, q, n⟩ => ⟨l, xs, e, stE s q, n⟩
def RowOk (C : Addr) (H : Hp) (v : V) : Prop := ∃ (a : Addr) (rs : List (Addr × Rec)), v = .ref a ∧ RowAt C H a rs ∧ 1 ≤ rs.length ∧ rs.length ≤ 4
theorem RowOk.same {C : Addr} {H G : Hp} {v : V} (s : Same H G) (h : RowOk C H v) : RowOk C G v := by
  obtain ⟨a, rs, e, r, l⟩ := h
  exact ⟨a, rs, e, r.same s, l⟩
/-- a row that is none: the place of the first wrong part, or None -/
def RowBad (K : PySem.W.Frag) (C : Addr) (H : Hp) (v spot : V) : Prop := (spot = .non ∧ NoTup K H 1 4 v) ∨
  ∃ (l : Addr) (xs : List V) (i : Nat) (x : V), v = .ref l ∧ SqT K H l xs ∧ 1 ≤ xs.length ∧ xs.length ≤ 4 ∧ (∀ j y, j < i → xs[j]? = some y → IsaC K H y C true) ∧ xs[i]? = some x ∧ IsaC K H x C false ∧ spot = .int (i : Int)
theorem RowBad.same {K : PySem.W.Frag} {C : Addr} {H G : Hp} {v spot : V} (s : Same H G) (h : RowBad K C H v spot) : RowBad K C G v spot := h.imp (And.imp id (NoTup.same s)) fun ⟨l, xs, i, x, e, q, l1, l4, b, hx, n, es⟩ => ⟨l, xs, i, x, e, stE s q, l1, l4, fun j y hj hy => (b j y hj hy).same s, hx, n.same s, es⟩
section
variable {P : Program} {w : World} {K : PySem.W.Frag} {mg : Str → Option Value} {base : Heap} {C U CR CL CT : Addr}
theorem isaC_sh (S : ShC K mg C) {H : Hp} {x dx : Addr} {fs : List (Str × V)} (e : H x = some (.ins C dx fs)) : IsaC K H (.ref x) C true := ⟨_, .base (.ins e S.cl S.ha S.hn S.ht S.hm), S.kk⟩
theorem isaC_no (Z : ShX K C) {H : Hp} {x : V} {T : String} (h : TyX K H x (.type T)) (e : PySem.W.subIn K (.type T) (.ref C) = some false) : IsaC K H x C false := ⟨_, h, kit_one (kit_ref Z.isC Z.ty e) fun z => by cases z⟩
/-- a tuple of a to b items, or none -/
def spTup (K : PySem.W.Frag) : Sp := fun vs H Q _ => ∃ (v : V) (a b : Nat), vs = [v, .int (a : Int), .int (b : Int)] ∧ ((∃ (l : Addr) (xs : List V), v = .ref l ∧ SqT K H l xs ∧ a ≤ xs.length ∧ xs.length ≤ b ∧ Q (.bl true) H) ∨ (NoTup K H a b v ∧ Q (.bl false) H))
theorem tup_of (c : Cal P w K mg base 1 "is_tuple" ps_is_tuple (spIsTuple K)) : Cal P w K mg base 1 "is_tuple" ps_is_tuple (spTup K) := c.imp fun vs H Q E ⟨v, a, b, e, h⟩ => by
  refine ⟨v, a, b, e, ?_⟩
  rcases h with ⟨l, xs, rfl, hs, h0, h1, q⟩ | ⟨h | ⟨l, xs, rfl, hs, n⟩, q⟩
  · exact .inl ⟨l, xs, rfl, hs, by rw [decide_eq_true ⟨by omega, by omega⟩]; exact q⟩
  · exact .inr ⟨h, q⟩
  · exact .inl ⟨l, xs, rfl, hs, by rw [decide_eq_false (fun z => n ⟨by omega, by omega⟩)]; exact q⟩
def spRowE (K : PySem.W.Frag) (C CR : Addr) : Sp := fun vs H Q E => ∃ v : V, vs = [v] ∧ ((RowOk C H v ∧ ∀ G, Same H G → Q .non G) ∨ ∃ spot, RowBad K C H v spot ∧ Raised CR "index" spot H E)
theorem cal_rowE (B : Bi mg) (S : ShC K mg C) (D : At K mg "check_row" s_check_row ps_check_row) (T_InvalidRow : ErrK K mg bVE U "InvalidRow" CR) (S_InvalidRow : ErrF K "InvalidRow" "index" CR) (C_is_tuple : Cal P w K mg base 1 "is_tuple" ps_is_tuple (spTup K)) : CalX P w K mg base 2 "check_row" ps_check_row (spRowE K C CR) := by
  refine D.calX sc_check_row (fun vs H Q E h => ?_) (fun f cdv A outer s H vs Q E hr h => ?_)
  · obtain ⟨v, rfl, _⟩ := h
    rfl
  · obtain ⟨v, rfl, way⟩ := h
    refine ⟨_, (pss_cons (ps_if (pt_not (pt_val (pe_own C_is_tuple hr (by decide) (by rfl) (pa_cons (pv 0) (pa_cons pe_int (pa_cons (pe_cst B.MOST_ROW (by rfl)) pa_nil)))))) (pss_one (ps_raiseE T_InvalidRow S_InvalidRow rfl hr (takes_of rfl rfl rfl rfl) (pa_cons pe_non pa_nil) (by rfl))) pss_nil)
      (pss_one (ps_for (passes_of rfl) rfl (pi_enT (by rfl) B.enumerate (pa_cons (pv 0) pa_nil)) (pg_tup rfl (pgs_cons (pg_name (i := 1) sc_check_row.nd rfl (.inl rfl)) (pgs_cons (pg_name (i := 2) sc_check_row.nd rfl (.inl rfl)) pgs_nil)))
      (pss_one (ps_if (pt_not (pt_val (pe_callB call_isi (by rfl) B.isinstance (by decide +kernel) (pa_cons (pv 2) (pa_cons (pe_glob (v := .ref C) (by rfl) S.g rfl) pa_nil))))) (pss_one (ps_raiseE T_InvalidRow S_InvalidRow rfl hr (takes_of rfl rfl rfl rfl) (pa_cons (pv 1) pa_nil) (by rfl))) pss_nil))))), ?_⟩
    rcases way with ⟨⟨a, rs, rfl, row, l1, l4⟩, k⟩ | ⟨spot, ⟨rfl, no⟩ | ⟨l, xs, i, x, rfl, hs, l1, l4, before, hx, bad, rfl⟩, k⟩
    · refine ⟨_, rfl, _, 1, 4, rfl, .inl ⟨a, _, rfl, .inl (.inl row.tp), by rw [List.length_map]; exact l1, by rw [List.length_map]; exact l4, _, rfl, iteF ?_⟩⟩
      refine ⟨_, rfl, a, _, rfl, .inl (.inl row.tp), for_it walk_enT (fun i σ J => ∃ u v, σ = [some (.ref a), u, v] ∧ Same H J) ⟨none, none, rfl, Same.refl H⟩ (fun i σ J _ ⟨_, _, _, sJ⟩ => .inl (.inl (sJ _ _ row.tp))) ?_ ?_⟩
      · rintro i x σ J J1 hi ⟨u, v2, rfl, sJ⟩ ⟨T, z, hz, rfl, nT, rfl⟩
        obtain ⟨q, hq, rfl⟩ : ∃ q ∈ rs, z = .ref q.1 := by
          obtain ⟨q, h1, h2⟩ := List.mem_map.mp (List.mem_of_getElem? hz)
          exact ⟨q, h1, h2.symm⟩
        have sT : Same H (upd J T (.tup [.int (i : Nat), .ref q.1])) := sJ.trans (same_new nT)
        obtain ⟨⟨dx, b, ex, _⟩, _⟩ := (row.same sT).sh q hq
        obtain ⟨t, i1, i2⟩ := isaC_sh S ex
        exact ⟨T, _, rfl, .inl (.inl upd_same), rfl, _, _, rfl, _, _, rfl, rfl, _, rfl, _, _, t, _, true, rfl, .own C, i1, i2, _, rfl, iteF ⟨_, _, rfl, sT⟩⟩
      · rintro σ J ⟨u, v, rfl, sJ⟩
        exact k J sJ
    · exact ⟨_, rfl, v, 1, 4, rfl, .inr ⟨no, _, rfl, iteT ⟨_, rfl, fun d nd => k d _ (same_new nd) upd_same⟩⟩⟩
    · refine ⟨_, rfl, _, 1, 4, rfl, .inl ⟨l, _, rfl, hs, l1, l4, _, rfl, iteF ?_⟩⟩
      refine ⟨_, rfl, l, _, rfl, hs, for_it walk_enT (fun j σ J => ∃ u v, σ = [some (.ref l), u, v] ∧ Same H J ∧ j ≤ i) ⟨none, none, rfl, Same.refl H, Nat.zero_le _⟩ (fun i σ J _ ⟨_, _, _, sJ, _⟩ => stE sJ hs) ?_ ?_⟩
      · rintro j y σ J J1 hj ⟨u, v2, rfl, sJ, ji⟩ ⟨T, z, hz, rfl, nT, rfl⟩
        have sT : Same H (upd J T (.tup [.int (j : Nat), z])) := sJ.trans (same_new nT)
        refine ⟨T, _, rfl, .inl (.inl upd_same), rfl, _, _, rfl, _, _, rfl, rfl, ?_⟩
        rcases Nat.lt_or_ge j i with lt | ge
        · obtain ⟨t, i1, i2⟩ := (before j z lt hz).same sT
          exact ⟨_, rfl, _, _, t, _, true, rfl, .own C, i1, i2, _, rfl, iteF ⟨_, _, rfl, sT, lt⟩⟩
        · have ej : j = i := by omega
          subst ej
          rw [hx] at hz
          cases hz
          obtain ⟨t, i1, i2⟩ := bad.same sT
          exact ⟨_, rfl, _, _, t, _, false, rfl, .own C, i1, i2, _, rfl, iteT ⟨_, rfl, _, rfl, fun d nd => k d _ (sT.trans (same_new nd)) upd_same⟩⟩
      · rintro σ J ⟨u, v, rfl, sJ, ji⟩
        have := (List.getElem?_eq_some_iff.mp hx).1
        omega
end
end Gu
namespace Gu
open PySem PySem.Spec PyProof.Rows L2
/-! ### sets made of a list or a tuple of keys -/
/-- each once, in the order of their first coming -/
def dds {α : Type} [DecidableEq α] (ks : List α) : List α := ks.foldl (fun acc k => if k ∈ acc then acc else acc ++ [k]) []
/-- j is among ks -/
def isIn {α : Type} [DecidableEq α] (ks : List α) (j : α) : Bool := decide (j ∈ ks)
theorem dds_snoc {α : Type} [DecidableEq α] (ks : List α) (k : α) : dds (ks ++ [k]) = if k ∈ dds ks then dds ks else dds ks ++ [k] := by
  unfold dds
  rw [List.foldl_append]
  rfl
theorem mem_dds {α : Type} [DecidableEq α] {j : α} (ks : List α) : j ∈ dds ks ↔ j ∈ ks := by
  have main : ∀ (ks acc : List α), j ∈ ks.foldl (fun acc k => if k ∈ acc then acc else acc ++ [k]) acc ↔ j ∈ acc ∨ j ∈ ks := by
    intro ks
    induction ks with
    | nil =>
      intro acc
      show j ∈ acc ↔ _
      simp
    | cons k ks ih =>
      intro acc
      show j ∈ ks.foldl _ (if k ∈ acc then acc else acc ++ [k]) ↔ _
      rw [ih]
      by_cases h : k ∈ acc
      · rw [if_pos h, List.mem_cons]
        constructor
        · rintro (h1 | h1)
          · exact .inl h1
          · exact .inr (.inr h1)
        · rintro (h1 | h1 | h1)
          · exact .inl h1
          · exact .inl (h1 ▸ h)
          · exact .inr h1
      · rw [if_neg h, List.mem_append, List.mem_singleton, List.mem_cons, or_assoc]
  have := main ks []
  unfold dds
  rw [this]
  simp
theorem dds_nodup {α : Type} [DecidableEq α] (ks : List α) : (dds ks).Nodup := by
  have main : ∀ (ks acc : List α), acc.Nodup → (ks.foldl (fun acc k => if k ∈ acc then acc else acc ++ [k]) acc).Nodup := by
    intro ks
    induction ks with
    | nil => exact fun acc h => h
    | cons k ks ih =>
      intro acc h
      show (ks.foldl _ (if k ∈ acc then acc else acc ++ [k])).Nodup
      apply ih
      by_cases e : k ∈ acc
      · rw [if_pos e]
        exact h
      · rw [if_neg e, List.nodup_append]
        refine ⟨h, by simp, fun a ha b hb => ?_⟩
        rw [List.mem_singleton.mp hb]
        exact fun q => e (q ▸ ha)
  exact main ks [] List.nodup_nil
theorem dds_len {α : Type} [DecidableEq α] (ks : List α) : (dds ks).length ≤ ks.length := by
  have main : ∀ (ks acc : List α), (ks.foldl (fun acc k => if k ∈ acc then acc else acc ++ [k]) acc).length ≤ acc.length + ks.length := by
    intro ks
    induction ks with
    | nil => exact fun acc => Nat.le_refl _
    | cons k ks ih =>
      intro acc
      refine Nat.le_trans (ih _) ?_
      show (if k ∈ acc then acc else acc ++ [k]).length + _ ≤ _
      split
      · simp only [List.length_cons]
        omega
      · simp only [List.length_cons, List.length_append, List.length_nil]
        omega
  have e := main ks []
  rw [List.length_nil, Nat.zero_add] at e
  exact e
section
variable {prog : Program} {w : World} {A : Around} {R : Result → Shared → Prop} {I : Addr} {fp wr : List Addr} {G : Array GenState → Array GenState → Prop} {n : Nat} {Py : Nat → Value → Prop} {St : Nat → Shared → Prop} {α : Type} [DecidableEq α] {knd : KeyKind prog w α}
theorem fill_set (W : WalksS prog w A.in1 I fp wr G n Py St) (T : Addr) (away : T ∉ fp) (ks : List α) (many : n = ks.length) (few : ks.length + 1 < scanBound)
    (drawn : ∀ i v, Py i v → ∃ k, ks[i]? = some k ∧ knd.is k v = true ∧ v.scannable = true) :
    ∀ (left i : Nat) (s : Shared), n - i = left → i ≤ n → St i s → s.heap.SetOf knd T (isIn (ks.take i)) (dds (ks.take i)).length →
      (∀ t, Moved (T :: wr) G s t → t.heap.SetOf knd T (isIn ks) (dds ks).length → R (.ok (.ret .none)) t) →
      codeAny (model prog w) A (.builtin "set.update.loop" ⟨[.ref T, .ref I], []⟩) R s := by
  have awayW : T ∉ wr := fun h => away (W.sub _ h)
  have wider : ∀ b ∈ wr, b ∈ T :: wr := fun b q => List.mem_cons_of_mem _ q
  intro left
  induction left with
  | zero =>
    intro i s el il st so goal
    have ei : i = n := by omega
    subst ei
    refine codeAny_builtin F.entry_set_update_loop ?_
    rw [Around.under_plainId F.plain_set_update_loop _]
    show wpAny _ A.in1 (pyNext (.ref I) >>= _) _ _ s
    refine wpAny_bind (W.done s _ _ st fun t mv => ?_)
    show wpAny _ A.in1 (ret Value.none) _ _ t
    have full : ks.take i = ks := List.take_of_length_le (by omega)
    rw [full] at so
    refine wpAny_pure (goal t (mv.mono wider) ?_)
    obtain ⟨o, es, ep, tb, ho, more⟩ := so
    exact ⟨o, es, ep, tb, mv.heap T _ awayW ho, more⟩
  | succ left ih =>
    intro i s el il st so goal
    have less : i < n := by omega
    refine codeAny_builtin F.entry_set_update_loop ?_
    rw [Around.under_plainId F.plain_set_update_loop _]
    show wpAny _ A.in1 (pyNext (.ref I) >>= _) _ _ s
    refine wpAny_bind (W.item i s _ _ less st fun v t py st1 mv => ?_)
    obtain ⟨k, ek, isk, sc⟩ := drawn i v py
    have so1 : t.heap.SetOf knd T (isIn (ks.take i)) (dds (ks.take i)).length := by
      obtain ⟨o, es, ep, tb, ho, more⟩ := so
      exact ⟨o, es, ep, tb, mv.heap T _ awayW ho, more⟩
    show wpAny _ A.in1 (holding [v] (setAdd T v) >>= _) _ _ t
    refine wpAny_bind (wpAny_holding ?_)
    unfold setAdd
    refine wpAny_holding ?_
    refine wpAny_bind (knd.pyHash isk ?_)
    have room1 : (dds (ks.take i)).length + 1 < scanBound := by
      have a := dds_len (ks.take i)
      rw [List.length_take] at a
      omega
    refine wpAny_setAddHashed_of (knd := knd) (s := { t with toks := t.toks + 1 }) isk sc so1 room1 fun h2 sb so2 => ?_
    have snoc : ks.take (i + 1) = ks.take i ++ [k] := by
      rw [List.take_add_one, ek]
      rfl
    have so3 : h2.SetOf knd T (isIn (ks.take (i + 1))) (dds (ks.take (i + 1))).length := by
      have e1 : (fun j => isIn (ks.take i) j || decide (j = k)) = isIn (ks.take (i + 1)) := by
        funext j
        unfold isIn
        rw [snoc]
        simp [List.mem_append]
      have e2 : (if isIn (ks.take i) k = true then (dds (ks.take i)).length else (dds (ks.take i)).length + 1) = (dds (ks.take (i + 1))).length := by
        rw [snoc, dds_snoc]
        unfold isIn
        by_cases q : k ∈ ks.take i
        · rw [if_pos (decide_eq_true q), if_pos ((mem_dds _).mpr q)]
        · rw [if_neg (fun z => q (of_decide_eq_true z)), if_neg (fun z => q ((mem_dds _).mp z)), List.length_append]
          rfl
      rw [← e1, ← e2]
      exact so2
    refine wpAny_pure ⟨plainId_quiet F.plain_set_update_loop _, ih (i + 1) _ (by omega) less (W.frame _ t _ _ st1 (Nat.le_succ _) fun b q o e => ?_) so3 fun t2 mv2 so4 => ?_⟩
    · rw [sb.2 b (fun z : b = T => away (z ▸ q))]
      exact e
    · refine goal t2 (Moved.trans W.gtrans ((mv.mono wider).then_heap (Nat.le_succ _) fun b o q e => ?_) mv2) so4
      rw [sb.2 b (fun z : b = T => q (by rw [z]; exact List.mem_cons_self))]
      exact e
end
section
variable {prog : Program} {w : World} {A : Around} {E : Value → Shared → Prop} {s : Shared}
/-- the empty set's object, by its way of order -/
abbrev noneIn (b : Bool) : Obj := { cls := .type "set", dict := none, data := .set #[] 0 (.fresh 0 0 b) }
set_option maxHeartbeats 3200000 in
theorem init_goes {T l : Addr} {b : Bool} {Q : PySem.Fin → Shared → Prop} {TY : String} {od : Option Addr} {dt : Data} {sl : Array (Option Value)} (at_T : s.heap.get? T = some (noneIn b)) (at_l : s.heap.get? l = some { cls := .type TY, dict := od, data := dt, slots := sl })
    (notS : isSubtype (.type TY) (.type "set") = pure false) (notF : isSubtype (.type TY) (.type "frozenset") = pure false) (notD : (Value.type TY == Value.type "dict") = false)
    (h : wpAny (model prog w) A (pyIter (.ref l)) (fun a t => wpAny (model prog w) A (do let _ ← runValue (Code.builtin "set.update.loop" { pos := [Value.ref T, a] }); pure ()) (fun _ t2 => wpAny (model prog w) A (ret Value.none) Q E t2) E t) E s) :
    wpAny (model prog w) A (Builtin.«set.__init__» ⟨[.ref T, .ref l], []⟩) Q E s := by
  have isS : Shared.TypeIs s (.ref T) "set" := ⟨_, at_T, rfl⟩
  unfold Builtin.«set.__init__» noKeywords Builtin.Frozenset.updateFrom
  revert h
  generalize pyIter = PI
  intro h
  wp_walk
  exact h
end
section
variable {prog : Program} {w : World} {A : Around} {E : Value → Shared → Prop} {s : Shared} {α : Type} [DecidableEq α] {knd : KeyKind prog w α}
set_option maxHeartbeats 3200000 in
theorem call_setOfL {l : Addr} {items : Array Value} (ks : List α) {Q : Value → Shared → Prop} (calm : A.handled = none) (at_l : s.heap.IsList l items) (size : items.size = ks.length) (few : ks.length + 1 < scanBound)
    (keys : ∀ (i : Nat) (v : Value), items[i]? = some v → ∃ k : α, ks[i]? = some k ∧ knd.is k v = true ∧ v.scannable = true)
    (h : ∀ (g : Heap) (tk : Nat), g.SetOf knd s.heap.objs.size (isIn ks) (dds ks).length → (∀ b o, s.heap.get? b = some o → g.get? b = some o) → Q (.ref s.heap.objs.size) { s with heap := g, toks := tk }) :
    wpAny (model prog w) A (call (.type "set") [.ref l]) Q E s := by
  obtain ⟨c0, tl0, mro0⟩ := F.called_set.mro
  have made0 := F.called_set.made
  have sub0 := F.called_set.sub
  refine wpAny_call (codeAny_of_tree ?_)
  show wpAny _ _ (callAny (.type "set") _) _ _ _
  refine wpAny_pure ⟨Code.quiet_builtin _ (by decide +kernel), codeAny_builtin F.entry_type_call ?_⟩
  rw [Around.under_plain (weight_type_call_type "set" [.ref l] []) rfl]
  have nt0 := F.called_set.notType
  have cc0 := F.called_set.canCreate
  have tc0 := F.typeCall_set_1 (.ref l)
  repeat (any_goals (first | assumption | wp_step))
  refine codeAny_mono (code_set_new_1 (.ref l) (E := E) (Q₁ := fun x t => ∃ b : Bool, x = .ref s.heap.objs.size ∧ t = { s with heap := s.heap.push (noneIn b) }) fun b => ⟨b, rfl, rfl⟩) fun r t hr => ?_
  cases r with
  | error e => exact hr
  | ok fl =>
    cases fl with
    | next => exact (hr : False).elim
    | brk => exact (hr : False).elim
    | cont => exact (hr : False).elim
    | ret x =>
      obtain ⟨b0, rfl, rfl⟩ := hr
      have new0 : (s.heap.push (noneIn b0)).get? s.heap.objs.size = some (noneIn b0) := Heap.get?_push_size _ rfl
      have isS : Shared.TypeIs { s with heap := s.heap.push (noneIn b0) } (.ref s.heap.objs.size) "set" := ⟨_, new0, rfl⟩
      have li0 := F.called_set.init.lookup
      have bi0 := F.called_set.init.bind (.ref s.heap.objs.size)
      repeat (any_goals (first | assumption | wp_step))
      refine codeAny_mono (codeAny_call_builtin (R := wants (fun y t2 => y = .none ∧ ∃ (g : Heap) (tk : Nat), t2 = { s with heap := g, toks := tk } ∧ g.SetOf knd s.heap.objs.size (isIn ks) (dds ks).length ∧ (∀ b o, s.heap.get? b = some o → g.get? b = some o)) E)
        F.called_set.init.plain F.entry_set_init (check_set_init_1 isS ?_)) fun r2 t2 hr2 => ?_
      · obtain ⟨ol, hol, cl0, nl, dl0⟩ := at_l
        obtain ⟨ocls, odict, odata, oslots⟩ := ol
        simp only at cl0 dl0
        subst cl0
        subst dl0
        have hol1 : (s.heap.push (noneIn b0)).get? l = some { cls := .type "list", dict := odict, data := .seq items nl, slots := oslots } := Heap.get?_push_of_some _ hol
        have notS := F.sub_list_set
        have notF := F.sub_list_frozenset
        have notD : (Value.type "list" == Value.type "dict") = false := by decide
        have at1 : (s.heap.push (noneIn b0)).IsList l items := ⟨_, hol1, rfl, nl, rfl⟩
        refine init_goes (b := b0) new0 hol1 notS notF notD ?_
        refine wpAny_pyIter_list at1 ?_
        refine wpAny_bind (wpAny_runValue ?_)
        have lt0 : l < s.heap.objs.size := Heap.lt_size hol
        have calm3 : A.in1.in1.in1.handled = none := by simp [calm]
        have z1 : (s.heap.push (noneIn b0)).objs.size = s.heap.objs.size + 1 := Heap.size_push ..
        have apart : l ≠ (s.heap.push (noneIn b0)).objs.size := by
          rw [z1]
          exact Nat.ne_of_lt (Nat.lt_succ_of_lt lt0)
        have off : s.heap.objs.size ∉ [(s.heap.push (noneIn b0)).objs.size, l] := by
          rw [z1]
          intro q
          rcases List.mem_cons.mp q with q | q
          · exact absurd q (Nat.ne_of_lt (Nat.lt_succ_self _))
          · exact absurd (List.mem_singleton.mp q) (Nat.ne_of_gt lt0)
        refine fill_set ((Walks.list calm3 _ l apart items).toS) s.heap.objs.size off ks size few keys (items.size - 0) 0 _ (by omega) (Nat.zero_le _) ⟨⟨_, Heap.get?_push_size _ rfl, rfl, rfl⟩, (at1.push _)⟩ ?first ?last
        case first =>
          have got : ((s.heap.push (noneIn b0)).push { cls := .type "list_iterator", data := .fields #[.ref l, .int 0 0] }).get? s.heap.objs.size = some (noneIn b0) := Heap.get?_push_of_some _ new0
          refine ⟨_, #[], 0, _, got, ⟨rfl, rfl, rfl⟩, rfl, (fun e he => by simp at he), (fun k => by simp [isIn]), (by decide), (by rfl), rfl⟩
        case last =>
          intro t3 mv so
          obtain ⟨g, gn, dr, tk, os⟩ := t3
          have e1 : gn = s.gens := mv.gens
          have e2 : dr = s.drawn := mv.drawn
          have e3 : os = s.os := mv.os
          subst e1
          subst e2
          subst e3
          show wpAny _ _ _ _ _ _
          refine wpAny_pure ?_
          show wpAny _ _ (ret Value.none) _ _ _
          refine wpAny_pure ⟨rfl, g, tk, rfl, so, fun b o e => ?_⟩
          have below : b < s.heap.objs.size := Heap.lt_size e
          refine mv.heap b o (fun q => ?_) (Heap.get?_push_of_some _ (Heap.get?_push_of_some _ e))
          rcases List.mem_cons.mp q with q | q
          · exact absurd q (Nat.ne_of_lt below)
          · have q2 := List.mem_singleton.mp q
            rw [z1] at q2
            exact absurd q2 (Nat.ne_of_lt (Nat.lt_succ_of_lt below))
      · cases r2 with
        | error e => exact hr2
        | ok fl2 =>
          cases fl2 with
          | next => exact (hr2 : False).elim
          | brk => exact (hr2 : False).elim
          | cont => exact (hr2 : False).elim
          | ret y =>
            obtain ⟨rfl, g, tk, rfl, so, keep⟩ := hr2
            repeat (any_goals (first | assumption | wp_step))
            exact h _ _ so keep
end
section
variable {prog : Program} {w : World} {A : Around} {E : Value → Shared → Prop} {s : Shared} {α : Type} [DecidableEq α] {knd : KeyKind prog w α}
set_option maxHeartbeats 3200000 in
theorem call_setOfT {l : Addr} {items : Array Value} (ks : List α) {Q : Value → Shared → Prop} (calm : A.handled = none) (at_l : s.heap.IsTuple l items) (size : items.size = ks.length) (few : ks.length + 1 < scanBound)
    (keys : ∀ (i : Nat) (v : Value), items[i]? = some v → ∃ k : α, ks[i]? = some k ∧ knd.is k v = true ∧ v.scannable = true)
    (h : ∀ (g : Heap) (tk : Nat), g.SetOf knd s.heap.objs.size (isIn ks) (dds ks).length → (∀ b o, s.heap.get? b = some o → g.get? b = some o) → Q (.ref s.heap.objs.size) { s with heap := g, toks := tk }) :
    wpAny (model prog w) A (call (.type "set") [.ref l]) Q E s := by
  obtain ⟨c0, tl0, mro0⟩ := F.called_set.mro
  have made0 := F.called_set.made
  have sub0 := F.called_set.sub
  refine wpAny_call (codeAny_of_tree ?_)
  show wpAny _ _ (callAny (.type "set") _) _ _ _
  refine wpAny_pure ⟨Code.quiet_builtin _ (by decide +kernel), codeAny_builtin F.entry_type_call ?_⟩
  rw [Around.under_plain (weight_type_call_type "set" [.ref l] []) rfl]
  have nt0 := F.called_set.notType
  have cc0 := F.called_set.canCreate
  have tc0 := F.typeCall_set_1 (.ref l)
  repeat (any_goals (first | assumption | wp_step))
  refine codeAny_mono (code_set_new_1 (.ref l) (E := E) (Q₁ := fun x t => ∃ b : Bool, x = .ref s.heap.objs.size ∧ t = { s with heap := s.heap.push (noneIn b) }) fun b => ⟨b, rfl, rfl⟩) fun r t hr => ?_
  cases r with
  | error e => exact hr
  | ok fl =>
    cases fl with
    | next => exact (hr : False).elim
    | brk => exact (hr : False).elim
    | cont => exact (hr : False).elim
    | ret x =>
      obtain ⟨b0, rfl, rfl⟩ := hr
      have new0 : (s.heap.push (noneIn b0)).get? s.heap.objs.size = some (noneIn b0) := Heap.get?_push_size _ rfl
      have isS : Shared.TypeIs { s with heap := s.heap.push (noneIn b0) } (.ref s.heap.objs.size) "set" := ⟨_, new0, rfl⟩
      have li0 := F.called_set.init.lookup
      have bi0 := F.called_set.init.bind (.ref s.heap.objs.size)
      repeat (any_goals (first | assumption | wp_step))
      refine codeAny_mono (codeAny_call_builtin (R := wants (fun y t2 => y = .none ∧ ∃ (g : Heap) (tk : Nat), t2 = { s with heap := g, toks := tk } ∧ g.SetOf knd s.heap.objs.size (isIn ks) (dds ks).length ∧ (∀ b o, s.heap.get? b = some o → g.get? b = some o)) E)
        F.called_set.init.plain F.entry_set_init (check_set_init_1 isS ?_)) fun r2 t2 hr2 => ?_
      · obtain ⟨ol, hol, cl0, nl, dl0⟩ := at_l
        obtain ⟨ocls, odict, odata, oslots⟩ := ol
        simp only at cl0 dl0
        subst cl0
        subst dl0
        have hol1 : (s.heap.push (noneIn b0)).get? l = some { cls := .type "tuple", dict := odict, data := .seq items nl, slots := oslots } := Heap.get?_push_of_some _ hol
        have notS := F.sub_tuple_set
        have notF := F.sub_tuple_frozenset
        have notD : (Value.type "tuple" == Value.type "dict") = false := by decide
        have at1 : (s.heap.push (noneIn b0)).IsTuple l items := ⟨_, hol1, rfl, nl, rfl⟩
        refine init_goes (b := b0) new0 hol1 notS notF notD ?_
        refine wpAny_pyIter_tuple at1 ?_
        refine wpAny_bind (wpAny_runValue ?_)
        have lt0 : l < s.heap.objs.size := Heap.lt_size hol
        have calm3 : A.in1.in1.in1.handled = none := by simp [calm]
        have z1 : (s.heap.push (noneIn b0)).objs.size = s.heap.objs.size + 1 := Heap.size_push ..
        have apart : l ≠ (s.heap.push (noneIn b0)).objs.size := by
          rw [z1]
          exact Nat.ne_of_lt (Nat.lt_succ_of_lt lt0)
        have off : s.heap.objs.size ∉ [(s.heap.push (noneIn b0)).objs.size, l] := by
          rw [z1]
          intro q
          rcases List.mem_cons.mp q with q | q
          · exact absurd q (Nat.ne_of_lt (Nat.lt_succ_self _))
          · exact absurd (List.mem_singleton.mp q) (Nat.ne_of_gt lt0)
        refine fill_set ((Walks.tuple calm3 _ l apart items).toS) s.heap.objs.size off ks size few keys (items.size - 0) 0 _ (by omega) (Nat.zero_le _) ⟨⟨_, Heap.get?_push_size _ rfl, rfl, rfl⟩, (at1.push _)⟩ ?first ?last
        case first =>
          have got : ((s.heap.push (noneIn b0)).push { cls := .type "tuple_iterator", data := .fields #[.ref l, .int 0 0] }).get? s.heap.objs.size = some (noneIn b0) := Heap.get?_push_of_some _ new0
          refine ⟨_, #[], 0, _, got, ⟨rfl, rfl, rfl⟩, rfl, (fun e he => by simp at he), (fun k => by simp [isIn]), (by decide), (by rfl), rfl⟩
        case last =>
          intro t3 mv so
          obtain ⟨g, gn, dr, tk, os⟩ := t3
          have e1 : gn = s.gens := mv.gens
          have e2 : dr = s.drawn := mv.drawn
          have e3 : os = s.os := mv.os
          subst e1
          subst e2
          subst e3
          show wpAny _ _ _ _ _ _
          refine wpAny_pure ?_
          show wpAny _ _ (ret Value.none) _ _ _
          refine wpAny_pure ⟨rfl, g, tk, rfl, so, fun b o e => ?_⟩
          have below : b < s.heap.objs.size := Heap.lt_size e
          refine mv.heap b o (fun q => ?_) (Heap.get?_push_of_some _ (Heap.get?_push_of_some _ e))
          rcases List.mem_cons.mp q with q | q
          · exact absurd q (Nat.ne_of_lt below)
          · have q2 := List.mem_singleton.mp q
            rw [z1] at q2
            exact absurd q2 (Nat.ne_of_lt (Nat.lt_succ_of_lt below))
      · cases r2 with
        | error e => exact hr2
        | ok fl2 =>
          cases fl2 with
          | next => exact (hr2 : False).elim
          | brk => exact (hr2 : False).elim
          | cont => exact (hr2 : False).elim
          | ret y =>
            obtain ⟨rfl, g, tk, rfl, so, keep⟩ := hr2
            repeat (any_goals (first | assumption | wp_step))
            exact h _ _ so keep
end
theorem key_at : ∀ {ks : List Key} {us : List Value}, Vals (ks.map kV) us → ∀ (i : Nat) (v : Value), us[i]? = some v → ∃ k, ks[i]? = some k ∧ RelV (kV k) v
  | [], _, .nil, i, v, h => by simp at h
  | k :: ks, _, .cons r t, 0, v, h => by
    cases h
    exact ⟨k, rfl, r⟩
  | k :: ks, _, .cons r t, i + 1, v, h => key_at t i v h
/-- len(set(x)): how many different keys -/
def tLenSetK (K : PySem.W.Frag) (ta : TE) : TE := fun σ H Q => ta σ H fun x G => ∃ (l : Addr) (ks : List Key), x = .ref l ∧ (SqL K G l (ks.map kV) ∨ SqT K G l (ks.map kV)) ∧ ks.length ≤ 4000 ∧ Q (.int ((dds ks).length : Nat)) G
theorem pe_lenSetK {X : Cx} {a : Expr} {ta : TE} {p p2 q pos : Pos} (hg : Gl X "len") (hm : X.mg "len" = none) (hg2 : Gl X "set") (hm2 : X.mg "set" = none) (ha : PE X a ta) (calm : X.calm = true := by rfl)
    (na : starEach [a] X.env = (false, eval a X.env) :: starEach [] X.env := by rfl) : PE X (.Call (.Name "len" p) [.Call (.Name "set" p2) [a] [] q] [] pos) (tLenSetK X.K ta) := by
  refine ⟨fun pins s σ H Q I h => Call_ (ld_blt I hg hm boot_len (PyProof.Rows.callWith_builtin1 (PyProof.Rows.args_cons ?_ rfl) rfl rfl))⟩
  refine Call_ (ld_blt I hg2 hm2 boot_set (PyProof.Rows.callWith_type1 (PyProof.Rows.args_cons (thn (ha.run pins s σ H _ I h) fun v s1 ⟨x, G, I1, r1, q1⟩ => PyProof.Rows.args_nil ?_) na) na rfl))
  obtain ⟨l, ks, rfl, hq, few, q1⟩ := q1
  cases r1
  have fin : ∀ (g : Heap) (tk : Nat), g.SetOf (mixKind X.prog X.w) s1.heap.objs.size (isIn ks) (dds ks).length → (∀ b o, s1.heap.get? b = some o → g.get? b = some o) →
      wpAny (model X.prog X.w) X.A (call (.builtin "len") [.ref s1.heap.objs.size]) (fun v s' => ∃ (y : V) (J : Hp), Inv X pins σ J s' ∧ RelV y v ∧ Q y J) X.xe { s1 with heap := g, toks := tk } := by
    intro g tk so keep
    obtain ⟨o, es, ep, t, ho, hex, hd, _, _, _, hf, hn⟩ := so
    have I2 : Inv X pins σ G { s1 with heap := g, toks := tk } := I1.kept keep
    have b1 := dds_len ks
    exact call_len_set ho hex hd hf (by rw [hn]; omega) ⟨.int ((dds ks).length : Nat), G, I2.tok _, ⟨_, by rw [hn]⟩, q1⟩
  rcases hq with hq | hq
  · obtain ⟨its, r, pl, hz⟩ := I1.list hq
    have el : its.toArray.size = ks.length := by rw [List.size_toArray, ← r.length, List.length_map]
    refine call_setOfL (knd := mixKind X.prog X.w) ks (I1.ok.hd calm) pl.isList el (by unfold scanBound; omega) (fun i v hv => ?_) fun g tk so keep => PyProof.Rows.args_nil (fin g tk so keep)
    obtain ⟨k, e1, e2⟩ := key_at r i v (by simpa using hv)
    exact ⟨k, e1, kV_is e2, key_scan e2⟩
  · obtain ⟨its, r, pl, hz⟩ := I1.tuple hq
    have el : its.toArray.size = ks.length := by rw [List.size_toArray, ← r.length, List.length_map]
    refine call_setOfT (knd := mixKind X.prog X.w) ks (I1.ok.hd calm) pl el (by unfold scanBound; omega) (fun i v hv => ?_) fun g tk so keep => PyProof.Rows.args_nil (fin g tk so keep)
    obtain ⟨k, e1, e2⟩ := key_at r i v (by simpa using hv)
    exact ⟨k, e1, kV_is e2, key_scan e2⟩
end Gu
namespace Gu
open PySem PySem.Spec PyProof.Rows L2
/-! ### families of shorteners -/
inductive Kd where
  | e
  | s
  | m
def Kd.word : Kd → Str
  | .e => "end"
  | .s => "start"
  | .m => "middle"
def fam (k : Kd) (z : Str) (w : Int) : Rec := match k with
  | .e => ⟨w, w - z.length, 0, z⟩
  | .s => ⟨w, 0, w - z.length, z⟩
  | .m => ⟨w, (w - z.length) - (w - z.length) / 2, (w - z.length) / 2, z⟩
theorem fam_fit (k : Kd) {z : Str} {w : Int} (hz : isTxt z 3 = true) (h1 : (z.length : Int) ≤ w) (h2 : w ≤ 40) : (fam k z w).fit := by
  cases k
  · exact ⟨⟨show (0 : Int) ≤ w by omega, h2⟩, ⟨show (0 : Int) ≤ w - z.length by omega, show w - z.length ≤ 40 by omega⟩, ⟨show (0 : Int) ≤ 0 by omega, show (0 : Int) ≤ 40 by omega⟩, hz⟩
  · exact ⟨⟨show (0 : Int) ≤ w by omega, h2⟩, ⟨show (0 : Int) ≤ 0 by omega, show (0 : Int) ≤ 40 by omega⟩, ⟨show (0 : Int) ≤ w - z.length by omega, show w - z.length ≤ 40 by omega⟩, hz⟩
  · exact ⟨⟨show (0 : Int) ≤ w by omega, h2⟩, ⟨show (0 : Int) ≤ (w - z.length) - (w - z.length) / 2 by omega, show (w - z.length) - (w - z.length) / 2 ≤ 40 by omega⟩, ⟨show (0 : Int) ≤ (w - z.length) / 2 by omega, show (w - z.length) / 2 ≤ 40 by omega⟩, hz⟩
theorem str_eqL {y z : Str} (h : y.cps.toList = z.cps.toList) : y = z := by
  cases y with
  | mk a =>
    cases z with
    | mk b =>
      congr 1
      exact Array.toList_inj.mp h
/-- what is shown, as a text -/
def shown (rs : List Rec) (z : Str) : Str := ⟨(cuts rs z.cps.toList).toArray⟩
theorem shown_cps (rs : List Rec) (z : Str) : (shown rs z).cps.toList = cuts rs z.cps.toList := rfl
theorem shown_of {rs : List Rec} {y z : Str} (h : y.cps.toList = cuts rs z.cps.toList) : y = shown rs z := str_eqL h
theorem dds_map {α β : Type} [DecidableEq α] [DecidableEq β] {f : α → β} (inj : ∀ a b, f a = f b → a = b) (xs : List α) : dds (xs.map f) = (dds xs).map f := by
  have main : ∀ (xs acc : List α), (xs.map f).foldl (fun acc k => if k ∈ acc then acc else acc ++ [k]) (acc.map f) = (xs.foldl (fun acc k => if k ∈ acc then acc else acc ++ [k]) acc).map f := by
    intro xs
    induction xs with
    | nil => exact fun _ => rfl
    | cons x xs ih =>
      intro acc
      show (xs.map f).foldl _ (if f x ∈ acc.map f then acc.map f else acc.map f ++ [f x]) = (xs.foldl _ (if x ∈ acc then acc else acc ++ [x])).map f
      by_cases e : x ∈ acc
      · rw [if_pos e, if_pos (List.mem_map.mpr ⟨x, e, rfl⟩)]
        exact ih acc
      · rw [if_neg e, if_neg (fun h => by
          obtain ⟨y, h1, h2⟩ := List.mem_map.mp h
          exact e (inj _ _ h2 ▸ h1))]
        have := ih (acc ++ [x])
        rw [List.map_append] at this
        exact this
  exact main xs []
theorem keyS_len (zs : List Str) : (dds (zs.map (Sum.inr : Str → Key))).length = (dds zs).length := by
  rw [dds_map (fun a b h => Sum.inr.inj h), List.length_map]
/-- different texts are shown in different ways -/
def sepB (rs : List Rec) (zs : List Str) : Bool := decide ((dds (zs.map (shown rs))).length = (dds zs).length)
theorem atP_strs' {ts : List Str} {i : Nat} {x : V} (h : (ts.map V.str)[i]? = some x) : ∃ t, ts[i]? = some t ∧ x = .str t := by
  rw [List.getElem?_map] at h
  cases e : ts[i]? with
  | none =>
    rw [e] at h
    cases h
  | some t =>
    rw [e] at h
    cases h
    exact ⟨t, rfl, rfl⟩
theorem sameT {K : PySem.W.Frag} {H G : Hp} {l : Addr} {xs : List V} (a : Same H G) (h : SqT K H l xs) : SqT K G l xs := by
  rcases h with (h | ⟨o, h⟩) | h
  · exact .inl (.inl (a _ _ h))
  · exact .inl (.inr ⟨o, a _ _ h⟩)
  · exact .inr h
theorem offH {H J : Hp} {M : Addr} {o : HO} (s : Same H J) (n : H M = none) : Same H (upd J M o) := fun b x e => by
  rw [upd_ne (ne_of_none e n)]
  exact s b x e
theorem takeN {α : Type} {qs : List α} {i : Nat} {q : α} (h : qs[i]? = some q) : qs.take (i + 1) = qs.take i ++ [q] := by
  rw [List.take_add_one, h]
  rfl
section
variable {P : Program} {w : World} {K : PySem.W.Frag} {mg : Str → Option Value} {base : Heap} {C : Addr}
def spWidthsOf : Sp := fun vs H Q _ => ∃ (z : Str), vs = [.str z] ∧ isTxt z 3 = true ∧ ∀ (T : Addr), H T = none → Q (.ref T) (upd H T (.lst (rgV (z.length : Int) 41)))
theorem cal_widthsOf (B : Bi mg) (D : At K mg "widths_of" s_widths_of ps_widths_of) : Cal P w K mg base 1 "widths_of" ps_widths_of spWidthsOf := by
  refine D.cal sc_widths_of (fun vs H Q E h => ?_) (fun f cdv A outer s H vs Q E hr h => ?_)
  · obtain ⟨z, rfl, _⟩ := h
    rfl
  · obtain ⟨z, rfl, hz, k⟩ := h
    have zl := isTxt_len hz
    refine ⟨_, (pss_one (ps_ret (pe_listRg (by rfl) (by rfl) B.list (prg_2 (by rfl) B.range (pe_callB call_len (by rfl) B.len (by decide +kernel) (pa_cons (pv 0) pa_nil)) (pe_op op_add (pe_cst B.MOST_SIGNS (by rfl)) pe_int))))), ?_⟩
    refine ⟨_, rfl, _, _, rfl, ⟨Nat.le_of_lt (small1000 (by omega)), rfl⟩, _, _, rfl, rfl, _, _, rfl, rfl, RgOk.of_le (by omega) (by omega) (by omega) (by omega), fun T nT => k T nT⟩
def spMemberOf (C : Addr) : Sp := fun vs H Q _ => ∃ (k : Kd) (z : Str) (w : Int), vs = [.str k.word, .str z, .int w] ∧ isTxt z 3 = true ∧ (z.length : Int) ≤ w ∧ w ≤ 40 ∧ ∀ (x : Addr) (G : Hp), H x = none → ShAt C G x (fam k z w) → Same H G → Q (.ref x) G
theorem made_sh {H G : Hp} {x dx : Addr} {o1 o2 : HO} (nx : H x = none) (ndx : H dx = none) (keep : ∀ c o, upd (upd H dx o1) x o2 c = some o → c ≠ x → G c = some o) : Same H G := fun c o e => keep c o (by rw [upd_ne (ne_of_none e nx), upd_ne (ne_of_none e ndx)]; exact e) (ne_of_none e nx)
theorem cal_memberOf (B : Bi mg) (D : At K mg "member_of" s_member_of ps_member_of) (M_sh : Mak P w K mg base 3 "Shortener" C (spInit C)) : Cal P w K mg base 5 "member_of" ps_member_of (spMemberOf C) := by
  refine D.cal sc_member_of (fun vs H Q E h => ?_) (fun f cdv A outer s H vs Q E hr h => ?_)
  · obtain ⟨k, z, w, rfl, _⟩ := h
    rfl
  · obtain ⟨kd, z, w, rfl, hz, w1, w2, k⟩ := h
    have zl := isTxt_len hz
    have fit := fam_fit kd hz w1 w2
    have e1 : V.str "end" ≠ V.str "start" := by decide +kernel
    have e2 : V.str "end" ≠ V.str "middle" := by decide +kernel
    have e3 : V.str "start" ≠ V.str "middle" := by decide +kernel
    refine ⟨_, (pss_cons (ps_set (i := 3) sc_member_of.nd rfl (.inl rfl) (pe_op op_sub (pv 2) (pe_callB call_len (by rfl) B.len (by decide +kernel) (pa_cons (pv 1) pa_nil))))
      (pss_cons (ps_if (pt_cmpR op_eq (pv 0) pe_str (nomark _)) (pss_one (ps_ret (pe_new M_sh hr (by decide) (by rfl) (pa_cons (pv 2) (pa_cons (pv 3) (pa_cons pe_int (pa_cons (pv 1) pa_nil))))))) pss_nil)
      (pss_cons (ps_if (pt_cmpR op_eq (pv 0) pe_str (nomark _)) (pss_one (ps_ret (pe_new M_sh hr (by decide) (by rfl) (pa_cons (pv 2) (pa_cons pe_int (pa_cons (pv 3) (pa_cons (pv 1) pa_nil))))))) pss_nil)
      (pss_one (ps_ret (pe_new M_sh hr (by decide) (by rfl) (pa_cons (pv 2) (pa_cons (pe_op op_sub (pv 3) (pe_op op_fdiv (pv 3) pe_int)) (pa_cons (pe_op op_fdiv (pv 3) pe_int) (pa_cons (pv 1) pa_nil)))))))))), ?_⟩
    refine ⟨_, rfl, _, rfl, _, _, rfl, ⟨Nat.le_of_lt (small1000 (by omega)), rfl⟩, _, _, rfl, rfl, ?_⟩
    cases kd with
    | e =>
      refine ⟨_, rfl, rfl, _, rfl, ?_⟩
      rw [decide_eq_true (show V.str Kd.e.word = V.str "end" from rfl)]
      refine iteT ⟨_, rfl, _, rfl, _, rfl, fun x dx nx ndx nex => ⟨x, dx, fam .e z w, rfl, upd_same, fit, fun b G nb gx gb keep => ?_⟩⟩
      exact ⟨rfl, k x G nx ⟨dx, b, gx, gb⟩ (made_sh nx ndx keep)⟩
    | s =>
      refine ⟨_, rfl, rfl, _, rfl, ?_⟩
      rw [decide_eq_false (show V.str Kd.s.word ≠ V.str "end" from Ne.symm e1)]
      refine iteF ⟨_, rfl, rfl, _, rfl, ?_⟩
      rw [decide_eq_true (show V.str Kd.s.word = V.str "start" from rfl)]
      refine iteT ⟨_, rfl, _, rfl, _, rfl, fun x dx nx ndx nex => ⟨x, dx, fam .s z w, rfl, upd_same, fit, fun b G nb gx gb keep => ?_⟩⟩
      exact ⟨rfl, k x G nx ⟨dx, b, gx, gb⟩ (made_sh nx ndx keep)⟩
    | m =>
      refine ⟨_, rfl, rfl, _, rfl, ?_⟩
      rw [decide_eq_false (show V.str Kd.m.word ≠ V.str "end" from Ne.symm e2)]
      refine iteF ⟨_, rfl, rfl, _, rfl, ?_⟩
      rw [decide_eq_false (show V.str Kd.m.word ≠ V.str "start" from Ne.symm e3)]
      refine iteF ⟨_, rfl, _, rfl, _, rfl, _, _, rfl, rfl, ⟨by decide, by decide⟩, _, _, rfl, rfl, _, rfl, _, _, rfl, rfl, ⟨by decide, by decide⟩, _, rfl, fun x dx nx ndx nex => ⟨x, dx, fam .m z w, rfl, upd_same, fit, fun b G nb gx gb keep => ?_⟩⟩
      exact ⟨rfl, k x G nx ⟨dx, b, gx, gb⟩ (made_sh nx ndx keep)⟩
/-! ### separates -/
def spSep (K : PySem.W.Frag) (C : Addr) : Sp := fun vs H Q _ => ∃ (a T : Addr) (rs : List (Addr × Rec)) (zs : List Str), vs = [.ref a, .ref T] ∧ RowAt C H a rs ∧ SqT K H T (zs.map V.str) ∧ (∀ z ∈ zs, z.cps.toList.length ≤ 600) ∧ zs.length ≤ 100 ∧ ∀ G, Same H G → Q (.bl (sepB (rs.map (·.2)) zs)) G
theorem cal_sep (B : Bi mg) (D : At K mg "separates" s_separates ps_separates) (C_shown_by : Cal P w K mg base 2 "shown_by" ps_shown_by (spShownBy C)) : Cal P w K mg base 3 "separates" ps_separates (spSep K C) := by
  refine D.cal sc_separates (fun vs H Q E h => ?_) (fun f cdv A outer s H vs Q E hr h => ?_)
  · obtain ⟨a, T, rs, zs, rfl, _⟩ := h
    rfl
  · obtain ⟨a, T, rs, zs, rfl, hR, hT, zl, nl, k⟩ := h
    refine ⟨_, (pss_one (ps_ret (pe_cmpR op_eq (pe_lenSetK (by rfl) B.len (by rfl) B.set (pe_lc (own := [("text", 2)]) (by rfl) sc_separates.nd (pi_tup (pv 1)) (blkOk_by (own := [("text", 2)]) (N := ["row", "texts", "text"]) (sc := defScope s_separates) (by decide +kernel)) (fun _ _ _ _ _ => pg_name (i := 2) sc_separates.nd rfl (.inl rfl)) (fun _ _ _ _ _ => pts_nil) (fun _ _ _ _ _ => (pe_own C_shown_by hr (by decide) (by rfl) (pa_cons (pv 0) (pa_cons (pv 2) pa_nil)))))) (pe_lenSetK (by rfl) B.len (by rfl) B.set (pv 1)) (nomark _)))), ?_⟩
    refine ⟨_, rfl, T, rfl, ⟨_, hT⟩, fun M nM => lc_tup (K := K) (a := T) (xs := zs.map V.str) (fun i J => J M = some (.lst (((zs.take i).map (shown (rs.map (·.2)))).map V.str)) ∧ Same H J)
      ⟨upd_same, same_new nM⟩ (fun i J _ ⟨_, sJ⟩ => sameT sJ hT) ?_ ?_⟩
    · rintro i v J hi ⟨eM, sJ⟩
      obtain ⟨z, hz, rfl⟩ := atP_strs' hi
      have mz := List.mem_of_getElem? hz
      refine ⟨rfl, yes (iteT ⟨_, rfl, _, rfl, a, rs, z, rfl, hR.same sJ, zl z mz, fun y ey => ⟨_, eM, small1000 ?_, ?_, offH sJ nM⟩⟩)⟩
      · rw [List.length_map, List.length_map, List.length_take]
        omega
      · rw [upd_same, takeN hz, shown_of ey, List.map_append, List.map_append]
        rfl
    · rintro J ⟨eM, sJ⟩
      rw [List.length_map, List.take_length] at eM
      refine ⟨M, (zs.map (shown (rs.map (·.2)))).map Sum.inr, rfl, .inl (.inl (.inl ?_)), by rw [List.length_map, List.length_map]; omega, ?_⟩
      · rw [eM]
        simp only [List.map_map]
        rfl
      refine ⟨_, rfl, T, zs.map Sum.inr, rfl, .inr ?_, by rw [List.length_map]; omega, rfl, ?_⟩
      · rw [List.map_map]
        exact sameT sJ hT
      · rw [keyS_len, keyS_len]
        have e : decide (V.int ((dds (zs.map (shown (rs.map (·.2))))).length : Nat) = V.int ((dds zs).length : Nat)) = sepB (rs.map (·.2)) zs := by
          unfold sepB
          refine decide_eq_decide.mpr ⟨fun h => ?_, fun h => by rw [h]⟩
          have := V.int.inj h
          omega
        rw [e]
        exact k J sJ
end
end Gu
namespace Gu
open PySem PySem.Spec PyProof.Rows L2
/-! ### checks of kinds and texts -/
/-- a module's tuple of texts -/
structure TupC (K : PySem.W.Frag) (mg : Str → Option Value) (x : Str) (ys : List Str) : Prop where
  ex : ∃ T, mg x = some (.ref T) ∧ ∀ H : Hp, SqT K H T (ys.map V.str)
def kinds : List Str := ["end", "start", "middle"]
theorem Kd.mem (k : Kd) : k.word ∈ kinds := by
  cases k
  · exact List.mem_cons_self ..
  · exact List.mem_cons_of_mem _ (List.mem_cons_self ..)
  · exact List.mem_cons_of_mem _ (List.mem_cons_of_mem _ (List.mem_cons_self ..))
theorem kind_of {y : Str} (h : y ∈ kinds) : ∃ k : Kd, y = k.word := by
  unfold kinds at h
  simp only [List.mem_cons, List.not_mem_nil, or_false] at h
  rcases h with rfl | rfl | rfl
  · exact ⟨.e, rfl⟩
  · exact ⟨.s, rfl⟩
  · exact ⟨.m, rfl⟩
theorem inV_strs (y : Str) (ys : List Str) : inV (.str y) (ys.map V.str) = decide (y ∈ ys) := by
  induction ys with
  | nil => rfl
  | cons x xs ih =>
    show (eqV (.str x) (.str y) || inV (.str y) (xs.map V.str)) = _
    rw [ih]
    by_cases h : x = y
    · subst h
      have e : eqV (.str x) (.str x) = true := decide_eq_true rfl
      rw [e, Bool.true_or, decide_eq_true (List.mem_cons_self ..)]
    · have e : eqV (.str x) (.str y) = false := decide_eq_false fun q => h q
      rw [e, Bool.false_or]
      refine decide_eq_decide.mpr ⟨fun q => List.mem_cons_of_mem _ q, fun q => ?_⟩
      rcases List.mem_cons.mp q with q | q
      · exact absurd q.symm h
      · exact q
theorem flatS (ys : List Str) : (ys.map V.str).all flatV = true := by
  rw [List.all_map, List.all_eq_true]
  exact fun _ _ => rfl
section
variable {P : Program} {w : World} {K : PySem.W.Frag} {mg : Str → Option Value} {base : Heap} {C : Addr}
def spCheckKind : Sp := fun vs H Q _ => ∃ (k : Kd), vs = [.str k.word] ∧ Q .non H
theorem cal_checkKind (B : Bi mg) (Z : TupC K mg "KINDS" kinds) (D : At K mg "check_kind" s_check_kind ps_check_kind) : Cal P w K mg base 1 "check_kind" ps_check_kind spCheckKind := by
  refine D.cal sc_check_kind (fun vs H Q E h => ?_) (fun f cdv A outer s H vs Q E hr h => ?_)
  · obtain ⟨k, rfl, _⟩ := h
    rfl
  · obtain ⟨kd, rfl, k⟩ := h
    obtain ⟨T, gT, hT⟩ := Z.ex
    refine ⟨_, (pss_one (ps_if (PW.pt (pw_or (pt_not (pt_val (pe_callB call_isi (by rfl) B.isinstance (by decide +kernel) (pa_cons (pv 0) (pa_cons (pe_bltn (v := .ty "str") (by rfl) B.str (by decide +kernel) rfl) pa_nil))))) (pw_or1 (pt_cmpR op_notIn_seq (pv 0) (pe_glob (v := .ref T) (by rfl) gT rfl) (by rfl))))) pss_never pss_nil)), ?_⟩
    obtain ⟨t, i1, i2⟩ := Isa.str_str (K := K) (H := H) (z := kd.word)
    refine ⟨_, rfl, _, _, t, _, true, rfl, .ty _, i1, i2, _, rfl, iteF ?_⟩
    refine ⟨_, rfl, T, _, rfl, .inr (hT H), rfl, flatS kinds, _, rfl, ?_⟩
    rw [inV_strs, decide_eq_true kd.mem]
    exact iteF k
def spTexts (K : PySem.W.Frag) : Sp := fun vs H Q _ => ∃ (l : Addr) (ts : List Str) (m : Int), vs = [.ref l, .int m] ∧ SqT K H l (ts.map V.str) ∧ (ts.length : Int) ≤ m ∧ (∀ t ∈ ts, isTxt t 200 = true) ∧ ∀ G, Same H G → Q .non G
theorem cal_texts (B : Bi mg) (D : At K mg "check_texts" s_check_texts ps_check_texts) (C_is_tuple : Cal P w K mg base 1 "is_tuple" ps_is_tuple (spIsTuple K)) (C_is_text : Cal P w K mg base 1 "is_text" ps_is_text (spIsText K)) : Cal P w K mg base 2 "check_texts" ps_check_texts (spTexts K) := by
  refine D.cal sc_check_texts (fun vs H Q E h => ?_) (fun f cdv A outer s H vs Q E hr h => ?_)
  · obtain ⟨l, ts, m, rfl, _⟩ := h
    rfl
  · obtain ⟨l, ts, m, rfl, hl, tm, wt, k⟩ := h
    refine ⟨_, (pss_cons (ps_if (pt_not (pt_val (pe_own C_is_tuple hr (by decide) (by rfl) (pa_cons (pv 0) (pa_cons pe_int (pa_cons (pv 1) pa_nil)))))) pss_never pss_nil)
      (pss_one (ps_for PassesOwn.never rfl (pi_enT (by rfl) B.enumerate (pa_cons (pv 0) pa_nil)) (pg_tup rfl (pgs_cons (pg_name (i := 2) sc_check_texts.nd rfl (.inl rfl)) (pgs_cons (pg_name (i := 3) sc_check_texts.nd rfl (.inl rfl)) pgs_nil)))
      (pss_one (ps_if (pt_not (pt_val (pe_own C_is_text hr (by decide) (by rfl) (pa_cons (pv 3) (pa_cons (pe_cst B.MOST_TEXT (by rfl)) pa_nil))))) pss_never pss_nil))))), ?_⟩
    refine ⟨_, rfl, _, rfl, _, _, _, rfl, .inl ⟨l, _, rfl, hl, _, rfl, ?_⟩⟩
    rw [decide_eq_true (show (0 : Int) ≤ ((ts.map V.str).length : Int) ∧ ((ts.map V.str).length : Int) ≤ m by rw [List.length_map]; omega)]
    refine iteF ⟨_, rfl, l, _, rfl, hl, for_it walk_enT (fun i σ J => ∃ u v, σ = [some (.ref l), some (.int m), u, v] ∧ Same H J) ⟨none, none, rfl, Same.refl H⟩ (fun i σ J _ ⟨_, _, _, sJ⟩ => sameT sJ hl) ?_ ?_⟩
    · rintro i v σ J J1 hi ⟨u, v2, rfl, sJ⟩ ⟨T, x, hx, rfl, nT, rfl⟩
      obtain ⟨t, ht, rfl⟩ := atP_strs' hx
      have mt := List.mem_of_getElem? ht
      have sT : Same H (upd J T (.tup [.int (i : Nat), .str t])) := sJ.trans (same_new nT)
      have tl := isTxt_len (wt t mt)
      refine ⟨T, _, rfl, .inl (.inl upd_same), rfl, _, _, rfl, _, _, rfl, rfl, ?_⟩
      refine ⟨_, rfl, _, _, rfl, .inl ⟨t, rfl, by omega, fun G sG => ⟨_, rfl, ?_⟩⟩⟩
      rw [show isTxt t 200 = true from wt t mt]
      exact iteF ⟨_, _, rfl, sT.trans sG⟩
    · rintro σ J ⟨u, v, rfl, sJ⟩
      exact k J sJ
/-! ### tells_apart, widths, narrowest -/
def spTells (K : PySem.W.Frag) (C : Addr) : Sp := fun vs H Q _ => ∃ (a T : Addr) (rs : List (Addr × Rec)) (zs : List Str), vs = [.ref a, .ref T] ∧ RowAt C H a rs ∧ 1 ≤ rs.length ∧ rs.length ≤ 4 ∧ SqT K H T (zs.map V.str) ∧ (∀ z ∈ zs, isTxt z 200 = true) ∧ zs.length ≤ 20 ∧ ∀ G, Same H G → Q (.bl (sepB (rs.map (·.2)) zs)) G
theorem txt_len {z : Str} (h : isTxt z 200 = true) : z.cps.toList.length ≤ 200 := by
  have a := isTxt_len h
  have e : z.length = z.cps.toList.length := rfl
  omega
theorem cal_tells (B : Bi mg) (D : At K mg "tells_apart" s_tells_apart ps_tells_apart) (C_check_row : Cal P w K mg base 2 "check_row" ps_check_row (spCheckRow C)) (C_check_texts : Cal P w K mg base 2 "check_texts" ps_check_texts (spTexts K)) (C_separates : Cal P w K mg base 3 "separates" ps_separates (spSep K C)) : Cal P w K mg base 4 "tells_apart" ps_tells_apart (spTells K C) := by
  refine D.cal sc_tells_apart (fun vs H Q E h => ?_) (fun f cdv A outer s H vs Q E hr h => ?_)
  · obtain ⟨a, T, rs, zs, rfl, _⟩ := h
    rfl
  · obtain ⟨a, T, rs, zs, rfl, hR, l1, l4, hT, zt, zl, k⟩ := h
    refine ⟨_, (pss_cons (ps_expr (pe_own C_check_row hr (by decide) (by rfl) (pa_cons (pv 0) pa_nil)))
      (pss_cons (ps_expr (pe_own C_check_texts hr (by decide) (by rfl) (pa_cons (pv 1) (pa_cons (pe_cst B.MOST_TEXTS (by rfl)) pa_nil))))
      (pss_one (ps_ret (pe_own C_separates hr (by decide) (by rfl) (pa_cons (pv 0) (pa_cons (pv 1) pa_nil))))))), ?_⟩
    refine ⟨_, rfl, a, rs, rfl, hR, l1, l4, fun G1 s1 => ⟨_, rfl, T, zs, _, rfl, sameT s1 hT, by omega, zt, fun G2 s2 => ?_⟩⟩
    have s12 := s1.trans s2
    exact ⟨_, rfl, _, rfl, a, T, rs, zs, rfl, hR.same s12, sameT s12 hT, fun z hz => Nat.le_trans (txt_len (zt z hz)) (by decide), by omega, fun G s3 => k G (s12.trans s3)⟩
/-- the widths from m on, n of them, that tell apart -/
def widL (k : Kd) (z : Str) (zs : List Str) (n : Nat) : List Int := ((List.range n).map fun i => (z.length : Int) + (i : Nat)).filter fun w => sepB [fam k z w] zs
theorem widL_succ (k : Kd) (z : Str) (zs : List Str) (n : Nat) : widL k z zs (n + 1) = widL k z zs n ++ if sepB [fam k z ((z.length : Int) + (n : Nat))] zs = true then [(z.length : Int) + (n : Nat)] else [] := by
  unfold widL
  rw [List.range_succ, List.map_append, List.filter_append]
  congr 1
  show List.filter _ [_] = _
  rw [List.filter_cons, List.filter_nil]
theorem widL_len (k : Kd) (z : Str) (zs : List Str) (n : Nat) : (widL k z zs n).length ≤ n := by
  unfold widL
  refine Nat.le_trans (List.length_filter_le _ _) ?_
  rw [List.length_map, List.length_range]
  exact Nat.le_refl n
theorem rgV_at {a b : Int} {i : Nat} {x : V} (h : (rgV a b)[i]? = some x) : x = .int (a + (i : Nat)) ∧ (i : Int) < b - a := by
  unfold rgV at h
  rw [List.getElem?_map] at h
  cases e : (List.range (b - a).toNat)[i]? with
  | none =>
    rw [e] at h
    cases h
  | some j =>
    rw [e] at h
    cases h
    obtain ⟨h1, h2⟩ := List.getElem?_eq_some_iff.mp e
    rw [List.getElem_range] at h2
    subst h2
    rw [List.length_range] at h1
    exact ⟨rfl, by omega⟩
def widAll (k : Kd) (z : Str) (zs : List Str) : List Int := widL k z zs ((41 : Int) - z.length).toNat
def spWidths (K : PySem.W.Frag) : Sp := fun vs H Q _ => ∃ (kd : Kd) (z : Str) (T : Addr) (zs : List Str), vs = [.str kd.word, .str z, .ref T] ∧ isTxt z 3 = true ∧ SqT K H T (zs.map V.str) ∧ (∀ z ∈ zs, isTxt z 200 = true) ∧ zs.length ≤ 20 ∧ ∀ (U : Addr) (G : Hp), Same H G → G U = some (.tup ((widAll kd z zs).map V.int)) → Q (.ref U) G
theorem cal_widths (B : Bi mg) (D : At K mg "widths" s_widths ps_widths) (C_check_kind : Cal P w K mg base 1 "check_kind" ps_check_kind spCheckKind) (C_check_mark : Cal P w K mg base 2 "check_mark" ps_check_mark spCheckMark) (C_check_texts : Cal P w K mg base 2 "check_texts" ps_check_texts (spTexts K)) (C_widths_of : Cal P w K mg base 1 "widths_of" ps_widths_of spWidthsOf)
    (C_member_of : Cal P w K mg base 5 "member_of" ps_member_of (spMemberOf C)) (C_separates : Cal P w K mg base 3 "separates" ps_separates (spSep K C)) : Cal P w K mg base 6 "widths" ps_widths (spWidths K) := by
  refine D.cal sc_widths (fun vs H Q E h => ?_) (fun f cdv A outer s H vs Q E hr h => ?_)
  · obtain ⟨kd, z, T, zs, rfl, _⟩ := h
    rfl
  · obtain ⟨kd, z, T, zs, rfl, hz, hT, zt, zl, k⟩ := h
    have ml := isTxt_len hz
    refine ⟨_, (pss_cons (ps_expr (pe_own C_check_kind hr (by decide) (by rfl) (pa_cons (pv 0) pa_nil)))
      (pss_cons (ps_expr (pe_own C_check_mark hr (by decide) (by rfl) (pa_cons (pv 1) pa_nil)))
      (pss_cons (ps_expr (pe_own C_check_texts hr (by decide) (by rfl) (pa_cons (pv 2) (pa_cons (pe_cst B.MOST_TEXTS (by rfl)) pa_nil))))
      (pss_one (ps_ret (pe_callTy call_tuple_of (by rfl) B.tuple (by decide +kernel) (pa_cons (pe_lc (own := [("width", 3)]) (by rfl) sc_widths.nd (pi_list (pe_own C_widths_of hr (by decide) (by rfl) (pa_cons (pv 1) pa_nil))) (blkOk_by (own := [("width", 3)]) (N := ["kind", "mark", "texts", "width"]) (sc := defScope s_widths) (by decide +kernel)) (fun _ _ _ _ _ => pg_name (i := 3) sc_widths.nd rfl (.inl rfl)) (fun _ _ _ _ _ => (pts_one (pt_val (pe_own C_separates hr (by decide) (by rfl) (pa_cons (pe_tup (pa_cons (pe_own C_member_of hr (by decide) (by rfl) (pa_cons (pv 0) (pa_cons (pv 1) (pa_cons (pv 3) pa_nil)))) pa_nil)) (pa_cons (pv 2) pa_nil)))))) (fun _ _ _ _ _ => (pv 3))) pa_nil))))))), ?_⟩
    refine ⟨_, rfl, kd, rfl, _, rfl, z, rfl, hz, fun G1 s1 => ⟨_, rfl, T, zs, _, rfl, sameT s1 hT, by omega, zt, fun G2 s2 => ?_⟩⟩
    have s12 := s1.trans s2
    refine ⟨_, rfl, z, rfl, hz, fun W nW => ?_⟩
    have sW : Same G2 (upd G2 W (.lst (rgV (z.length : Int) 41))) := same_new nW
    have eW : upd G2 W (.lst (rgV (z.length : Int) 41)) W = some (.lst (rgV (z.length : Int) 41)) := upd_same
    generalize upd G2 W (.lst (rgV (z.length : Int) 41)) = G3 at sW eW
    have s3 := s12.trans sW
    refine ⟨W, rfl, ⟨_, .inl (.inl eW)⟩, fun M nM => lc_list (K := K) (a := W) (xs := rgV (z.length : Int) 41) (fun i J => J M = some (.lst ((widL kd z zs i).map V.int)) ∧ Same G3 J)
      ⟨upd_same, same_new nM⟩ (fun i J _ ⟨_, sJ⟩ => .inl (.inl (sJ _ _ eW))) ?_ ?_⟩
    · rintro i x J hi ⟨eM, sJ⟩
      obtain ⟨rfl, i41⟩ := rgV_at hi
      have wl := widL_len kd z zs i
      refine ⟨rfl, _, rfl, _, rfl, _, rfl, kd, z, _, rfl, hz, by omega, by omega, fun x G nx gx sG => ?_⟩
      refine ⟨by show 1 ≤ sizeLine; decide, fun t nt => ?_⟩
      have s4 : Same J (upd G t (.tup [.ref x])) := sG.trans (same_new nt)
      refine ⟨_, rfl, t, T, [(x, fam kd z ((z.length : Int) + (i : Nat)))], zs, rfl, ⟨upd_same, fun q hq => ?_⟩, sameT (s3.trans (sJ.trans s4)) hT, fun y hy => Nat.le_trans (txt_len (zt y hy)) (by decide), by omega, fun G5 s5 => ⟨_, rfl, ?_⟩⟩
      · rw [List.mem_singleton.mp hq]
        exact ⟨gx.same (same_new nt), fam_fit kd hz (by omega) (by omega)⟩
      · show if sepB [fam kd z ((z.length : Int) + (i : Nat))] zs = true then _ else _
        have sJ5 := s4.trans s5
        refine ite2 (fun e => ?_) (fun e => ?_)
        · refine ⟨_, rfl, _, sJ5 _ _ eM, small1000 (by rw [List.length_map]; omega), ?_, offH (sJ.trans sJ5) nM⟩
          rw [upd_same, widL_succ, if_pos e, List.map_append]
          rfl
        · refine ⟨?_, sJ.trans sJ5⟩
          rw [widL_succ, if_neg e, List.append_nil]
          exact sJ5 _ _ eM
    · rintro J ⟨eM, sJ⟩
      rw [rgV_length] at eM
      exact ⟨M, _, rfl, .inl ⟨.inl (.inl eM), fun U nU => k U _ (s3.trans (sJ.trans (same_new nU))) upd_same⟩⟩
def firstW : List Int → V
  | [] => .non
  | i :: _ => .int i
def spNarrow (K : PySem.W.Frag) : Sp := fun vs H Q _ => ∃ (kd : Kd) (z : Str) (T : Addr) (zs : List Str), vs = [.str kd.word, .str z, .ref T] ∧ isTxt z 3 = true ∧ SqT K H T (zs.map V.str) ∧ (∀ z ∈ zs, isTxt z 200 = true) ∧ zs.length ≤ 20 ∧ ∀ (G : Hp), Same H G → Q (firstW (widAll kd z zs)) G
theorem cal_narrow (B : Bi mg) (D : At K mg "narrowest" s_narrowest ps_narrowest) (C_widths : Cal P w K mg base 6 "widths" ps_widths (spWidths K)) : Cal P w K mg base 7 "narrowest" ps_narrowest (spNarrow K) := by
  refine D.cal sc_narrowest (fun vs H Q E h => ?_) (fun f cdv A outer s H vs Q E hr h => ?_)
  · obtain ⟨kd, z, T, zs, rfl, _⟩ := h
    rfl
  · obtain ⟨kd, z, T, zs, rfl, hz, hT, zt, zl, k⟩ := h
    refine ⟨_, (pss_cons (ps_set (i := 3) sc_narrowest.nd rfl (.inl rfl) (pe_own C_widths hr (by decide) (by rfl) (pa_cons (pv 0) (pa_cons (pv 1) (pa_cons (pv 2) pa_nil)))))
      (pss_one (ps_ret (pe_mid (pe_ifExp (pt_truth (pv 3) (fun _ => rfl)) (pe_ix ix_tup (pv 3) pe_int (fun _ _ => rfl)) pe_non))))), ?_⟩
    refine ⟨_, rfl, _, rfl, _, rfl, kd, z, T, zs, rfl, hz, hT, zt, zl, fun U G sG eU => ?_⟩
    refine ⟨_, ⟨_, rfl, !((widAll kd z zs).map V.int).isEmpty, .inr (.inl ⟨_, .inl (.inl eU), rfl⟩), ?_⟩, fun v J h => h⟩
    have kk := k G sG
    cases e : widAll kd z zs with
    | nil =>
      rw [e] at kk
      exact iteF kk
    | cons i r =>
      rw [e] at kk eU
      exact iteT ⟨_, rfl, U, _, _, _, rfl, rfl, .inl (.inl eU), atI_nat (j := 0) rfl, kk⟩
end
end Gu
namespace Gu
open PySem PySem.Spec PyProof.Rows L2
/-! ### member -/
section
variable {P : Program} {w : World} {K : PySem.W.Frag} {mg : Str → Option Value} {base : Heap} {C : Addr}
def spMember (C : Addr) : Sp := fun vs H Q _ => ∃ (k : Kd) (z : Str) (w : Int), vs = [.str k.word, .str z, .int w] ∧ isTxt z 3 = true ∧ (z.length : Int) ≤ w ∧ w ≤ 40 ∧ ∀ (x : Addr) (G : Hp), H x = none → ShAt C G x (fam k z w) → Same H G → Q (.ref x) G
theorem cal_member (B : Bi mg) (D : At K mg "member" s_member ps_member) (C_check_kind : Cal P w K mg base 1 "check_kind" ps_check_kind spCheckKind) (C_check_mark : Cal P w K mg base 2 "check_mark" ps_check_mark spCheckMark) (C_is_integer : Cal P w K mg base 1 "is_integer" ps_is_integer (spIsInteger K)) (C_member_of : Cal P w K mg base 5 "member_of" ps_member_of (spMemberOf C)) : Cal P w K mg base 6 "member" ps_member (spMember C) := by
  refine D.cal sc_member (fun vs H Q E h => ?_) (fun f cdv A outer s H vs Q E hr h => ?_)
  · obtain ⟨kd, z, w, rfl, _⟩ := h
    rfl
  · obtain ⟨kd, z, w, rfl, hz, w1, w2, k⟩ := h
    have ml := isTxt_len hz
    refine ⟨_, (pss_cons (ps_expr (pe_own C_check_kind hr (by decide) (by rfl) (pa_cons (pv 0) pa_nil)))
      (pss_cons (ps_expr (pe_own C_check_mark hr (by decide) (by rfl) (pa_cons (pv 1) pa_nil)))
      (pss_cons (ps_if (pt_not (pt_val (pe_own C_is_integer hr (by decide) (by rfl) (pa_cons (pv 2) (pa_cons (pe_callB call_len (by rfl) B.len (by decide +kernel) (pa_cons (pv 1) pa_nil)) (pa_cons (pe_cst B.MOST_SIGNS (by rfl)) pa_nil)))))) pss_never pss_nil)
      (pss_one (ps_ret (pe_own C_member_of hr (by decide) (by rfl) (pa_cons (pv 0) (pa_cons (pv 1) (pa_cons (pv 2) pa_nil))))))))), ?_⟩
    refine ⟨_, rfl, kd, rfl, _, rfl, z, rfl, hz, fun G1 s1 => ?_⟩
    refine ⟨_, rfl, _, rfl, _, _, rfl, ⟨Nat.le_of_lt (small1000 (by omega)), rfl⟩, _, _, _, rfl, .inl ⟨_, rfl, _, rfl, ?_⟩⟩
    rw [decide_eq_true ⟨w1, w2⟩]
    exact iteF ⟨_, rfl, _, rfl, _, rfl, kd, z, w, rfl, hz, w1, w2, fun x G nx gx sG => k x G (s1.free nx) gx (s1.trans sG)⟩
end
end Gu
namespace Gu
open PySem PySem.Spec PyProof.Rows L2
/-! ### comprehensions with two fors -/
section
variable {J : It} {n : Nat} {G : Hp → Prop} {Y : Nat → Hp → V → Hp → Prop} {g g1 : TG} {tt tt1 : TT} {te : TE} {wi1 : TI} {vs vs1 : List Nat} {σ : L2.St} {D : Addr}
theorem lc2_out {Qd : Hp → Prop} {H0 : Hp} (w : Walk J n G Y) (Pv : Nat → Hp → Prop) (h0 : Pv 0 H0) (hG : ∀ i H, i ≤ n → Pv i H → G H)
    (hs : ∀ i x H H', i < n → Pv i H → Y i H x H' → g x (wipe σ vs) H' fun σ2 H2 => wipe σ2 vs = wipe σ vs ∧ tt σ2 H2 fun b H3 =>
      if b = true then wi1 σ2 H3 fun J1 H4 => ∃ W1 : Nat → Nat → Hp → Prop, (∃ m, W1 0 m H4) ∧ ∀ j k H, W1 j k H →
        (J1.stop j H ∧ Pv (i + 1) H) ∨ (J1.go j H ∧ ∃ N1 : Hp → Prop, (∀ H', N1 H' → ∃ k', k' < k ∧ W1 (j + 1) k' H') ∧ ∀ x H', J1.yld j H x H' → g1 x (wipe σ2 vs1) H' fun σ3 H5 => wipe σ3 vs1 = wipe σ2 vs1 ∧ tt1 σ3 H5 fun b H6 =>
          if b = true then te σ3 H6 fun y H7 => ∃ acc, H7 D = some (.lst acc) ∧ acc.length < sizeLine ∧ N1 (upd H7 D (.lst (acc ++ [y]))) else N1 H6)
      else Pv (i + 1) H3) (hd : ∀ H, Pv n H → Qd H) :
    ∃ W : Nat → Nat → Hp → Prop, (∃ m, W 0 m H0) ∧ ∀ i m H, W i m H →
      (J.stop i H ∧ Qd H) ∨ (J.go i H ∧ ∃ Nx : Hp → Prop, (∀ H', Nx H' → ∃ m', m' < m ∧ W (i + 1) m' H') ∧ ∀ x H', J.yld i H x H' → g x (wipe σ vs) H' fun σ2 H2 => wipe σ2 vs = wipe σ vs ∧ tt σ2 H2 fun b H3 =>
        if b = true then wi1 σ2 H3 fun J1 H4 => ∃ W1 : Nat → Nat → Hp → Prop, (∃ m, W1 0 m H4) ∧ ∀ j k H, W1 j k H →
          (J1.stop j H ∧ Nx H) ∨ (J1.go j H ∧ ∃ N1 : Hp → Prop, (∀ H', N1 H' → ∃ k', k' < k ∧ W1 (j + 1) k' H') ∧ ∀ x H', J1.yld j H x H' → g1 x (wipe σ2 vs1) H' fun σ3 H5 => wipe σ3 vs1 = wipe σ2 vs1 ∧ tt1 σ3 H5 fun b H6 =>
            if b = true then te σ3 H6 fun y H7 => ∃ acc, H7 D = some (.lst acc) ∧ acc.length < sizeLine ∧ N1 (upd H7 D (.lst (acc ++ [y]))) else N1 H6)
        else Nx H3) := by
  refine ⟨fun i m H => m = n - i ∧ i ≤ n ∧ Pv i H, ⟨n, by simp, Nat.zero_le _, h0⟩, ?_⟩
  rintro i m H ⟨rfl, hi, p⟩
  have q := hG i H hi p
  by_cases less : i < n
  · exact .inr ⟨w.goes i H less q, Pv (i + 1), fun H' p' => ⟨n - (i + 1), by omega, rfl, less, p'⟩, fun x H' y => hs i x H H' less p (w.yields i H x H' less q y)⟩
  · have e : i = n := by omega
    subst e
    exact .inl ⟨w.stops H q, hd H p⟩
theorem lc2_in {Nx : Hp → Prop} {H0 : Hp} (w : Walk J n G Y) (Pv : Nat → Hp → Prop) (h0 : Pv 0 H0) (hG : ∀ i H, i ≤ n → Pv i H → G H)
    (hs : ∀ i x H H', i < n → Pv i H → Y i H x H' → g x (wipe σ vs) H' fun σ2 H2 => wipe σ2 vs = wipe σ vs ∧ tt σ2 H2 fun b H3 =>
      if b = true then te σ2 H3 fun y H4 => ∃ acc, H4 D = some (.lst acc) ∧ acc.length < sizeLine ∧ Pv (i + 1) (upd H4 D (.lst (acc ++ [y]))) else Pv (i + 1) H3) (hd : ∀ H, Pv n H → Nx H) :
    ∃ W1 : Nat → Nat → Hp → Prop, (∃ m, W1 0 m H0) ∧ ∀ j k H, W1 j k H →
      (J.stop j H ∧ Nx H) ∨ (J.go j H ∧ ∃ N1 : Hp → Prop, (∀ H', N1 H' → ∃ k', k' < k ∧ W1 (j + 1) k' H') ∧ ∀ x H', J.yld j H x H' → g x (wipe σ vs) H' fun σ3 H5 => wipe σ3 vs = wipe σ vs ∧ tt σ3 H5 fun b H6 =>
        if b = true then te σ3 H6 fun y H7 => ∃ acc, H7 D = some (.lst acc) ∧ acc.length < sizeLine ∧ N1 (upd H7 D (.lst (acc ++ [y]))) else N1 H6) := by
  refine ⟨fun i m H => m = n - i ∧ i ≤ n ∧ Pv i H, ⟨n, by simp, Nat.zero_le _, h0⟩, ?_⟩
  rintro i m H ⟨rfl, hi, p⟩
  have q := hG i H hi p
  by_cases less : i < n
  · exact .inr ⟨w.goes i H less q, Pv (i + 1), fun H' p' => ⟨n - (i + 1), by omega, rfl, less, p'⟩, fun x H' y => hs i x H H' less p (w.yields i H x H' less q y)⟩
  · have e : i = n := by omega
    subst e
    exact .inl ⟨w.stops H q, hd H p⟩
end
end Gu
namespace Gu
open PySem PySem.Spec PyProof.Rows L2
/-! ### what was seen: pairs of texts -/
/-- a pair's place, the text, what was seen of it -/
structure PR where
  ad : Addr
  t : Str
  s : Str
structure SeenPr (H : Hp) (T : Addr) (qs : List PR) : Prop where
  tp : H T = some (.tup (qs.map fun q => V.ref q.ad))
  el : ∀ q ∈ qs, H q.ad = some (.tup [.str q.t, .str q.s]) ∧ isTxt q.t 200 = true ∧ isTxt q.s 200 = true
theorem SeenPr.same {H G : Hp} {T : Addr} {qs : List PR} (s : Same H G) (h : SeenPr H T qs) : SeenPr G T qs := ⟨s _ _ h.tp, fun q hq => ⟨s _ _ (h.el q hq).1, (h.el q hq).2⟩⟩
/-- the row shows all as it was seen -/
def hasB (rs : List Rec) (qs : List PR) : Bool := (qs.map fun q => decide (shown rs q.t = q.s)).all id
def KW := Kd × Int
/-- pairs of kind and width in the heap -/
def Prs (G : Hp) (ps : List (Addr × Kd × Int)) : Prop := ∀ q ∈ ps, G q.1 = some (.tup [.str q.2.1.word, .int q.2.2])
theorem Prs.same {H G : Hp} {ps : List (Addr × Kd × Int)} (s : Same H G) (h : Prs H ps) : Prs G ps := fun q hq => s _ _ (h q hq)
theorem Prs.list {H : Hp} {M : Addr} {acc ys : List V} {ps : List (Addr × Kd × Int)} (h : Prs H ps) (e : H M = some (.lst acc)) : Prs (upd H M (.lst ys)) ps := fun q hq => by
  rw [upd_ne (ne_of (h q hq) e (by intro z; cases z))]
  exact h q hq
theorem Prs.snoc {H : Hp} {ps : List (Addr × Kd × Int)} {a : Addr} {k : Kd} {w : Int} (h : Prs H ps) (e : H a = some (.tup [.str k.word, .int w])) : Prs H (ps ++ [(a, k, w)]) := fun q hq => by
  rcases List.mem_append.mp hq with hq | hq
  · exact h q hq
  · rw [List.mem_singleton.mp hq]
    exact e
def wids (z : Str) (n : Nat) : List Int := (List.range n).map fun i => (z.length : Int) + (i : Nat)
theorem wids_succ (z : Str) (n : Nat) : wids z (n + 1) = wids z n ++ [(z.length : Int) + (n : Nat)] := by
  unfold wids
  rw [List.range_succ, List.map_append]
  rfl
def kds : List Kd := [.e, .s, .m]
theorem kinds_map : kinds = kds.map Kd.word := rfl
def wmax (z : Str) : Nat := ((41 : Int) - z.length).toNat
/-- all pairs of the first i kinds -/
def trd (z : Str) (i : Nat) : List (Kd × Int) := (kds.take i).flatMap fun k => (wids z (wmax z)).map fun w => (k, w)
theorem trd_succ {z : Str} {i : Nat} {k : Kd} (h : kds[i]? = some k) : trd z (i + 1) = trd z i ++ (wids z (wmax z)).map fun w => (k, w) := by
  unfold trd
  rw [List.take_add_one, h, List.flatMap_append]
  show _ ++ ([k].flatMap _) = _
  rw [List.flatMap_cons, List.flatMap_nil, List.append_nil]
theorem trd_len (z : Str) (i : Nat) : (trd z i).length ≤ 3 * wmax z := by
  unfold trd
  have : ∀ ks : List Kd, (ks.flatMap fun k => (wids z (wmax z)).map fun w => (k, w)).length = ks.length * wmax z := by
    intro ks
    induction ks with
    | nil => simp
    | cons k ks ih =>
      rw [List.flatMap_cons, List.length_append, ih, List.length_map, List.length_cons, Nat.succ_mul]
      unfold wids
      rw [List.length_map, List.length_range]
      omega
  rw [this]
  refine Nat.mul_le_mul_right _ ?_
  rw [List.length_take]
  exact Nat.min_le_right _ _
def fitB (z : Str) (qs : List PR) (p : Kd × Int) : Bool := hasB [fam p.1 z p.2] qs
def fitL (z : Str) (qs : List PR) : List (Kd × Int) := (trd z 3).filter (fitB z qs)
theorem trd_ok {z : Str} {p : Kd × Int} (h : p ∈ trd z 3) : (z.length : Int) ≤ p.2 ∧ p.2 ≤ 40 := by
  unfold trd at h
  obtain ⟨k, _, h⟩ := List.mem_flatMap.mp h
  obtain ⟨w, hw, rfl⟩ := List.mem_map.mp h
  unfold wids at hw
  obtain ⟨i, hi, rfl⟩ := List.mem_map.mp hw
  have := List.mem_range.mp hi
  unfold wmax at this
  exact ⟨show (z.length : Int) ≤ z.length + (i : Nat) by omega, show (z.length : Int) + (i : Nat) ≤ 40 by omega⟩
theorem filter_next {α : Type} {f : α → Bool} {xs : List α} {i : Nat} {x : α} (h : xs[i]? = some x) : (xs.take (i + 1)).filter f = (xs.take i).filter f ++ if f x = true then [x] else [] := by
  rw [List.take_add_one, h, List.filter_append]
  congr 1
  show List.filter f [x] = _
  rw [List.filter_cons, List.filter_nil]
section
variable {P : Program} {w : World} {K : PySem.W.Frag} {mg : Str → Option Value} {base : Heap} {C : Addr}
def spIsSeen : Sp := fun vs H Q _ => ∃ (q : PR), vs = [.ref q.ad] ∧ H q.ad = some (.tup [.str q.t, .str q.s]) ∧ isTxt q.t 200 = true ∧ isTxt q.s 200 = true ∧ ∀ G, Same H G → Q (.bl true) G
theorem cal_isSeen (B : Bi mg) (D : At K mg "is_seen" s_is_seen ps_is_seen) (C_is_tuple : Cal P w K mg base 1 "is_tuple" ps_is_tuple (spIsTuple K)) (C_is_text : Cal P w K mg base 1 "is_text" ps_is_text (spIsText K)) : Cal P w K mg base 2 "is_seen" ps_is_seen spIsSeen := by
  refine D.cal sc_is_seen (fun vs H Q E h => ?_) (fun f cdv A outer s H vs Q E hr h => ?_)
  · obtain ⟨q, rfl, _⟩ := h
    rfl
  · obtain ⟨q, rfl, hq, ht, hs, k⟩ := h
    have l1 := isTxt_len ht
    have l2 := isTxt_len hs
    refine ⟨_, (pss_one (ps_ret (pe_and (pe_own C_is_tuple hr (by decide) (by rfl) (pa_cons (pv 0) (pa_cons pe_int (pa_cons pe_int pa_nil)))) (pe_and (pe_own C_is_text hr (by decide) (by rfl) (pa_cons (pe_ix ix_tup (pv 0) pe_int (fun _ _ => rfl)) (pa_cons (pe_cst B.MOST_TEXT (by rfl)) pa_nil))) (pe_one (pe_own C_is_text hr (by decide) (by rfl) (pa_cons (pe_ix ix_tup (pv 0) pe_int (fun _ _ => rfl)) (pa_cons (pe_cst B.MOST_TEXT (by rfl)) pa_nil)))))))), ?_⟩
    refine ⟨_, rfl, _, _, _, rfl, .inl ⟨q.ad, _, rfl, .inl (.inl hq), _, rfl, ?_⟩⟩
    rw [decide_eq_true (show (2 : Int) ≤ (([V.str q.t, V.str q.s] : List V).length : Int) ∧ (([V.str q.t, V.str q.s] : List V).length : Int) ≤ 2 from ⟨by show (2 : Int) ≤ 2; decide, by show (2 : Int) ≤ 2; decide⟩)]
    refine iteT ⟨_, rfl, q.ad, _, _, _, rfl, rfl, .inl (.inl hq), (rfl : atI [V.str q.t, V.str q.s] 0 = some (V.str q.t)), ?_⟩
    refine ⟨_, _, rfl, .inl ⟨q.t, rfl, by omega, fun G sG => ⟨_, rfl, ?_⟩⟩⟩
    rw [ht]
    refine iteT ⟨_, rfl, q.ad, _, _, _, rfl, rfl, .inl (.inl (sG _ _ hq)), (rfl : atI [V.str q.t, V.str q.s] 1 = some (V.str q.s)), ?_⟩
    refine ⟨_, _, rfl, .inl ⟨q.s, rfl, by omega, fun G2 s2 => ?_⟩⟩
    rw [hs]
    exact k G2 (sG.trans s2)
def spCheckSeen : Sp := fun vs H Q _ => ∃ (T : Addr) (qs : List PR), vs = [.ref T] ∧ SeenPr H T qs ∧ qs.length ≤ 20 ∧ ∀ G, Same H G → Q .non G
theorem cal_checkSeen (B : Bi mg) (D : At K mg "check_seen" s_check_seen ps_check_seen) (C_is_tuple : Cal P w K mg base 1 "is_tuple" ps_is_tuple (spIsTuple K)) (C_is_seen : Cal P w K mg base 2 "is_seen" ps_is_seen spIsSeen) : Cal P w K mg base 3 "check_seen" ps_check_seen spCheckSeen := by
  refine D.cal sc_check_seen (fun vs H Q E h => ?_) (fun f cdv A outer s H vs Q E hr h => ?_)
  · obtain ⟨T, qs, rfl, _⟩ := h
    rfl
  · obtain ⟨T, qs, rfl, hT, ql, k⟩ := h
    refine ⟨_, (pss_cons (ps_if (pt_not (pt_val (pe_own C_is_tuple hr (by decide) (by rfl) (pa_cons (pv 0) (pa_cons pe_int (pa_cons (pe_cst B.MOST_TEXTS (by rfl)) pa_nil)))))) pss_never pss_nil)
      (pss_one (ps_for PassesOwn.never rfl (pi_enT (by rfl) B.enumerate (pa_cons (pv 0) pa_nil)) (pg_tup rfl (pgs_cons (pg_name (i := 1) sc_check_seen.nd rfl (.inl rfl)) (pgs_cons (pg_name (i := 2) sc_check_seen.nd rfl (.inl rfl)) pgs_nil)))
      (pss_one (ps_if (pt_not (pt_val (pe_own C_is_seen hr (by decide) (by rfl) (pa_cons (pv 2) pa_nil)))) pss_never pss_nil))))), ?_⟩
    refine ⟨_, rfl, _, _, _, rfl, .inl ⟨T, _, rfl, .inl (.inl hT.tp), _, rfl, ?_⟩⟩
    rw [decide_eq_true (show (0 : Int) ≤ ((qs.map fun q => V.ref q.ad).length : Int) ∧ ((qs.map fun q => V.ref q.ad).length : Int) ≤ 20 by rw [List.length_map]; omega)]
    refine iteF ⟨_, rfl, T, _, rfl, .inl (.inl hT.tp), for_it walk_enT (fun i σ J => ∃ u v, σ = [some (.ref T), u, v] ∧ Same H J) ⟨none, none, rfl, Same.refl H⟩ (fun i σ J _ ⟨_, _, _, sJ⟩ => .inl (.inl (sJ _ _ hT.tp))) ?_ ?_⟩
    · rintro i x σ J J1 hi ⟨u, v2, rfl, sJ⟩ ⟨N, z, hz, rfl, nN, rfl⟩
      obtain ⟨q, hq, rfl⟩ : ∃ q ∈ qs, z = .ref q.ad := by
        obtain ⟨q, h1, h2⟩ := List.mem_map.mp (List.mem_of_getElem? hz)
        exact ⟨q, h1, h2.symm⟩
      have sN : Same H (upd J N (.tup [.int (i : Nat), .ref q.ad])) := sJ.trans (same_new nN)
      obtain ⟨h1, h2, h3⟩ := hT.el q hq
      refine ⟨N, _, rfl, .inl (.inl upd_same), rfl, _, _, rfl, _, _, rfl, rfl, ?_⟩
      exact ⟨_, rfl, q, rfl, sN _ _ h1, h2, h3, fun G sG => ⟨_, rfl, iteF ⟨_, _, rfl, sN.trans sG⟩⟩⟩
    · rintro σ J ⟨u, v, rfl, sJ⟩
      exact k J sJ
def spHas (C : Addr) : Sp := fun vs H Q _ => ∃ (a T : Addr) (rs : List (Addr × Rec)) (qs : List PR), vs = [.ref a, .ref T] ∧ RowAt C H a rs ∧ SeenPr H T qs ∧ qs.length ≤ 100 ∧ ∀ G, Same H G → Q (.bl (hasB (rs.map (·.2)) qs)) G
theorem cal_has (B : Bi mg) (D : At K mg "has_shown" s_has_shown ps_has_shown) (C_shown_by : Cal P w K mg base 2 "shown_by" ps_shown_by (spShownBy C)) : Cal P w K mg base 3 "has_shown" ps_has_shown (spHas C) := by
  refine D.cal sc_has_shown (fun vs H Q E h => ?_) (fun f cdv A outer s H vs Q E hr h => ?_)
  · obtain ⟨a, T, rs, qs, rfl, _⟩ := h
    rfl
  · obtain ⟨a, T, rs, qs, rfl, hR, hT, ql, k⟩ := h
    refine ⟨_, (pss_one (ps_ret (pe_callB (cr_all rfl) (by rfl) B.all (by decide +kernel) (pa_cons (pe_lc (g := gTup K 2 (gCons (gName 2) (gCons (gName 3) gNil))) (own := [("text", 2), ("shown", 3)]) (by rfl) sc_has_shown.nd (pi_tup (pv 1)) (blkOk_by (own := [("text", 2), ("shown", 3)]) (N := ["row", "seen", "text", "shown"]) (sc := defScope s_has_shown) (by decide +kernel)) (fun _ _ _ _ _ => (pg_tup rfl (pgs_cons (pg_name (i := 2) sc_has_shown.nd rfl (.inl rfl)) (pgs_cons (pg_name (i := 3) sc_has_shown.nd rfl (.inl rfl)) pgs_nil)))) (fun _ _ _ _ _ => pts_nil) (fun _ _ _ _ _ => (pe_cmpR op_eq (pe_own C_shown_by hr (by decide) (by rfl) (pa_cons (pv 0) (pa_cons (pv 2) pa_nil))) (pv 3) (nomark _)))) pa_nil)))), ?_⟩
    obtain ⟨rr, hrr⟩ : ∃ rr : List Rec, rr = rs.map (·.2) := ⟨_, rfl⟩
    rw [← hrr] at k
    refine ⟨_, rfl, T, rfl, ⟨_, .inl (.inl hT.tp)⟩, fun M nM => lc_tup (K := K) (a := T) (xs := qs.map fun q => V.ref q.ad) (fun i J => J M = some (.lst (((qs.take i).map fun q => decide (shown rr q.t = q.s)).map V.bl)) ∧ Same H J)
      ⟨upd_same, same_new nM⟩ (fun i J _ ⟨_, sJ⟩ => .inl (.inl (sJ _ _ hT.tp))) ?_ ?_⟩
    · rintro i v J hi ⟨eM, sJ⟩
      rw [List.getElem?_map] at hi
      cases hq : qs[i]? with
      | none =>
        rw [hq] at hi
        cases hi
      | some q =>
        rw [hq] at hi
        cases hi
        obtain ⟨h1, h2, h3⟩ := hT.el q (List.mem_of_getElem? hq)
        refine ⟨q.ad, _, rfl, .inl (.inl (sJ _ _ h1)), rfl, _, _, rfl, _, _, rfl, rfl, rfl, yes (iteT ⟨_, rfl, _, rfl, a, rs, q.t, rfl, hR.same sJ, Nat.le_trans (txt_len h2) (by decide), fun y ey => ⟨_, rfl, rfl, _, eM, small1000 ?_, ?_, offH sJ nM⟩⟩)⟩
        · rw [List.length_map, List.length_map, List.length_take]
          omega
        · rw [← hrr] at ey
          rw [upd_same, takeN hq, shown_of ey, List.map_append, List.map_append]
          have e : decide (V.str (shown rr q.t) = V.str q.s) = decide (shown rr q.t = q.s) := decide_eq_decide.mpr ⟨fun h => V.str.inj h, fun h => by rw [h]⟩
          rw [e]
          rfl
    · rintro J ⟨eM, sJ⟩
      rw [List.length_map, List.take_length] at eM
      exact ⟨M, _, rfl, .inl (.inl eM), k J sJ⟩
/-! ### fitting -/
def spFitting : Sp := fun vs H Q _ => ∃ (z : Str) (T : Addr) (qs : List PR), vs = [.str z, .ref T] ∧ isTxt z 3 = true ∧ SeenPr H T qs ∧ qs.length ≤ 20 ∧ ∀ (U : Addr) (G : Hp) (ps : List (Addr × Kd × Int)), Same H G → G U = some (.tup (ps.map fun q => V.ref q.1)) → Prs G ps → ps.map (·.2) = fitL z qs → Q (.ref U) G
theorem cal_fitting (B : Bi mg) (Z : TupC K mg "KINDS" kinds) (D : At K mg "fitting" s_fitting ps_fitting) (C_check_mark : Cal P w K mg base 2 "check_mark" ps_check_mark spCheckMark) (C_check_seen : Cal P w K mg base 3 "check_seen" ps_check_seen spCheckSeen) (C_widths_of : Cal P w K mg base 1 "widths_of" ps_widths_of spWidthsOf)
    (C_member_of : Cal P w K mg base 5 "member_of" ps_member_of (spMemberOf C)) (C_has_shown : Cal P w K mg base 3 "has_shown" ps_has_shown (spHas C)) : Cal P w K mg base 6 "fitting" ps_fitting spFitting := by
  refine D.cal sc_fitting (fun vs H Q E h => ?_) (fun f cdv A outer s H vs Q E hr h => ?_)
  · obtain ⟨z, T, qs, rfl, _⟩ := h
    rfl
  · obtain ⟨z, T, qs, rfl, hz, hT, ql, k⟩ := h
    obtain ⟨TK, gT, hTK⟩ := Z.ex
    have ml := isTxt_len hz
    have wm : wmax z ≤ 41 := by unfold wmax; omega
    refine ⟨_, (pss_cons (ps_expr (pe_own C_check_mark hr (by decide) (by rfl) (pa_cons (pv 0) pa_nil)))
      (pss_cons (ps_expr (pe_own C_check_seen hr (by decide) (by rfl) (pa_cons (pv 1) pa_nil)))
      (pss_cons (ps_setLc2 (wi1 := iList K (tCall spWidthsOf [] E0 (tCons (tVar 0) tNil))) (i := 2) (own := [("kind", 3), ("width", 4)]) (vs1 := [4]) (by rfl) sc_fitting.nd rfl rfl (sw_true rfl rfl rfl (by decide +kernel)) (pi_tup (pe_glob (v := .ref TK) (by rfl) gT rfl)) (blkOk_by (own := [("kind", 3), ("width", 4)]) (N := ["mark", "seen", "tried", "kind", "width"]) (sc := defScope s_fitting) (by decide +kernel)) (by decide) (fun _ _ _ _ _ => pg_name (i := 3) sc_fitting.nd rfl (.inl rfl)) (fun _ _ _ _ _ => pts_nil) (fun _ _ _ _ _ => (pi_list (pe_own C_widths_of hr (by decide) (by rfl) (pa_cons (pv 0) pa_nil)))) (fun _ _ _ _ _ => pg_name (i := 4) sc_fitting.nd rfl (.inl rfl)) (fun _ _ _ _ _ => pts_nil) (fun _ _ _ _ _ => (pe_tup (pa_cons (pv 3) (pa_cons (pv 4) pa_nil)))))
      (pss_one (ps_ret (pe_callTy call_tuple_of (by rfl) B.tuple (by decide +kernel) (pa_cons (pe_lc (g := gTup K 2 (gCons (gName 3) (gCons (gName 4) gNil))) (own := [("kind", 3), ("width", 4)]) (by rfl) sc_fitting.nd (pi_list (pv 2)) (blkOk_by (own := [("kind", 3), ("width", 4)]) (N := ["mark", "seen", "tried", "kind", "width"]) (sc := defScope s_fitting) (by decide +kernel)) (fun _ _ _ _ _ => (pg_tup rfl (pgs_cons (pg_name (i := 3) sc_fitting.nd rfl (.inl rfl)) (pgs_cons (pg_name (i := 4) sc_fitting.nd rfl (.inl rfl)) pgs_nil)))) (fun _ _ _ _ _ => (pts_one (pt_val (pe_own C_has_shown hr (by decide) (by rfl) (pa_cons (pe_tup (pa_cons (pe_own C_member_of hr (by decide) (by rfl) (pa_cons (pv 3) (pa_cons (pv 0) (pa_cons (pv 4) pa_nil)))) pa_nil)) (pa_cons (pv 1) pa_nil)))))) (fun _ _ _ _ _ => (pe_tup (pa_cons (pv 3) (pa_cons (pv 4) pa_nil))))) pa_nil))))))), ?_⟩
    refine ⟨_, rfl, z, rfl, hz, fun G1 s1 => ⟨_, rfl, T, qs, rfl, hT.same s1, ql, fun G2 s2 => ?_⟩⟩
    have s12 := s1.trans s2
    refine ⟨TK, rfl, ⟨_, hTK G2⟩, fun M nM => lc2_out (walk_tup (K := K) (a := TK) (xs := kinds.map V.str)) (fun i J => ∃ ps : List (Addr × Kd × Int), J M = some (.lst (ps.map fun q => V.ref q.1)) ∧ Prs J ps ∧ ps.map (·.2) = trd z i ∧ Same G2 J)
      ⟨[], upd_same, (fun q hq => by cases hq), rfl, same_new nM⟩ (fun i J _ _ => hTK J) ?_ ?_⟩
    · rintro i v _ J hi ⟨ps, eM, hP, ep, sJ⟩ ⟨rfl, hv⟩
      rw [kinds_map, List.map_map, List.getElem?_map] at hv
      cases hk : kds[i]? with
      | none =>
        rw [hk] at hv
        cases hv
      | some kd =>
        rw [hk] at hv
        have hv : some (V.str kd.word) = some v := hv
        cases hv
        refine ⟨rfl, yes (iteT ⟨_, rfl, z, rfl, hz, fun W nW => ?_⟩)⟩
        have sW : Same J (upd J W (.lst (rgV (z.length : Int) 41))) := same_new nW
        have eW : upd J W (.lst (rgV (z.length : Int) 41)) W = some (.lst (rgV (z.length : Int) 41)) := upd_same
        have nWM : W ≠ M := Ne.symm (ne_of_none eM nW)
        generalize upd J W (.lst (rgV (z.length : Int) 41)) = J1 at sW eW
        refine ⟨W, rfl, ⟨_, .inl (.inl eW)⟩, lc2_in (walk_list (K := K) (a := W) (xs := rgV (z.length : Int) 41)) (fun j J => ∃ ps : List (Addr × Kd × Int), J M = some (.lst (ps.map fun q => V.ref q.1)) ∧ Prs J ps ∧ ps.map (·.2) = trd z i ++ (wids z j).map (fun w => (kd, w)) ∧ Same G2 J ∧ J W = some (.lst (rgV (z.length : Int) 41)))
          ⟨ps, sW _ _ eM, hP.same sW, by rw [ep]; exact (List.append_nil _).symm, sJ.trans sW, eW⟩ (fun j J _ ⟨_, _, _, _, _, eW⟩ => .inl (.inl eW)) ?_ ?_⟩
        · rintro j x _ J2 hj ⟨ps, eM, hP, ep, sJ2, eW⟩ ⟨rfl, hx⟩
          obtain ⟨rfl, j41⟩ := rgV_at hx
          have pl : ps.length ≤ 3 * 41 + 41 := by
            have a := congrArg List.length ep
            rw [List.length_map, List.length_append, List.length_map] at a
            have b := trd_len z i
            have c : (wids z j).length = j := by
              unfold wids
              rw [List.length_map, List.length_range]
            omega
          refine ⟨rfl, yes (iteT ⟨_, rfl, _, rfl, by show 2 ≤ sizeLine; decide, fun t nt => ?_⟩)⟩
          have st : Same J2 (upd J2 t (.tup [.str kd.word, .int ((z.length : Int) + (j : Nat))])) := same_new nt
          have et : upd J2 t (.tup [.str kd.word, .int ((z.length : Int) + (j : Nat))]) t = some (.tup [.str kd.word, .int ((z.length : Int) + (j : Nat))]) := upd_same
          have nMt : G2 M = none := nM
          generalize upd J2 t (.tup [.str kd.word, .int ((z.length : Int) + (j : Nat))]) = J3 at st et
          refine ⟨_, st _ _ eM, small1000 (by rw [List.length_map]; omega), ps ++ [(t, kd, (z.length : Int) + (j : Nat))], ?_, ((hP.same st).snoc et).list (st _ _ eM), ?_, offH (sJ2.trans st) nMt, ?_⟩
          · rw [upd_same, List.map_append]
            rfl
          · rw [List.map_append, ep, wids_succ, List.map_append, List.append_assoc]
            rfl
          · rw [upd_ne nWM]
            exact st _ _ eW
        · rintro J2 ⟨ps, eM, hP, ep, sJ2, eW⟩
          refine ⟨ps, eM, hP, ?_, sJ2⟩
          rw [ep, trd_succ hk, rgV_length]
          rfl
    · rintro J ⟨ps, eM, hP, ep, sJ⟩
      have ep : ps.map (·.2) = trd z 3 := ep
      have s2J := s12.trans sJ
      have pl : ps.length ≤ 123 := by
        have a := congrArg List.length ep
        rw [List.length_map] at a
        have b := trd_len z 3
        omega
      refine ⟨_, rfl, M, rfl, ⟨_, .inl (.inl eM)⟩, fun N nN => lc_list (K := K) (a := M) (xs := ps.map fun q => V.ref q.1) (fun i J1 => ∃ os : List (Addr × Kd × Int), J1 N = some (.lst (os.map fun q => V.ref q.1)) ∧ Prs J1 os ∧ os.map (·.2) = ((trd z 3).take i).filter (fitB z qs) ∧ Same J J1)
        ⟨[], upd_same, (fun q hq => by cases hq), rfl, same_new nN⟩ (fun i J1 _ ⟨_, _, _, _, s⟩ => .inl (.inl (s _ _ eM))) ?_ ?_⟩
      · rintro i v J1 hi ⟨os, eN, hO, eo, sJ1⟩
        rw [List.getElem?_map] at hi
        cases hq : ps[i]? with
        | none =>
          rw [hq] at hi
          cases hi
        | some q =>
          rw [hq] at hi
          cases hi
          have mq := List.mem_of_getElem? hq
          have tq : (trd z 3)[i]? = some q.2 := by rw [← ep, List.getElem?_map, hq]; rfl
          have okq := trd_ok (List.mem_of_getElem? tq)
          have ol : os.length ≤ i := by
            have a := congrArg List.length eo
            rw [List.length_map] at a
            have b := List.length_filter_le (fitB z qs) ((trd z 3).take i)
            rw [List.length_take] at b
            omega
          have il : i < ps.length := (List.getElem?_eq_some_iff.mp hq).1
          refine ⟨q.1, _, rfl, .inl (.inl (sJ1 _ _ (hP q mq))), rfl, _, _, rfl, _, _, rfl, rfl, rfl, ?_⟩
          refine ⟨_, rfl, _, rfl, _, rfl, q.2.1, z, q.2.2, rfl, hz, okq.1, okq.2, fun x G nx gx sG => ?_⟩
          refine ⟨by show 1 ≤ sizeLine; decide, fun t nt => ?_⟩
          have s4 : Same J1 (upd G t (.tup [.ref x])) := sG.trans (same_new nt)
          refine ⟨_, rfl, t, T, [(x, fam q.2.1 z q.2.2)], qs, rfl, ⟨upd_same, fun r hr => ?_⟩, hT.same (s2J.trans (sJ1.trans s4)), by omega, fun G5 s5 => ⟨_, rfl, ?_⟩⟩
          · rw [List.mem_singleton.mp hr]
            exact ⟨gx.same (same_new nt), fam_fit q.2.1 hz okq.1 okq.2⟩
          · show if fitB z qs q.2 = true then _ else _
            have s45 := s4.trans s5
            refine ite2 (fun e => ?_) (fun e => ?_)
            · refine ⟨_, rfl, _, rfl, by show 2 ≤ sizeLine; decide, fun y ny => ?_⟩
              have sy : Same G5 (upd G5 y (.tup [.str q.2.1.word, .int q.2.2])) := same_new ny
              have ey : upd G5 y (.tup [.str q.2.1.word, .int q.2.2]) y = some (.tup [.str q.2.1.word, .int q.2.2]) := upd_same
              generalize upd G5 y (.tup [.str q.2.1.word, .int q.2.2]) = G6 at sy ey
              have s46 := s45.trans sy
              refine ⟨_, s46 _ _ eN, small1000 (by rw [List.length_map]; omega), os ++ [(y, q.2)], ?_, ((hO.same s46).snoc ey).list (s46 _ _ eN), ?_, offH (sJ1.trans s46) nN⟩
              · rw [upd_same, List.map_append]
                rfl
              · rw [List.map_append, eo, filter_next tq, if_pos e]
                rfl
            · refine ⟨os, s45 _ _ eN, hO.same s45, ?_, sJ1.trans s45⟩
              rw [filter_next tq, if_neg e, List.append_nil]
              exact eo
      · rintro J1 ⟨os, eN, hO, eo, sJ1⟩
        refine ⟨N, _, rfl, .inl ⟨.inl (.inl eN), fun U nU => k U _ os (s2J.trans (sJ1.trans (same_new nU))) upd_same (hO.same (same_new nU)) ?_⟩⟩
        have tl : (trd z 3).length = ps.length := by rw [← ep, List.length_map]
        rw [eo, List.length_map, List.take_of_length_le (by omega)]
        rfl
end
end Gu
namespace Gu
open PySem PySem.Spec PyProof.Rows L2
/-! ### places of equal texts -/
def idxs (ss : List Str) (s : Str) : List Nat := (List.range ss.length).filter fun j => decide (ss[j]? = some s)
theorem idxs_snoc (ss : List Str) (y s : Str) : idxs (ss ++ [y]) s = idxs ss s ++ if s = y then [ss.length] else [] := by
  unfold idxs
  rw [List.length_append, show [y].length = 1 from rfl, List.range_succ, List.filter_append]
  congr 1
  · refine List.filter_congr fun j hj => ?_
    rw [List.getElem?_append_left (List.mem_range.mp hj)]
  · rw [List.filter_cons, List.filter_nil, List.getElem?_append_right (Nat.le_refl _), Nat.sub_self]
    by_cases e : s = y
    · rw [if_pos e, if_pos (decide_eq_true (by rw [e]; rfl))]
    · rw [if_neg e, if_neg (show ¬ decide ([y][0]? = some s) = true from fun h => e (Option.some.inj (show some y = some s from of_decide_eq_true h)).symm)]
theorem idxs_mem {ss : List Str} {s : Str} {j : Nat} : j ∈ idxs ss s ↔ ss[j]? = some s := by
  unfold idxs
  rw [List.mem_filter, List.mem_range, decide_eq_true_iff]
  exact ⟨fun h => h.2, fun h => ⟨(List.getElem?_eq_some_iff.mp h).1, h⟩⟩
theorem idxs_none {ss : List Str} {s : Str} (h : s ∉ ss) : idxs ss s = [] := by
  refine List.eq_nil_iff_forall_not_mem.mpr fun j hj => h ?_
  exact List.mem_of_getElem? (idxs_mem.mp hj)
theorem idxs_len (ss : List Str) (s : Str) : (idxs ss s).length ≤ ss.length := by
  unfold idxs
  refine Nat.le_trans (List.length_filter_le _ _) ?_
  rw [List.length_range]
  exact Nat.le_refl _
def glL (ss : List Str) : List (Str × List Nat) := (dds ss).map fun s => (s, idxs ss s)
theorem glL_old {ss : List Str} {y : Str} (h : y ∈ ss) : glL (ss ++ [y]) = (glL ss).map fun g => if g.1 = y then (g.1, g.2 ++ [ss.length]) else g := by
  unfold glL
  rw [dds_snoc, if_pos ((mem_dds ss).mpr h), List.map_map]
  refine List.map_congr_left fun s _ => ?_
  rw [idxs_snoc]
  show (s, idxs ss s ++ _) = if s = y then (s, idxs ss s ++ [ss.length]) else (s, idxs ss s)
  by_cases e : s = y
  · rw [if_pos e, if_pos e]
  · rw [if_neg e, if_neg e, List.append_nil]
theorem glL_new {ss : List Str} {y : Str} (h : y ∉ ss) : glL (ss ++ [y]) = glL ss ++ [(y, [ss.length])] := by
  unfold glL
  rw [dds_snoc, if_neg (fun q => h ((mem_dds ss).mp q)), List.map_append]
  congr 1
  · refine List.map_congr_left fun s hs => ?_
    rw [idxs_snoc, if_neg (fun e => h (by rw [← e]; exact (mem_dds ss).mp hs)), List.append_nil]
  · show [(y, idxs (ss ++ [y]) y)] = _
    rw [idxs_snoc, if_pos rfl, idxs_none h]
    rfl
def rLenG (K : PySem.W.Frag) : List V → Hp → VK → Prop := fun xs H Q => ∃ (x : V) (n : Nat), xs = [x] ∧ LenV K x H n ∧ Q (.int n) H
def rTupG (K : PySem.W.Frag) : List V → Hp → VK → Prop := fun xs H Q => ∃ p ys, xs = [.ref p] ∧ ((SqL K H p ys ∧ ∀ l, H l = none → Q (.ref l) (upd H l (.tup ys))) ∨ (SqT K H p ys ∧ Q (.ref p) H))
def natI (n : Nat) : V := .int (n : Int)
/-- a group: its form, the place of its list, its places -/
structure Gr where
  key : Str
  ad : Addr
  pl : List Nat
def gkv (gs : List Gr) : List (Key × V) := gs.map fun g => (Sum.inr g.key, V.ref g.ad)
theorem gkv_some : ∀ {gs : List Gr} {y : Str} {v : V}, valV (gkv gs) (Sum.inr y) = some v → ∃ g ∈ gs, g.key = y ∧ v = .ref g.ad
  | [], _, _, h => by cases h
  | g :: gs, y, v, h => by
    by_cases e : g.key = y
    · have := valV_pos (p := (Sum.inr g.key, V.ref g.ad)) (r := gkv gs) (k := (Sum.inr y : Key)) (by rw [e])
      rw [show gkv (g :: gs) = (Sum.inr g.key, V.ref g.ad) :: gkv gs from rfl, this] at h
      exact ⟨g, List.mem_cons_self .., e, (Option.some.inj h).symm⟩
    · rw [show gkv (g :: gs) = (Sum.inr g.key, V.ref g.ad) :: gkv gs from rfl, valV_neg (fun q => e (Sum.inr.inj q))] at h
      obtain ⟨g2, h1, h2⟩ := gkv_some h
      exact ⟨g2, List.mem_cons_of_mem _ h1, h2⟩
theorem gkv_none : ∀ {gs : List Gr} {y : Str}, valV (gkv gs) (Sum.inr y) = none → ∀ g ∈ gs, g.key ≠ y
  | [], _, _, g, hg => by cases hg
  | g :: gs, y, h, g2, hg => by
    have ne : g.key ≠ y := fun e => by
      have := valV_pos (p := (Sum.inr g.key, V.ref g.ad)) (r := gkv gs) (k := (Sum.inr y : Key)) (by rw [e])
      rw [show gkv (g :: gs) = (Sum.inr g.key, V.ref g.ad) :: gkv gs from rfl, this] at h
      cases h
    rcases List.mem_cons.mp hg with rfl | hg
    · exact ne
    · rw [show gkv (g :: gs) = (Sum.inr g.key, V.ref g.ad) :: gkv gs from rfl, valV_neg (fun q => ne (Sum.inr.inj q))] at h
      exact gkv_none h g2 hg
/-- the groups as they stand -/
structure GrAt (J : Hp) (gs : List Gr) : Prop where
  at_ : ∀ g ∈ gs, J g.ad = some (.lst (g.pl.map natI))
  ai : ∀ g ∈ gs, ∀ h ∈ gs, g.ad = h.ad → g.key = h.key
  ki : ∀ g ∈ gs, ∀ h ∈ gs, g.key = h.key → g = h
theorem GrAt.same {H G : Hp} {gs : List Gr} (s : Same H G) (h : GrAt H gs) : GrAt G gs := ⟨fun g hg => s _ _ (h.at_ g hg), h.ai, h.ki⟩
def addAt (y : Str) (n : Nat) (g : Gr) : Gr := if g.key = y then ⟨g.key, g.ad, g.pl ++ [n]⟩ else g
theorem addAt_key (y : Str) (n : Nat) (g : Gr) : (addAt y n g).key = g.key := by
  unfold addAt
  split <;> rfl
theorem addAt_ad (y : Str) (n : Nat) (g : Gr) : (addAt y n g).ad = g.ad := by
  unfold addAt
  split <;> rfl
theorem gkv_add (y : Str) (n : Nat) (gs : List Gr) : gkv (gs.map (addAt y n)) = gkv gs := by
  unfold gkv
  rw [List.map_map]
  refine List.map_congr_left fun g _ => ?_
  show (Sum.inr (addAt y n g).key, V.ref (addAt y n g).ad) = _
  rw [addAt_key, addAt_ad]
theorem GrAt.add {J : Hp} {gs : List Gr} {g : Gr} {n : Nat} (h : GrAt J gs) (hg : g ∈ gs) : GrAt (upd J g.ad (.lst (g.pl.map natI ++ [natI n]))) (gs.map (addAt g.key n)) := by
  refine ⟨fun x hx => ?_, fun x hx y hy e => ?_, fun x hx y hy e => ?_⟩
  · obtain ⟨x, mx, rfl⟩ := List.mem_map.mp hx
    rw [addAt_ad]
    by_cases e : x.ad = g.ad
    · have ek := h.ai x mx g hg e
      have ex := h.ki x mx g hg ek
      subst ex
      rw [upd_same]
      unfold addAt
      rw [if_pos rfl, List.map_append]
      rfl
    · rw [upd_ne e, h.at_ x mx]
      unfold addAt
      rw [if_neg fun q => e (by rw [h.ki x mx g hg q])]
  · obtain ⟨x, mx, rfl⟩ := List.mem_map.mp hx
    obtain ⟨y, my, rfl⟩ := List.mem_map.mp hy
    rw [addAt_ad, addAt_ad] at e
    rw [addAt_key, addAt_key]
    exact h.ai x mx y my e
  · obtain ⟨x, mx, rfl⟩ := List.mem_map.mp hx
    obtain ⟨y, my, rfl⟩ := List.mem_map.mp hy
    rw [addAt_key, addAt_key] at e
    rw [h.ki x mx y my e]
theorem GrAt.new {J : Hp} {gs : List Gr} {y : Str} {L : Addr} {n : Nat} (h : GrAt J gs) (nL : ∀ g ∈ gs, g.ad ≠ L) (no : ∀ g ∈ gs, g.key ≠ y) : GrAt (upd J L (.lst [natI n])) (gs ++ [⟨y, L, [n]⟩]) := by
  refine ⟨fun x hx => ?_, fun a ha b hb e => ?_, fun a ha b hb e => ?_⟩
  · rcases List.mem_append.mp hx with hx | hx
    · rw [upd_ne (nL x hx)]
      exact h.at_ x hx
    · rw [List.mem_singleton.mp hx]
      exact upd_same
  · rcases List.mem_append.mp ha with ha | ha
    · rcases List.mem_append.mp hb with hb | hb
      · exact h.ai a ha b hb e
      · rw [List.mem_singleton.mp hb] at e
        exact absurd e (nL a ha)
    · rcases List.mem_append.mp hb with hb | hb
      · rw [List.mem_singleton.mp ha] at e
        exact absurd e.symm (nL b hb)
      · rw [List.mem_singleton.mp ha, List.mem_singleton.mp hb]
  · rcases List.mem_append.mp ha with ha | ha
    · rcases List.mem_append.mp hb with hb | hb
      · exact h.ki a ha b hb e
      · rw [List.mem_singleton.mp hb] at e
        exact absurd e (no a ha)
    · rcases List.mem_append.mp hb with hb | hb
      · rw [List.mem_singleton.mp ha] at e
        exact absurd e.symm (no b hb)
      · rw [List.mem_singleton.mp ha, List.mem_singleton.mp hb]
def grpL (ss : List Str) : List (List Nat) := ((glL ss).map (·.2)).filter fun l => decide (1 < l.length)
/-- tuples of numbers in the heap -/
def Tns (G : Hp) (ts : List (Addr × List Nat)) : Prop := ∀ t ∈ ts, G t.1 = some (.tup (t.2.map natI))
theorem Tns.same {H G : Hp} {ts : List (Addr × List Nat)} (s : Same H G) (h : Tns H ts) : Tns G ts := fun q hq => s _ _ (h q hq)
theorem Tns.list {H : Hp} {M : Addr} {acc ys : List V} {ts : List (Addr × List Nat)} (h : Tns H ts) (e : H M = some (.lst acc)) : Tns (upd H M (.lst ys)) ts := fun q hq => by
  rw [upd_ne (ne_of (h q hq) e (by intro z; cases z))]
  exact h q hq
theorem Tns.snoc {H : Hp} {ts : List (Addr × List Nat)} {a : Addr} {l : List Nat} (h : Tns H ts) (e : H a = some (.tup (l.map natI))) : Tns H (ts ++ [(a, l)]) := fun q hq => by
  rcases List.mem_append.mp hq with hq | hq
  · exact h q hq
  · rw [List.mem_singleton.mp hq]
    exact e
section
variable {P : Program} {w : World} {K : PySem.W.Frag} {mg : Str → Option Value} {base : Heap} {C : Addr}
def spGroups (K : PySem.W.Frag) (C : Addr) : Sp := fun vs H Q _ => ∃ (a T : Addr) (rs : List (Addr × Rec)) (zs : List Str), vs = [.ref a, .ref T] ∧ RowAt C H a rs ∧ 1 ≤ rs.length ∧ rs.length ≤ 4 ∧ SqT K H T (zs.map V.str) ∧ (∀ z ∈ zs, isTxt z 200 = true) ∧ zs.length ≤ 20 ∧
  ∀ (U : Addr) (G : Hp) (ts : List (Addr × List Nat)), Same H G → G U = some (.tup (ts.map fun t => V.ref t.1)) → Tns G ts → ts.map (·.2) = grpL (zs.map (shown (rs.map (·.2)))) → Q (.ref U) G
theorem cal_groups (B : Bi mg) (D : At K mg "groups" s_groups ps_groups) (C_check_row : Cal P w K mg base 2 "check_row" ps_check_row (spCheckRow C)) (C_check_texts : Cal P w K mg base 2 "check_texts" ps_check_texts (spTexts K)) (C_shown_by : Cal P w K mg base 2 "shown_by" ps_shown_by (spShownBy C)) : Cal P w K mg base 3 "groups" ps_groups (spGroups K C) := by
  refine D.cal sc_groups (fun vs H Q E h => ?_) (fun f cdv A outer s H vs Q E hr h => ?_)
  · obtain ⟨a, T, rs, zs, rfl, _⟩ := h
    rfl
  · obtain ⟨a, T, rs, zs, rfl, hR, l1, l4, hT, zt, zl, k⟩ := h
    refine ⟨_, (pss_cons (ps_expr (pe_own C_check_row hr (by decide) (by rfl) (pa_cons (pv 0) pa_nil)))
      (pss_cons (ps_expr (pe_own C_check_texts hr (by decide) (by rfl) (pa_cons (pv 1) (pa_cons (pe_cst B.MOST_TEXTS (by rfl)) pa_nil))))
      (pss_cons (ps_set (i := 2) sc_groups.nd rfl (.inl rfl) pe_dnewK)
      (pss_cons (ps_for PassesOwn.never rfl (pi_enT (by rfl) B.enumerate (pa_cons (pv 1) pa_nil)) (pg_tup rfl (pgs_cons (pg_name (i := 3) sc_groups.nd rfl (.inl rfl)) (pgs_cons (pg_name (i := 4) sc_groups.nd rfl (.inl rfl)) pgs_nil)))
      (pss_one (ps_expr (pe_bm PySem.F.plainAttrs_list PySem.F.slot_list_append PySem.F.type_list_append mt_append (pe_dsetd (pv 2) (pe_own C_shown_by hr (by decide) (by rfl) (pa_cons (pv 0) (pa_cons (pv 4) pa_nil))) (pe_lst pa_nil) ⟨rfl, rfl, rfl, rfl⟩) (pa_cons (pv 3) pa_nil)))))
      (pss_one (ps_ret (pe_callTy call_tuple_of (by rfl) B.tuple (by decide +kernel) (pa_cons (pe_lock (pe_lc (own := [("shared", 5)]) (by rfl) sc_groups.nd (pi_values (pv 2)) (blkOk_by (own := [("shared", 5)]) (N := ["row", "texts", "places", "place", "text", "shared"]) (sc := defScope s_groups) (by decide +kernel)) (fun _ _ _ _ _ => pg_name (i := 5) sc_groups.nd rfl (.inl rfl)) (fun _ _ _ _ _ => (pts_one (pt_cmpR op_gt (pe_callB (id := "len") (r := rLenG K) call_len (by rfl) B.len (by decide +kernel) (pa_cons (pv 5) pa_nil)) pe_int (nomark _)))) (fun _ _ _ _ _ => (pe_callTy (r := rTupG K) call_tuple_of (by rfl) B.tuple (by decide +kernel) (pa_cons (pv 5) pa_nil))))) pa_nil)))))))), ?_⟩
    obtain ⟨rr, hrr⟩ : ∃ rr : List Rec, rr = rs.map (·.2) := ⟨_, rfl⟩
    rw [← hrr] at k
    refine ⟨_, rfl, a, rs, rfl, hR, l1, l4, fun G1 s1 => ⟨_, rfl, T, zs, _, rfl, sameT s1 hT, by omega, zt, fun G2 s2 => ?_⟩⟩
    have s12 := s1.trans s2
    intro d nd
    have sd : Same G2 (upd G2 d (.dK [])) := same_new nd
    refine ⟨_, rfl, T, _, rfl, sameT (s12.trans sd) hT, for_it walk_enT (fun i σ J => ∃ (u v : Option V) (gs : List Gr), σ = [some (.ref a), some (.ref T), some (.ref d), u, v, none] ∧ J d = some (.dK (gkv gs)) ∧ GrAt J gs ∧ (gs.map fun g => (g.key, g.pl)) = glL ((zs.take i).map (shown rr)) ∧ (∀ g ∈ gs, G2 g.ad = none ∧ g.ad ≠ d) ∧ gs.length ≤ i ∧ Same G2 J)
      ⟨none, none, [], rfl, upd_same, ⟨(fun g hg => by cases hg), (fun g hg => by cases hg), (fun g hg => by cases hg)⟩, rfl, (fun g hg => by cases hg), Nat.le_refl _, sd⟩ (fun i σ J _ ⟨_, _, _, _, _, _, _, _, _, sJ⟩ => sameT (s12.trans sJ) hT) ?_ ?_⟩
    · rintro i v σ J J1 hi ⟨u, v2, gs, rfl, eD, hG, eg, ng, gl, sJ⟩ ⟨N, x, hx, rfl, nN, rfl⟩
      obtain ⟨z, hz, rfl⟩ := atP_strs' hx
      have mz := List.mem_of_getElem? hz
      have il := (List.getElem?_eq_some_iff.mp hz).1
      have sN : Same J (upd J N (.tup [.int (i : Nat), .str z])) := same_new nN
      refine ⟨N, _, rfl, .inl (.inl upd_same), rfl, _, _, rfl, _, _, rfl, rfl, ?_⟩
      generalize upd J N (.tup [.int (i : Nat), .str z]) = J1 at sN
      refine ⟨_, rfl, d, rfl, .inl ⟨_, .inl (sN _ _ eD)⟩, _, rfl, _, rfl, a, rs, z, rfl, hR.same (s12.trans (sJ.trans sN)), Nat.le_trans (txt_len (zt z mz)) (by decide), fun y ey => ?_⟩
      rw [← hrr] at ey
      obtain rfl := shown_of ey
      refine ⟨Nat.zero_le _, fun L nL => ?_⟩
      have sL : Same J1 (upd J1 L (.lst [])) := same_new nL
      have eL : upd J1 L (.lst []) L = some (.lst []) := upd_same
      generalize upd J1 L (.lst []) = J2 at sL eL
      have s3 := sN.trans sL
      have eD2 := s3 _ _ eD
      have hG2 := hG.same s3
      have nL2 : G2 L = none := (sJ.trans sN).free nL
      have nLd : L ≠ d := Ne.symm (ne_of_none (sN _ _ eD) nL)
      have nLg : ∀ g ∈ gs, g.ad ≠ L := fun g hg => ne_of_none (sN _ _ (hG.at_ g hg)) nL
      have len : ((zs.take i).map (shown rr)).length = i := by
        rw [List.length_map, List.length_take]
        omega
      have nextS : (zs.take (i + 1)).map (shown rr) = (zs.take i).map (shown rr) ++ [shown rr z] := by
        rw [takeN hz, List.map_append]
        rfl
      have keys : ∀ y, y ∈ (zs.take i).map (shown rr) ↔ ∃ g ∈ gs, g.key = y := fun y => by
        have e2 : gs.map (·.key) = dds ((zs.take i).map (shown rr)) := by
          have := congrArg (List.map (·.1)) eg
          unfold glL at this
          rw [List.map_map, List.map_map] at this
          have e3 : (List.map ((fun x => x.1) ∘ fun s => (s, idxs ((zs.take i).map (shown rr)) s)) (dds ((zs.take i).map (shown rr)))) = dds ((zs.take i).map (shown rr)) := List.map_id _
          rw [e3] at this
          exact this
        rw [← mem_dds, ← e2, List.mem_map]
      refine ⟨gkv gs, Sum.inr (shown rr z), eD2, rfl, small1000 (by unfold gkv; rw [List.length_map]; omega), fun v hv => ?_, fun hn => ?_⟩
      · obtain ⟨g, mg, kg, rfl⟩ := gkv_some hv
        have eg2 := hG2.at_ g mg
        have il2 : g.pl.length ≤ 20 := by
          have m2 : (g.key, g.pl) ∈ gs.map fun g => (g.key, g.pl) := List.mem_map.mpr ⟨g, mg, rfl⟩
          rw [eg] at m2
          unfold glL at m2
          obtain ⟨s, _, e⟩ := List.mem_map.mp m2
          have e4 : idxs ((zs.take i).map (shown rr)) s = g.pl := congrArg Prod.snd e
          have := idxs_len ((zs.take i).map (shown rr)) s
          rw [e4, len] at this
          omega
        refine ⟨.inl ⟨rfl, _, .inl (.inl eg2)⟩, _, rfl, g.ad, _, _, rfl, rfl, eg2, small1000 (by rw [List.length_map]; omega), ?_⟩
        refine ⟨_, _, gs.map (addAt g.key i), rfl, ?_, hG2.add mg, ?_, fun x hx => ?_, by rw [List.length_map]; omega, offH (sJ.trans s3) (ng g mg).1⟩
        · rw [gkv_add, upd_ne (Ne.symm (ng g mg).2)]
          exact eD2
        · rw [nextS, glL_old ((keys _).mpr ⟨g, mg, kg⟩), ← eg, List.map_map, List.map_map, len]
          refine List.map_congr_left fun x _ => ?_
          show ((addAt g.key i x).key, (addAt g.key i x).pl) = if x.key = shown rr z then (x.key, x.pl ++ [i]) else (x.key, x.pl)
          rw [← kg]
          unfold addAt
          split <;> rfl
        · obtain ⟨x, mx, rfl⟩ := List.mem_map.mp hx
          rw [addAt_ad]
          exact ng x mx
      · have no := gkv_none hn
        have eLu : upd J2 d (.dK (putK (gkv gs) (Sum.inr (shown rr z)) (.ref L))) L = some (.lst []) := by
          rw [upd_ne nLd]
          exact eL
        refine ⟨.inl ⟨rfl, _, .inl (.inl eLu)⟩, _, rfl, L, _, _, rfl, rfl, eLu, by show 0 < sizeLine; decide, ?_⟩
        have hG3 : GrAt (upd J2 d (.dK (putK (gkv gs) (Sum.inr (shown rr z)) (.ref L)))) gs := ⟨fun g hg => by rw [upd_ne (ng g hg).2]; exact hG2.at_ g hg, hG2.ai, hG2.ki⟩
        refine ⟨_, _, gs ++ [Gr.mk (shown rr z) L [i]], rfl, ?_, hG3.new (n := i) nLg no, ?_, fun x hx => ?_, by rw [List.length_append]; exact Nat.succ_le_succ gl, offH (offH (sJ.trans s3) nd) nL2⟩
        · rw [upd_ne (Ne.symm nLd), upd_same, putK_new _ hn]
          unfold gkv
          rw [List.map_append]
          rfl
        · rw [nextS, glL_new (fun q => by
            obtain ⟨g, hg, e⟩ := (keys _).mp q
            exact no g hg e), ← eg, List.map_append, len]
          rfl
        · rcases List.mem_append.mp hx with hx | hx
          · exact ng x hx
          · rw [List.mem_singleton.mp hx]
            exact ⟨nL2, nLd⟩
    · rintro σ J ⟨u, v, gs, rfl, eD, hG, eg, ng, gl, sJ⟩
      rw [List.length_map, List.take_length] at eg
      rw [List.length_map] at gl
      refine ⟨d, _, eD, trivial, fun od => ?_⟩
      have sl : ∀ b o, J b = some o → b ≠ d → upd J d (.frz od (.dK (gkv gs))) b = some o := fun b o e n => by
        rw [upd_ne n]
        exact e
      refine ⟨_, rfl, d, od, _, rfl, upd_same, fun M nM => lc_it walk_values (fun i J1 => ∃ ts : List (Addr × List Nat), J1 M = some (.lst (ts.map fun t => V.ref t.1)) ∧ Tns J1 ts ∧ ts.map (·.2) = ((gs.map (·.pl)).take i).filter (fun l => decide (1 < l.length)) ∧ J1 d = some (.frz od (.dK (gkv gs))) ∧ ∀ b o, J b = some o → b ≠ d → J1 b = some o)
        ⟨[], upd_same, (fun t ht => by cases ht), rfl, ?_, fun b o e n => ?_⟩ (fun i J1 _ ⟨_, _, _, _, e, _⟩ => e) ?_ ?_⟩
      · rw [upd_ne (ne_of_none upd_same nM), upd_same]
      · rw [upd_ne (ne_of_none (sl b o e n) nM)]
        exact sl b o e n
      · rintro i v J1 J2 hi ⟨ts, eM, hts, et, ed, keep⟩ ⟨rfl, kk, hk⟩
        unfold gkv at hk hi
        rw [List.getElem?_map] at hk
        rw [List.length_map] at hi
        cases hg : gs[i]? with
        | none =>
          rw [hg] at hk
          cases hk
        | some g =>
          rw [hg] at hk
          cases hk
          have mg := List.mem_of_getElem? hg
          have gp : (gs.map (·.pl))[i]? = some g.pl := by rw [List.getElem?_map, hg]; rfl
          have e1 := keep _ _ (hG.at_ g mg) (ng g mg).2
          have tl : ts.length ≤ 20 := by
            have a := congrArg List.length et
            rw [List.length_map] at a
            have b := List.length_filter_le (fun l : List Nat => decide (1 < l.length)) ((gs.map (·.pl)).take i)
            rw [List.length_take] at b
            omega
          have nx : ((gs.map (·.pl)).take (i + 1)).filter (fun l => decide (1 < l.length)) = ((gs.map (·.pl)).take i).filter (fun l => decide (1 < l.length)) ++ if decide (1 < g.pl.length) = true then [g.pl] else [] := by
            rw [takeN gp, List.filter_append]
            congr 1
            show List.filter _ [_] = _
            rw [List.filter_cons, List.filter_nil]
          refine ⟨rfl, _, rfl, _, _, rfl, .inl ⟨_, .inl (.inl e1), rfl⟩, _, _, rfl, rfl, _, rfl, ?_⟩
          rw [List.length_map]
          refine ite2 (fun q => ?_) (fun q => ?_)
          · have q2 : 1 < g.pl.length := by
              have := of_decide_eq_true q
              omega
            refine ⟨_, rfl, g.ad, _, rfl, .inl ⟨.inl (.inl e1), fun t nt => ?_⟩⟩
            have st : Same J2 (upd J2 t (.tup (g.pl.map natI))) := same_new nt
            have ett : upd J2 t (.tup (g.pl.map natI)) t = some (.tup (g.pl.map natI)) := upd_same
            generalize upd J2 t (.tup (g.pl.map natI)) = J3 at st ett
            refine ⟨_, st _ _ eM, small1000 (by rw [List.length_map]; omega), ts ++ [(t, g.pl)], ?_, ((hts.same st).snoc ett).list (st _ _ eM), ?_, ?_, fun b o e n => ?_⟩
            · rw [upd_same, List.map_append]
              rfl
            · rw [List.map_append, et, nx, if_pos (decide_eq_true q2)]
              rfl
            · have nMd : d ≠ M := fun z => by
                have a := ed
                rw [z, eM] at a
                cases a
              rw [upd_ne nMd]
              exact st _ _ ed
            · rw [upd_ne (ne_of_none (sl b o e n) nM)]
              exact st _ _ (keep b o e n)
          · have q2 : ¬ 1 < g.pl.length := fun h => q (decide_eq_true (by omega))
            refine ⟨ts, eM, hts, ?_, ed, keep⟩
            rw [nx, if_neg (fun h => q2 (of_decide_eq_true h)), List.append_nil]
            exact et
      · rintro J1 ⟨ts, eM, hts, et, ed, keep⟩
        refine ⟨ed, ?_⟩
        have nMd : M ≠ d := fun z => by
          rw [z, ed] at eM
          cases eM
        have sF : Same H (upd J1 d (.dK (gkv gs))) := s12.trans (fun b o e => by
          have nb : b ≠ d := ne_of_none e nd
          rw [upd_ne nb]
          exact keep b o (sJ b o e) nb)
        have eM2 : upd J1 d (.dK (gkv gs)) M = some (.lst (ts.map fun t => V.ref t.1)) := by
          rw [upd_ne nMd]
          exact eM
        have hts2 : Tns (upd J1 d (.dK (gkv gs))) ts := fun t ht => by
          rw [upd_ne (ne_of (hts t ht) ed (by intro z; cases z))]
          exact hts t ht
        refine ⟨M, _, rfl, .inl ⟨.inl (.inl eM2), fun U nU => k U _ ts (sF.trans (same_new nU)) upd_same (hts2.same (same_new nU)) ?_⟩⟩
        have gl2 : (gkv gs).length = (gs.map (·.pl)).length := by
          unfold gkv
          rw [List.length_map, List.length_map]
        rw [et, gl2, List.take_length]
        unfold grpL
        rw [← eg, List.map_map]
        rfl
end
end Gu
namespace Gu
open PySem PySem.Spec PyProof.Rows L2
/-! ### lists of texts refused -/
def TxtOk (v : V) : Prop := ∃ z : Str, v = .str z ∧ z.length ≤ 1000 ∧ isTxt z 200 = true
def TextsOk (K : PySem.W.Frag) (H : Hp) (m : Nat) (v : V) : Prop := ∃ (l : Addr) (xs : List V), v = .ref l ∧ SqT K H l xs ∧ xs.length ≤ m ∧ ∀ y ∈ xs, TxtOk y
theorem TextsOk.same {K : PySem.W.Frag} {H G : Hp} {m : Nat} {v : V} (s : Same H G) (h : TextsOk K H m v) : TextsOk K G m v := by
  obtain ⟨l, xs, e, q, lm, a⟩ := h
  exact ⟨l, xs, e, stE s q, lm, a⟩
/-- no list of texts: the place of the first wrong one, or None -/
def TextsBad (K : PySem.W.Frag) (H : Hp) (m : Nat) (v spot : V) : Prop := (spot = .non ∧ NoTup K H 0 m v) ∨
  ∃ (l : Addr) (xs : List V) (i : Nat) (x : V), v = .ref l ∧ SqT K H l xs ∧ xs.length ≤ m ∧ (∀ j y, j < i → xs[j]? = some y → TxtOk y) ∧ xs[i]? = some x ∧ NoTxt K H 200 x ∧ spot = .int (i : Int)
theorem TextsBad.same {K : PySem.W.Frag} {H G : Hp} {m : Nat} {v spot : V} (s : Same H G) (h : TextsBad K H m v spot) : TextsBad K G m v spot := h.imp (And.imp id (NoTup.same s)) fun ⟨l, xs, i, x, e, q, lm, b, hx, n, es⟩ => ⟨l, xs, i, x, e, stE s q, lm, b, hx, n.same s, es⟩
section
variable {P : Program} {w : World} {K : PySem.W.Frag} {mg : Str → Option Value} {base : Heap} {C U CX : Addr}
def spTextsE (K : PySem.W.Frag) (CX : Addr) : Sp := fun vs H Q E => ∃ (v : V) (m : Nat), vs = [v, .int (m : Int)] ∧ ((TextsOk K H m v ∧ ∀ G, Same H G → Q .non G) ∨ ∃ spot, TextsBad K H m v spot ∧ Raised CX "index" spot H E)
theorem cal_textsE (B : Bi mg) (D : At K mg "check_texts" s_check_texts ps_check_texts) (T_InvalidTexts : ErrK K mg bVE U "InvalidTexts" CX) (S_InvalidTexts : ErrF K "InvalidTexts" "index" CX) (C_is_tuple : Cal P w K mg base 1 "is_tuple" ps_is_tuple (spTup K)) (C_is_text : Cal P w K mg base 1 "is_text" ps_is_text (spTxt K)) : CalX P w K mg base 2 "check_texts" ps_check_texts (spTextsE K CX) := by
  refine D.calX sc_check_texts (fun vs H Q E h => ?_) (fun f cdv A outer s H vs Q E hr h => ?_)
  · obtain ⟨v, m, rfl, _⟩ := h
    rfl
  · obtain ⟨v, m, rfl, way⟩ := h
    refine ⟨_, (pss_cons (ps_if (pt_not (pt_val (pe_own C_is_tuple hr (by decide) (by rfl) (pa_cons (pv 0) (pa_cons pe_int (pa_cons (pv 1) pa_nil)))))) (pss_one (ps_raiseE T_InvalidTexts S_InvalidTexts rfl hr (takes_of rfl rfl rfl rfl) (pa_cons pe_non pa_nil) (by rfl))) pss_nil)
      (pss_one (ps_for (passes_of rfl) rfl (pi_enT (by rfl) B.enumerate (pa_cons (pv 0) pa_nil)) (pg_tup rfl (pgs_cons (pg_name (i := 2) sc_check_texts.nd rfl (.inl rfl)) (pgs_cons (pg_name (i := 3) sc_check_texts.nd rfl (.inl rfl)) pgs_nil)))
      (pss_one (ps_if (pt_not (pt_val (pe_own C_is_text hr (by decide) (by rfl) (pa_cons (pv 3) (pa_cons (pe_cst B.MOST_TEXT (by rfl)) pa_nil))))) (pss_one (ps_raiseE T_InvalidTexts S_InvalidTexts rfl hr (takes_of rfl rfl rfl rfl) (pa_cons (pv 2) pa_nil) (by rfl))) pss_nil))))), ?_⟩
    rcases way with ⟨⟨a, xs, rfl, hs, lm, all⟩, k⟩ | ⟨spot, ⟨rfl, no⟩ | ⟨l, xs, i, x, rfl, hs, lm, before, hx, bad, rfl⟩, k⟩
    · refine ⟨_, rfl, _, rfl, _, 0, m, rfl, .inl ⟨a, _, rfl, hs, Nat.zero_le _, lm, _, rfl, iteF ?_⟩⟩
      refine ⟨_, rfl, a, _, rfl, hs, for_it walk_enT (fun i σ J => ∃ u v, σ = [some (.ref a), some (.int (m : Int)), u, v] ∧ Same H J) ⟨none, none, rfl, Same.refl H⟩ (fun i σ J _ ⟨_, _, _, sJ⟩ => stE sJ hs) ?_ ?_⟩
      · rintro i x σ J J1 hi ⟨u, v2, rfl, sJ⟩ ⟨T, z, hz, rfl, nT, rfl⟩
        have sT : Same H (upd J T (.tup [.int (i : Nat), z])) := sJ.trans (same_new nT)
        obtain ⟨y, rfl, yl, yt⟩ := all z (List.mem_of_getElem? hz)
        exact ⟨T, _, rfl, .inl (.inl upd_same), rfl, _, _, rfl, _, _, rfl, rfl, _, rfl, _, 200, rfl, .inl ⟨y, rfl, yl, yt, fun G sG => ⟨_, rfl, iteF ⟨_, _, rfl, sT.trans sG⟩⟩⟩⟩
      · rintro σ J ⟨u, v, rfl, sJ⟩
        exact k J sJ
    · exact ⟨_, rfl, _, rfl, v, 0, m, rfl, .inr ⟨no, _, rfl, iteT ⟨_, rfl, fun d nd => k d _ (same_new nd) upd_same⟩⟩⟩
    · refine ⟨_, rfl, _, rfl, _, 0, m, rfl, .inl ⟨l, _, rfl, hs, Nat.zero_le _, lm, _, rfl, iteF ?_⟩⟩
      refine ⟨_, rfl, l, _, rfl, hs, for_it walk_enT (fun j σ J => ∃ u v, σ = [some (.ref l), some (.int (m : Int)), u, v] ∧ Same H J ∧ j ≤ i) ⟨none, none, rfl, Same.refl H, Nat.zero_le _⟩ (fun i σ J _ ⟨_, _, _, sJ, _⟩ => stE sJ hs) ?_ ?_⟩
      · rintro j y σ J J1 hj ⟨u, v2, rfl, sJ, ji⟩ ⟨T, z, hz, rfl, nT, rfl⟩
        have sT : Same H (upd J T (.tup [.int (j : Nat), z])) := sJ.trans (same_new nT)
        refine ⟨T, _, rfl, .inl (.inl upd_same), rfl, _, _, rfl, _, _, rfl, rfl, ?_⟩
        rcases Nat.lt_or_ge j i with lt | ge
        · obtain ⟨y, rfl, yl, yt⟩ := before j z lt hz
          exact ⟨_, rfl, _, 200, rfl, .inl ⟨y, rfl, yl, yt, fun G sG => ⟨_, rfl, iteF ⟨_, _, rfl, sT.trans sG, lt⟩⟩⟩⟩
        · have ej : j = i := by omega
          subst ej
          rw [hx] at hz
          cases hz
          exact ⟨_, rfl, x, 200, rfl, .inr ⟨bad.same sT, fun G sG => ⟨_, rfl, iteT ⟨_, rfl, _, rfl, fun d nd => k d _ ((sT.trans sG).trans (same_new nd)) upd_same⟩⟩⟩⟩
      · rintro σ J ⟨u, v, rfl, sJ, ji⟩
        have := (List.getElem?_eq_some_iff.mp hx).1
        omega
end
end Gu
namespace Gu
open PySem PySem.Spec PyProof.Rows L2
/-! ### families refused -/
/-- no word of a family -/
def NoKind (K : PySem.W.Frag) (H : Hp) (v : V) : Prop := Isa K H v "str" false ∨ ∃ z : Str, v = .str z ∧ z ∉ kinds
theorem NoKind.same {K : PySem.W.Frag} {H G : Hp} {v : V} (s : Same H G) (h : NoKind K H v) : NoKind K G v := h.imp (Isa.same s) id
/-- no whole number from lo to hi -/
def NoNumL (K : PySem.W.Frag) (H : Hp) (lo hi : Int) (v : V) : Prop := (∃ i : Int, v = .int i ∧ ¬ (lo ≤ i ∧ i ≤ hi)) ∨ Isa K H v "int" false ∨ (Isa K H v "int" true ∧ Isa K H v "bool" true)
theorem NoNumL.same {K : PySem.W.Frag} {H G : Hp} {lo hi : Int} {v : V} (s : Same H G) (h : NoNumL K H lo hi v) : NoNumL K G lo hi v := h.imp id (Or.imp (Isa.same s) fun ⟨a, b⟩ => ⟨a.same s, b.same s⟩)
def MarkOk (v : V) : Prop := ∃ z : Str, v = .str z ∧ z.length ≤ 1000 ∧ isTxt z 3 = true
def SeenOk (K : PySem.W.Frag) (H : Hp) (v : V) : Prop := ∃ (l : Addr) (a b : V), v = .ref l ∧ SqT K H l [a, b] ∧ TxtOk a ∧ TxtOk b
theorem SeenOk.same {K : PySem.W.Frag} {H G : Hp} {v : V} (s : Same H G) (h : SeenOk K H v) : SeenOk K G v := by
  obtain ⟨l, a, b, e, q, x⟩ := h
  exact ⟨l, a, b, e, stE s q, x⟩
def SeenNo (K : PySem.W.Frag) (H : Hp) (v : V) : Prop := NoTup K H 2 2 v ∨ ∃ (l : Addr) (a b : V), v = .ref l ∧ SqT K H l [a, b] ∧ (NoTxt K H 200 a ∨ (TxtOk a ∧ NoTxt K H 200 b))
theorem SeenNo.same {K : PySem.W.Frag} {H G : Hp} {v : V} (s : Same H G) (h : SeenNo K H v) : SeenNo K G v := h.imp (NoTup.same s) fun ⟨l, a, b, e, q, r⟩ => ⟨l, a, b, e, stE s q, r.imp (NoTxt.same s) fun ⟨x, y⟩ => ⟨x, y.same s⟩⟩
/-- no list of pairs: the place of the first wrong one, or None -/
def SeensBad (K : PySem.W.Frag) (H : Hp) (v spot : V) : Prop := (spot = .non ∧ NoTup K H 0 20 v) ∨
  ∃ (l : Addr) (xs : List V) (i : Nat) (x : V), v = .ref l ∧ SqT K H l xs ∧ xs.length ≤ 20 ∧ (∀ j y, j < i → xs[j]? = some y → SeenOk K H y) ∧ xs[i]? = some x ∧ SeenNo K H x ∧ spot = .int (i : Int)
theorem SeensBad.same {K : PySem.W.Frag} {H G : Hp} {v spot : V} (s : Same H G) (h : SeensBad K H v spot) : SeensBad K G v spot := h.imp (And.imp id (NoTup.same s)) fun ⟨l, xs, i, x, e, q, lm, b, hx, n, es⟩ => ⟨l, xs, i, x, e, stE s q, lm, fun j y hj hy => (b j y hj hy).same s, hx, n.same s, es⟩
section
variable {P : Program} {w : World} {K : PySem.W.Frag} {mg : Str → Option Value} {base : Heap} {C U CX CK CM CW CR : Addr}
def spNumL (K : PySem.W.Frag) : Sp := fun vs H Q _ => ∃ (v : V) (lo hi : Int), vs = [v, .int lo, .int hi] ∧ NoNumL K H lo hi v ∧ Q (.bl false) H
theorem numL_of (c : Cal P w K mg base 1 "is_integer" ps_is_integer (spIsInteger K)) : Cal P w K mg base 1 "is_integer" ps_is_integer (spNumL K) := c.imp fun vs H Q E ⟨v, lo, hi, e, h, q⟩ => by
  refine ⟨v, lo, hi, e, ?_⟩
  rcases h with ⟨i, rfl, h⟩ | h | ⟨h, k⟩
  · exact .inl ⟨i, rfl, by rw [decide_eq_false h]; exact q⟩
  · exact .inr (.inl ⟨h, q⟩)
  · exact .inr (.inr ⟨h, k, q⟩)
def spKindE (K : PySem.W.Frag) (CK : Addr) : Sp := fun vs H Q E => ∃ v : V, vs = [v] ∧ ((∃ k : Kd, v = .str k.word ∧ Q .non H) ∨ (NoKind K H v ∧ Raised CK "value" v H E))
theorem cal_kindE (B : Bi mg) (Z : TupC K mg "KINDS" kinds) (D : At K mg "check_kind" s_check_kind ps_check_kind) (T_InvalidRule : ErrK K mg bVE U "InvalidRule" CK) (S_InvalidRule : ErrF K "InvalidRule" "value" CK) : CalX P w K mg base 1 "check_kind" ps_check_kind (spKindE K CK) := by
  refine D.calX sc_check_kind (fun vs H Q E h => ?_) (fun f cdv A outer s H vs Q E hr h => ?_)
  · obtain ⟨v, rfl, _⟩ := h
    rfl
  · obtain ⟨v, rfl, way⟩ := h
    obtain ⟨T, gT, hT⟩ := Z.ex
    refine ⟨_, (pss_one (ps_if (PW.pt (pw_or (pt_not (pt_val (pe_callB call_isi (by rfl) B.isinstance (by decide +kernel) (pa_cons (pv 0) (pa_cons (pe_bltn (v := .ty "str") (by rfl) B.str (by decide +kernel) rfl) pa_nil))))) (pw_or1 (pt_cmpR op_notIn_seq (pv 0) (pe_glob (v := .ref T) (by rfl) gT rfl) (by rfl))))) (pss_one (ps_raiseE T_InvalidRule S_InvalidRule rfl hr (takes_of rfl rfl rfl rfl) (pa_cons (pv 0) pa_nil) (by rfl))) pss_nil)), ?_⟩
    rcases way with ⟨kd, rfl, k⟩ | ⟨⟨t, i1, i2⟩ | ⟨z, rfl, nz⟩, k⟩
    · obtain ⟨t, i1, i2⟩ := Isa.str_str (K := K) (H := H) (z := kd.word)
      refine ⟨_, rfl, _, _, t, _, true, rfl, .ty _, i1, i2, _, rfl, iteF ?_⟩
      refine ⟨_, rfl, T, _, rfl, .inr (hT H), rfl, flatS kinds, _, rfl, ?_⟩
      rw [inV_strs, decide_eq_true kd.mem]
      exact iteF k
    · exact ⟨_, rfl, _, _, t, _, false, rfl, .ty _, i1, i2, _, rfl, iteT ⟨_, rfl, v, rfl, fun d nd => k d _ (same_new nd) upd_same⟩⟩
    · obtain ⟨t, i1, i2⟩ := Isa.str_str (K := K) (H := H) (z := z)
      refine ⟨_, rfl, _, _, t, _, true, rfl, .ty _, i1, i2, _, rfl, iteF ?_⟩
      refine ⟨_, rfl, T, _, rfl, .inr (hT H), rfl, flatS kinds, _, rfl, ?_⟩
      rw [inV_strs, decide_eq_false nz]
      exact iteT ⟨_, rfl, _, rfl, fun d nd => k d _ (same_new nd) upd_same⟩
def spMarkB (K : PySem.W.Frag) (CM : Addr) : Sp := fun vs H Q E => ∃ v : V, vs = [v] ∧ ((MarkOk v ∧ ∀ G, Same H G → Q .non G) ∨ (NoTxt K H 3 v ∧ Raised CM "value" v H E))
theorem cal_markB (B : Bi mg) (D : At K mg "check_mark" s_check_mark ps_check_mark) (T_InvalidMark : ErrK K mg bVE U "InvalidMark" CM) (S_InvalidMark : ErrF K "InvalidMark" "value" CM) (C_is_text : Cal P w K mg base 1 "is_text" ps_is_text (spTxt K)) : CalX P w K mg base 2 "check_mark" ps_check_mark (spMarkB K CM) := by
  refine D.calX sc_check_mark (fun vs H Q E h => ?_) (fun f cdv A outer s H vs Q E hr h => ?_)
  · obtain ⟨v, rfl, _⟩ := h
    rfl
  · obtain ⟨v, rfl, ⟨⟨z, rfl, zl, zt⟩, k⟩ | ⟨no, k⟩⟩ := h
    · refine ⟨_, (pss_one (ps_if (pt_not (pt_val (pe_own C_is_text hr (by decide) (by rfl) (pa_cons (pv 0) (pa_cons (pe_cst B.MOST_MARK (by rfl)) pa_nil))))) (pss_one (ps_raiseE T_InvalidMark S_InvalidMark rfl hr (takes_of rfl rfl rfl rfl) (pa_cons (pv 0) pa_nil) (by rfl))) pss_nil)), ?_⟩
      exact ⟨_, rfl, _, 3, rfl, .inl ⟨z, rfl, zl, zt, fun G s => ⟨_, rfl, iteF (k G s)⟩⟩⟩
    · refine ⟨_, (pss_one (ps_if (pt_not (pt_val (pe_own C_is_text hr (by decide) (by rfl) (pa_cons (pv 0) (pa_cons (pe_cst B.MOST_MARK (by rfl)) pa_nil))))) (pss_one (ps_raiseE T_InvalidMark S_InvalidMark rfl hr (takes_of rfl rfl rfl rfl) (pa_cons (pv 0) pa_nil) (by rfl))) pss_nil)), ?_⟩
      exact ⟨_, rfl, v, 3, rfl, .inr ⟨no, fun G s => ⟨_, rfl, iteT ⟨_, rfl, v, rfl, fun d nd => k d _ (s.trans (same_new nd)) upd_same⟩⟩⟩⟩
/-- a pair that was seen, or none -/
def spSeenB (K : PySem.W.Frag) : Sp := fun vs H Q _ => ∃ v : V, vs = [v] ∧ ((SeenOk K H v ∧ ∀ G, Same H G → Q (.bl true) G) ∨ (SeenNo K H v ∧ ∀ G, Same H G → Q (.bl false) G))
theorem cal_seenB (B : Bi mg) (D : At K mg "is_seen" s_is_seen ps_is_seen) (C_is_tuple : Cal P w K mg base 1 "is_tuple" ps_is_tuple (spTup K)) (C_is_text : Cal P w K mg base 1 "is_text" ps_is_text (spTxt K)) : Cal P w K mg base 2 "is_seen" ps_is_seen (spSeenB K) := by
  refine D.cal sc_is_seen (fun vs H Q E h => ?_) (fun f cdv A outer s H vs Q E hr h => ?_)
  · obtain ⟨v, rfl, _⟩ := h
    rfl
  · obtain ⟨v, rfl, way⟩ := h
    refine ⟨_, (pss_one (ps_ret (pe_and (pe_own C_is_tuple hr (by decide) (by rfl) (pa_cons (pv 0) (pa_cons pe_int (pa_cons pe_int pa_nil)))) (pe_and (pe_own C_is_text hr (by decide) (by rfl) (pa_cons (pe_ix ix_tup (pv 0) pe_int (fun _ _ => rfl)) (pa_cons (pe_cst B.MOST_TEXT (by rfl)) pa_nil))) (pe_one (pe_own C_is_text hr (by decide) (by rfl) (pa_cons (pe_ix ix_tup (pv 0) pe_int (fun _ _ => rfl)) (pa_cons (pe_cst B.MOST_TEXT (by rfl)) pa_nil)))))))), ?_⟩
    refine ⟨_, rfl, _, 2, 2, rfl, ?_⟩
    rcases way with ⟨⟨l, a, b, rfl, hs, ⟨y, rfl, yl, yt⟩, ⟨z, rfl, zl, zt⟩⟩, k⟩ | ⟨no | ⟨l, a, b, rfl, hs, way⟩, k⟩
    · refine .inl ⟨l, _, rfl, hs, by show 2 ≤ 2; decide, by show 2 ≤ 2; decide, _, rfl, iteT ⟨_, rfl, l, _, _, _, rfl, rfl, hs, (rfl : atI [V.str y, V.str z] 0 = some (V.str y)), ?_⟩⟩
      refine ⟨_, 200, rfl, .inl ⟨y, rfl, yl, yt, fun G sG => ⟨_, rfl, iteT ?_⟩⟩⟩
      refine ⟨_, rfl, l, _, _, _, rfl, rfl, stE sG hs, (rfl : atI [V.str y, V.str z] 1 = some (V.str z)), ?_⟩
      exact ⟨_, 200, rfl, .inl ⟨z, rfl, zl, zt, fun G2 s2 => k G2 (sG.trans s2)⟩⟩
    · exact .inr ⟨no, _, rfl, iteF (k H (Same.refl H))⟩
    · refine .inl ⟨l, _, rfl, hs, by show 2 ≤ 2; decide, by show 2 ≤ 2; decide, _, rfl, iteT ⟨_, rfl, l, _, _, _, rfl, rfl, hs, (rfl : atI [a, b] 0 = some a), ?_⟩⟩
      rcases way with nt | ⟨⟨y, rfl, yl, yt⟩, nt⟩
      · exact ⟨a, 200, rfl, .inr ⟨nt, fun G sG => ⟨_, rfl, iteF (k G sG)⟩⟩⟩
      · refine ⟨_, 200, rfl, .inl ⟨y, rfl, yl, yt, fun G sG => ⟨_, rfl, iteT ?_⟩⟩⟩
        refine ⟨_, rfl, l, _, _, _, rfl, rfl, stE sG hs, (rfl : atI [V.str y, b] 1 = some b), ?_⟩
        exact ⟨_, 200, rfl, .inr ⟨nt.same sG, fun G2 s2 => k G2 (sG.trans s2)⟩⟩
def spSeensE (K : PySem.W.Frag) (CX : Addr) : Sp := fun vs H _ E => ∃ v spot : V, vs = [v] ∧ SeensBad K H v spot ∧ Raised CX "index" spot H E
theorem cal_seensE (B : Bi mg) (D : At K mg "check_seen" s_check_seen ps_check_seen) (T_InvalidTexts : ErrK K mg bVE U "InvalidTexts" CX) (S_InvalidTexts : ErrF K "InvalidTexts" "index" CX) (C_is_tuple : Cal P w K mg base 1 "is_tuple" ps_is_tuple (spTup K)) (C_is_seen : Cal P w K mg base 2 "is_seen" ps_is_seen (spSeenB K)) : CalX P w K mg base 3 "check_seen" ps_check_seen (spSeensE K CX) := by
  refine D.calX sc_check_seen (fun vs H Q E h => ?_) (fun f cdv A outer s H vs Q E hr h => ?_)
  · obtain ⟨v, spot, rfl, _⟩ := h
    rfl
  · obtain ⟨v, spot, rfl, ⟨rfl, no⟩ | ⟨l, xs, i, x, rfl, hs, lm, before, hx, bad, rfl⟩, k⟩ := h
    · refine ⟨_, (pss_cons (ps_if (pt_not (pt_val (pe_own C_is_tuple hr (by decide) (by rfl) (pa_cons (pv 0) (pa_cons pe_int (pa_cons (pe_cst B.MOST_TEXTS (by rfl)) pa_nil)))))) (pss_one (ps_raiseE T_InvalidTexts S_InvalidTexts rfl hr (takes_of rfl rfl rfl rfl) (pa_cons pe_non pa_nil) (by rfl))) pss_nil)
      (pss_one (ps_for (passes_of rfl) rfl (pi_enT (by rfl) B.enumerate (pa_cons (pv 0) pa_nil)) (pg_tup rfl (pgs_cons (pg_name (i := 1) sc_check_seen.nd rfl (.inl rfl)) (pgs_cons (pg_name (i := 2) sc_check_seen.nd rfl (.inl rfl)) pgs_nil)))
      (pss_one (ps_if (pt_not (pt_val (pe_own C_is_seen hr (by decide) (by rfl) (pa_cons (pv 2) pa_nil)))) (pss_one (ps_raiseE T_InvalidTexts S_InvalidTexts rfl hr (takes_of rfl rfl rfl rfl) (pa_cons (pv 1) pa_nil) (by rfl))) pss_nil))))), ?_⟩
      exact ⟨_, rfl, v, 0, 20, rfl, .inr ⟨no, _, rfl, iteT ⟨_, rfl, fun d nd => k d _ (same_new nd) upd_same⟩⟩⟩
    · refine ⟨_, (pss_cons (ps_if (pt_not (pt_val (pe_own C_is_tuple hr (by decide) (by rfl) (pa_cons (pv 0) (pa_cons pe_int (pa_cons (pe_cst B.MOST_TEXTS (by rfl)) pa_nil)))))) (pss_one (ps_raiseE T_InvalidTexts S_InvalidTexts rfl hr (takes_of rfl rfl rfl rfl) (pa_cons pe_non pa_nil) (by rfl))) pss_nil)
      (pss_one (ps_for (passes_of rfl) rfl (pi_enT (by rfl) B.enumerate (pa_cons (pv 0) pa_nil)) (pg_tup rfl (pgs_cons (pg_name (i := 1) sc_check_seen.nd rfl (.inl rfl)) (pgs_cons (pg_name (i := 2) sc_check_seen.nd rfl (.inl rfl)) pgs_nil)))
      (pss_one (ps_if (pt_not (pt_val (pe_own C_is_seen hr (by decide) (by rfl) (pa_cons (pv 2) pa_nil)))) (pss_one (ps_raiseE T_InvalidTexts S_InvalidTexts rfl hr (takes_of rfl rfl rfl rfl) (pa_cons (pv 1) pa_nil) (by rfl))) pss_nil))))), ?_⟩
      refine ⟨_, rfl, _, 0, 20, rfl, .inl ⟨l, _, rfl, hs, Nat.zero_le _, lm, _, rfl, iteF ?_⟩⟩
      refine ⟨_, rfl, l, _, rfl, hs, for_it walk_enT (fun j σ J => ∃ u v, σ = [some (.ref l), u, v] ∧ Same H J ∧ j ≤ i) ⟨none, none, rfl, Same.refl H, Nat.zero_le _⟩ (fun i σ J _ ⟨_, _, _, sJ, _⟩ => stE sJ hs) ?_ ?_⟩
      · rintro j y σ J J1 hj ⟨u, v2, rfl, sJ, ji⟩ ⟨T, z, hz, rfl, nT, rfl⟩
        have sT : Same H (upd J T (.tup [.int (j : Nat), z])) := sJ.trans (same_new nT)
        refine ⟨T, _, rfl, .inl (.inl upd_same), rfl, _, _, rfl, _, _, rfl, rfl, ?_⟩
        rcases Nat.lt_or_ge j i with lt | ge
        · exact ⟨_, rfl, _, rfl, .inl ⟨(before j z lt hz).same sT, fun G sG => ⟨_, rfl, iteF ⟨_, _, rfl, sT.trans sG, lt⟩⟩⟩⟩
        · have ej : j = i := by omega
          subst ej
          rw [hx] at hz
          cases hz
          exact ⟨_, rfl, x, rfl, .inr ⟨bad.same sT, fun G sG => ⟨_, rfl, iteT ⟨_, rfl, _, rfl, fun d nd => k d _ ((sT.trans sG).trans (same_new nd)) upd_same⟩⟩⟩⟩
      · rintro σ J ⟨u, v, rfl, sJ, ji⟩
        have := (List.getElem?_eq_some_iff.mp hx).1
        omega
/-! what refuses -/
def spMemX (K : PySem.W.Frag) (CK CM CW : Addr) : Sp := fun vs H _ E => ∃ a m n : V, vs = [a, m, n] ∧ ((NoKind K H a ∧ Raised CK "value" a H E) ∨ ((∃ k : Kd, a = .str k.word) ∧ NoTxt K H 3 m ∧ Raised CM "value" m H E) ∨ ((∃ k : Kd, a = .str k.word) ∧ (∃ z : Str, m = .str z ∧ z.length ≤ 1000 ∧ isTxt z 3 = true ∧ NoNumL K H z.length 40 n) ∧ Raised CW "value" n H E))
theorem cx_member (B : Bi mg) (D : At K mg "member" s_member ps_member) (T_InvalidWidth : ErrK K mg bVE U "InvalidWidth" CW) (S_InvalidWidth : ErrF K "InvalidWidth" "value" CW) (C_is_integer : Cal P w K mg base 1 "is_integer" ps_is_integer (spNumL K)) (CX_check_kind : CalX P w K mg base 1 "check_kind" ps_check_kind (spKindE K CK)) (CX_check_mark : CalX P w K mg base 2 "check_mark" ps_check_mark (spMarkB K CM)) : CalX P w K mg base 3 "member" ps_member (spMemX K CK CM CW) := by
  refine D.calX sc_member (fun vs H Q E h => ?_) (fun f cdv A outer s H vs Q E hr h => ?_)
  · obtain ⟨a, m, n, rfl, _⟩ := h
    rfl
  · obtain ⟨a, m, n, rfl, ⟨no, k⟩ | ⟨⟨kd, rfl⟩, no, k⟩ | ⟨⟨kd, rfl⟩, ⟨z, rfl, zl, zt, no⟩, k⟩⟩ := h
    · refine ⟨_, (pss_cons (ps_expr (pe_ownX CX_check_kind hr (by decide) (takes_of rfl rfl rfl rfl) (fun _ _ _ _ h => h) (by rfl) (pa_cons (pv 0) pa_nil)))
      (pss_cons (ps_expr (pe_ownX CX_check_mark hr (by decide) (takes_of rfl rfl rfl rfl) (fun _ _ _ _ h => h) (by rfl) (pa_cons (pv 1) pa_nil)))
      (pss_cons (ps_if (pt_not (pt_val (pe_own C_is_integer hr (by decide) (by rfl) (pa_cons (pv 2) (pa_cons (pe_callB call_len (by rfl) B.len (by decide +kernel) (pa_cons (pv 1) pa_nil)) (pa_cons (pe_cst B.MOST_SIGNS (by rfl)) pa_nil)))))) (pss_one (ps_raiseE T_InvalidWidth S_InvalidWidth rfl hr (takes_of rfl rfl rfl rfl) (pa_cons (pv 2) pa_nil) (by rfl))) pss_nil)
      pss_never))), ?_⟩
      exact ⟨_, rfl, _, rfl, .inr ⟨no, k⟩⟩
    · refine ⟨_, (pss_cons (ps_expr (pe_ownX CX_check_kind hr (by decide) (takes_of rfl rfl rfl rfl) (fun _ _ _ _ h => h) (by rfl) (pa_cons (pv 0) pa_nil)))
      (pss_cons (ps_expr (pe_ownX CX_check_mark hr (by decide) (takes_of rfl rfl rfl rfl) (fun _ _ _ _ h => h) (by rfl) (pa_cons (pv 1) pa_nil)))
      (pss_cons (ps_if (pt_not (pt_val (pe_own C_is_integer hr (by decide) (by rfl) (pa_cons (pv 2) (pa_cons (pe_callB call_len (by rfl) B.len (by decide +kernel) (pa_cons (pv 1) pa_nil)) (pa_cons (pe_cst B.MOST_SIGNS (by rfl)) pa_nil)))))) (pss_one (ps_raiseE T_InvalidWidth S_InvalidWidth rfl hr (takes_of rfl rfl rfl rfl) (pa_cons (pv 2) pa_nil) (by rfl))) pss_nil)
      pss_never))), ?_⟩
      exact ⟨_, rfl, _, rfl, .inl ⟨kd, rfl, _, rfl, _, rfl, .inr ⟨no, k⟩⟩⟩
    · refine ⟨_, (pss_cons (ps_expr (pe_ownX CX_check_kind hr (by decide) (takes_of rfl rfl rfl rfl) (fun _ _ _ _ h => h) (by rfl) (pa_cons (pv 0) pa_nil)))
      (pss_cons (ps_expr (pe_ownX CX_check_mark hr (by decide) (takes_of rfl rfl rfl rfl) (fun _ _ _ _ h => h) (by rfl) (pa_cons (pv 1) pa_nil)))
      (pss_cons (ps_if (pt_not (pt_val (pe_own C_is_integer hr (by decide) (by rfl) (pa_cons (pv 2) (pa_cons (pe_callB call_len (by rfl) B.len (by decide +kernel) (pa_cons (pv 1) pa_nil)) (pa_cons (pe_cst B.MOST_SIGNS (by rfl)) pa_nil)))))) (pss_one (ps_raiseE T_InvalidWidth S_InvalidWidth rfl hr (takes_of rfl rfl rfl rfl) (pa_cons (pv 2) pa_nil) (by rfl))) pss_nil)
      pss_never))), ?_⟩
      exact ⟨_, rfl, _, rfl, .inl ⟨kd, rfl, _, rfl, _, rfl, .inl ⟨⟨z, rfl, zl, zt⟩, fun G s => ⟨_, rfl, _, rfl, _, _, rfl, ⟨Nat.le_of_lt (small1000 (by omega)), rfl⟩, _, _, _, rfl, no.same s, _, rfl, iteT ⟨_, rfl, n, rfl, fun d nd => k d _ (s.trans (same_new nd)) upd_same⟩⟩⟩⟩⟩
def spWX (K : PySem.W.Frag) (CK CM CX : Addr) : Sp := fun vs H _ E => ∃ a m t : V, vs = [a, m, t] ∧ ((NoKind K H a ∧ Raised CK "value" a H E) ∨ ((∃ k : Kd, a = .str k.word) ∧ NoTxt K H 3 m ∧ Raised CM "value" m H E) ∨ ((∃ k : Kd, a = .str k.word) ∧ MarkOk m ∧ ∃ spot, TextsBad K H 20 t spot ∧ Raised CX "index" spot H E))
theorem cx_widths (B : Bi mg) (D : At K mg "widths" s_widths ps_widths) (CX_check_kind : CalX P w K mg base 1 "check_kind" ps_check_kind (spKindE K CK)) (CX_check_mark : CalX P w K mg base 2 "check_mark" ps_check_mark (spMarkB K CM)) (CX_check_texts : CalX P w K mg base 2 "check_texts" ps_check_texts (spTextsE K CX)) : CalX P w K mg base 3 "widths" ps_widths (spWX K CK CM CX) := by
  refine D.calX sc_widths (fun vs H Q E h => ?_) (fun f cdv A outer s H vs Q E hr h => ?_)
  · obtain ⟨a, m, t, rfl, _⟩ := h
    rfl
  · obtain ⟨a, m, t, rfl, ⟨no, k⟩ | ⟨⟨kd, rfl⟩, no, k⟩ | ⟨⟨kd, rfl⟩, mk, spot, bad, k⟩⟩ := h
    · refine ⟨_, (pss_cons (ps_expr (pe_ownX CX_check_kind hr (by decide) (takes_of rfl rfl rfl rfl) (fun _ _ _ _ h => h) (by rfl) (pa_cons (pv 0) pa_nil)))
      (pss_cons (ps_expr (pe_ownX CX_check_mark hr (by decide) (takes_of rfl rfl rfl rfl) (fun _ _ _ _ h => h) (by rfl) (pa_cons (pv 1) pa_nil)))
      (pss_cons (ps_expr (pe_ownX CX_check_texts hr (by decide) (takes_of rfl rfl rfl rfl) (fun _ _ _ _ h => h) (by rfl) (pa_cons (pv 2) (pa_cons (pe_cst B.MOST_TEXTS (by rfl)) pa_nil))))
      pss_never))), ?_⟩
      exact ⟨_, rfl, _, rfl, .inr ⟨no, k⟩⟩
    · refine ⟨_, (pss_cons (ps_expr (pe_ownX CX_check_kind hr (by decide) (takes_of rfl rfl rfl rfl) (fun _ _ _ _ h => h) (by rfl) (pa_cons (pv 0) pa_nil)))
      (pss_cons (ps_expr (pe_ownX CX_check_mark hr (by decide) (takes_of rfl rfl rfl rfl) (fun _ _ _ _ h => h) (by rfl) (pa_cons (pv 1) pa_nil)))
      (pss_cons (ps_expr (pe_ownX CX_check_texts hr (by decide) (takes_of rfl rfl rfl rfl) (fun _ _ _ _ h => h) (by rfl) (pa_cons (pv 2) (pa_cons (pe_cst B.MOST_TEXTS (by rfl)) pa_nil))))
      pss_never))), ?_⟩
      exact ⟨_, rfl, _, rfl, .inl ⟨kd, rfl, _, rfl, _, rfl, .inr ⟨no, k⟩⟩⟩
    · refine ⟨_, (pss_cons (ps_expr (pe_ownX CX_check_kind hr (by decide) (takes_of rfl rfl rfl rfl) (fun _ _ _ _ h => h) (by rfl) (pa_cons (pv 0) pa_nil)))
      (pss_cons (ps_expr (pe_ownX CX_check_mark hr (by decide) (takes_of rfl rfl rfl rfl) (fun _ _ _ _ h => h) (by rfl) (pa_cons (pv 1) pa_nil)))
      (pss_cons (ps_expr (pe_ownX CX_check_texts hr (by decide) (takes_of rfl rfl rfl rfl) (fun _ _ _ _ h => h) (by rfl) (pa_cons (pv 2) (pa_cons (pe_cst B.MOST_TEXTS (by rfl)) pa_nil))))
      pss_never))), ?_⟩
      exact ⟨_, rfl, _, rfl, .inl ⟨kd, rfl, _, rfl, _, rfl, .inl ⟨mk, fun G s => ⟨_, rfl, t, 20, rfl, .inr ⟨spot, bad.same s, k.same s⟩⟩⟩⟩⟩
theorem cx_narrowest (B : Bi mg) (D : At K mg "narrowest" s_narrowest ps_narrowest) (CX_widths : CalX P w K mg base 3 "widths" ps_widths (spWX K CK CM CX)) : CalX P w K mg base 4 "narrowest" ps_narrowest (spWX K CK CM CX) := by
  refine D.calX sc_narrowest (fun vs H Q E h => ?_) (fun f cdv A outer s H vs Q E hr h => ?_)
  · obtain ⟨a, m, t, rfl, _⟩ := h
    rfl
  · obtain ⟨a, m, t, rfl, way⟩ := h
    refine ⟨_, (pss_cons (ps_set (i := 3) sc_narrowest.nd rfl (.inl rfl) (pe_ownX CX_widths hr (by decide) (takes_of rfl rfl rfl rfl) (fun _ _ _ _ h => h) (by rfl) (pa_cons (pv 0) (pa_cons (pv 1) (pa_cons (pv 2) pa_nil)))))
      pss_never), ?_⟩
    exact ⟨_, rfl, _, rfl, _, rfl, a, m, t, rfl, way⟩
def spGX (K : PySem.W.Frag) (C CR CX : Addr) : Sp := fun vs H _ E => ∃ v t : V, vs = [v, t] ∧ ((∃ spot, RowBad K C H v spot ∧ Raised CR "index" spot H E) ∨ (RowOk C H v ∧ ∃ spot, TextsBad K H 20 t spot ∧ Raised CX "index" spot H E))
theorem cx_groups (B : Bi mg) (D : At K mg "groups" s_groups ps_groups) (CX_check_row : CalX P w K mg base 2 "check_row" ps_check_row (spRowE K C CR)) (CX_check_texts : CalX P w K mg base 2 "check_texts" ps_check_texts (spTextsE K CX)) : CalX P w K mg base 3 "groups" ps_groups (spGX K C CR CX) := by
  refine D.calX sc_groups (fun vs H Q E h => ?_) (fun f cdv A outer s H vs Q E hr h => ?_)
  · obtain ⟨v, t, rfl, _⟩ := h
    rfl
  · obtain ⟨v, t, rfl, ⟨spot, bad, k⟩ | ⟨ok, spot, bad, k⟩⟩ := h
    · refine ⟨_, (pss_cons (ps_expr (pe_ownX CX_check_row hr (by decide) (takes_of rfl rfl rfl rfl) (fun _ _ _ _ h => h) (by rfl) (pa_cons (pv 0) pa_nil)))
      (pss_cons (ps_expr (pe_ownX CX_check_texts hr (by decide) (takes_of rfl rfl rfl rfl) (fun _ _ _ _ h => h) (by rfl) (pa_cons (pv 1) (pa_cons (pe_cst B.MOST_TEXTS (by rfl)) pa_nil))))
      pss_never)), ?_⟩
      exact ⟨_, rfl, v, rfl, .inr ⟨spot, bad, k⟩⟩
    · refine ⟨_, (pss_cons (ps_expr (pe_ownX CX_check_row hr (by decide) (takes_of rfl rfl rfl rfl) (fun _ _ _ _ h => h) (by rfl) (pa_cons (pv 0) pa_nil)))
      (pss_cons (ps_expr (pe_ownX CX_check_texts hr (by decide) (takes_of rfl rfl rfl rfl) (fun _ _ _ _ h => h) (by rfl) (pa_cons (pv 1) (pa_cons (pe_cst B.MOST_TEXTS (by rfl)) pa_nil))))
      pss_never)), ?_⟩
      exact ⟨_, rfl, v, rfl, .inl ⟨ok, fun G s => ⟨_, rfl, t, 20, rfl, .inr ⟨spot, bad.same s, k.same s⟩⟩⟩⟩
theorem cx_tells (B : Bi mg) (D : At K mg "tells_apart" s_tells_apart ps_tells_apart) (CX_check_row : CalX P w K mg base 2 "check_row" ps_check_row (spRowE K C CR)) (CX_check_texts : CalX P w K mg base 2 "check_texts" ps_check_texts (spTextsE K CX)) : CalX P w K mg base 3 "tells_apart" ps_tells_apart (spGX K C CR CX) := by
  refine D.calX sc_tells_apart (fun vs H Q E h => ?_) (fun f cdv A outer s H vs Q E hr h => ?_)
  · obtain ⟨v, t, rfl, _⟩ := h
    rfl
  · obtain ⟨v, t, rfl, ⟨spot, bad, k⟩ | ⟨ok, spot, bad, k⟩⟩ := h
    · refine ⟨_, (pss_cons (ps_expr (pe_ownX CX_check_row hr (by decide) (takes_of rfl rfl rfl rfl) (fun _ _ _ _ h => h) (by rfl) (pa_cons (pv 0) pa_nil)))
      (pss_cons (ps_expr (pe_ownX CX_check_texts hr (by decide) (takes_of rfl rfl rfl rfl) (fun _ _ _ _ h => h) (by rfl) (pa_cons (pv 1) (pa_cons (pe_cst B.MOST_TEXTS (by rfl)) pa_nil))))
      pss_never)), ?_⟩
      exact ⟨_, rfl, v, rfl, .inr ⟨spot, bad, k⟩⟩
    · refine ⟨_, (pss_cons (ps_expr (pe_ownX CX_check_row hr (by decide) (takes_of rfl rfl rfl rfl) (fun _ _ _ _ h => h) (by rfl) (pa_cons (pv 0) pa_nil)))
      (pss_cons (ps_expr (pe_ownX CX_check_texts hr (by decide) (takes_of rfl rfl rfl rfl) (fun _ _ _ _ h => h) (by rfl) (pa_cons (pv 1) (pa_cons (pe_cst B.MOST_TEXTS (by rfl)) pa_nil))))
      pss_never)), ?_⟩
      exact ⟨_, rfl, v, rfl, .inl ⟨ok, fun G s => ⟨_, rfl, t, 20, rfl, .inr ⟨spot, bad.same s, k.same s⟩⟩⟩⟩
def spFX (K : PySem.W.Frag) (CM CX : Addr) : Sp := fun vs H _ E => ∃ m t : V, vs = [m, t] ∧ ((NoTxt K H 3 m ∧ Raised CM "value" m H E) ∨ (MarkOk m ∧ ∃ spot, SeensBad K H t spot ∧ Raised CX "index" spot H E))
theorem cx_fitting (B : Bi mg) (D : At K mg "fitting" s_fitting ps_fitting) (CX_check_mark : CalX P w K mg base 2 "check_mark" ps_check_mark (spMarkB K CM)) (CX_check_seen : CalX P w K mg base 3 "check_seen" ps_check_seen (spSeensE K CX)) : CalX P w K mg base 4 "fitting" ps_fitting (spFX K CM CX) := by
  refine D.calX sc_fitting (fun vs H Q E h => ?_) (fun f cdv A outer s H vs Q E hr h => ?_)
  · obtain ⟨m, t, rfl, _⟩ := h
    rfl
  · obtain ⟨m, t, rfl, ⟨no, k⟩ | ⟨mk, spot, bad, k⟩⟩ := h
    · refine ⟨_, (pss_cons (ps_expr (pe_ownX CX_check_mark hr (by decide) (takes_of rfl rfl rfl rfl) (fun _ _ _ _ h => h) (by rfl) (pa_cons (pv 0) pa_nil)))
      (pss_cons (ps_expr (pe_ownX CX_check_seen hr (by decide) (takes_of rfl rfl rfl rfl) (fun _ _ _ _ h => h) (by rfl) (pa_cons (pv 1) pa_nil)))
      pss_never)), ?_⟩
      exact ⟨_, rfl, m, rfl, .inr ⟨no, k⟩⟩
    · refine ⟨_, (pss_cons (ps_expr (pe_ownX CX_check_mark hr (by decide) (takes_of rfl rfl rfl rfl) (fun _ _ _ _ h => h) (by rfl) (pa_cons (pv 0) pa_nil)))
      (pss_cons (ps_expr (pe_ownX CX_check_seen hr (by decide) (takes_of rfl rfl rfl rfl) (fun _ _ _ _ h => h) (by rfl) (pa_cons (pv 1) pa_nil)))
      pss_never)), ?_⟩
      exact ⟨_, rfl, m, rfl, .inl ⟨mk, fun G s => ⟨_, rfl, t, spot, rfl, bad.same s, k.same s⟩⟩⟩
end
end Gu
namespace Gu
open PySem PySem.Spec PyProof.Rows L2 LamX
/-! ### what is seen and what is due, side by side -/
theorem KeepP.sh {p x C : Addr} {H G : Hp} {r : Rec} (h : ShAt C H x r) (hp : Pot H p) (k : KeepP p H G) : ShAt C G x r := by
  obtain ⟨dx, b, h1, h2⟩ := h
  exact ⟨dx, b, k.ins hp h1, k.tup hp h2⟩
theorem row_new {C a : Addr} {H : Hp} {l : List (Addr × Rec)} (n : H a = none) (h : ∀ q ∈ l, ShAt C H q.1 q.2 ∧ q.2.fit) : RowAt C (upd H a (.tup (l.map fun q => V.ref q.1))) a l := ⟨upd_same, fun q hq => ⟨(h q hq).1.same (same_new n), (h q hq).2⟩⟩
theorem refs_ne {J : Hp} {S q : Addr} {N : Str} {ys : List V} {qs : List (Addr × Str × V)} (hS : J S = some (.lst (qs.map fun q => V.ref q.1))) (e : J q = some (.lst (.str N :: ys))) : q ≠ S := fun z => by
  rw [z, hS] at e
  cases qs with
  | nil => cases e
  | cons a l => cases e
theorem SeenAt.off {p S D : Addr} {J : Hp} {qs rs : List (Addr × Str × V)} {o : HO} (h : SeenAt p J D qs) (hS : J S = some (.lst (rs.map fun q => V.ref q.1))) (ne : S ≠ D) : SeenAt p (upd J S o) D qs := by
  refine ⟨by rw [upd_ne (Ne.symm ne)]; exact h.ls, h.ne, fun q hq => ⟨?_, (h.el q hq).2⟩⟩
  rw [upd_ne (refs_ne hS (h.el q hq).1)]
  exact (h.el q hq).1
structure Two (T : List (Addr × Str)) (p : Addr) (G J : Hp) (S D l : Addr) (fl : List V) (us vs : List (Str × V)) : Prop where
  lad : LadT T p G J
  fs : S ≠ p ∧ ∀ o, G S = some o → ∃ ps, o = .tbl ps
  fd : D ≠ p ∧ ∀ o, G D = some o → ∃ ps, o = .tbl ps
  ne : S ≠ D
  seen : ∃ qs : List (Addr × Str × V), qs.map (·.2) = us ∧ SeenAt p J S qs
  due : ∃ qs : List (Addr × Str × V), qs.map (·.2) = vs ∧ SeenAt p J D qs
  ll : J l = some (.lst fl)
  lp : l ≠ p
  lS : l ≠ S
  lD : l ≠ D
section
variable {T : List (Addr × Str)} {p S D l : Addr} {G J I : Hp} {fl : List V} {us vs : List (Str × V)}
theorem Two.kp (h : Two T p G J S D l fl us vs) : KeepP p G J := h.lad.kp
theorem Two.keep (h : Two T p G J S D l fl us vs) (L : LadT T p J I) : Two T p G I S D l fl us vs := by
  obtain ⟨q1, a1, b1⟩ := h.seen
  obtain ⟨q2, a2, b2⟩ := h.due
  exact ⟨h.lad.trans L, h.fs, h.fd, h.ne, ⟨q1, a1, b1.keep h.lad.pot L.kp⟩, ⟨q2, a2, b2.keep h.lad.pot L.kp⟩, L.kp.lst h.lp h.ll, h.lp, h.lS, h.lD⟩
theorem Two.same (h : Two T p G J S D l fl us vs) (s : Same J I) : Two T p G I S D l fl us vs := h.keep ((LadT.refl h.lad.pot h.lad.tabs h.lad.sys).same s)
theorem Two.lsS (h : Two T p G J S D l fl us vs) : ∃ xs : List V, J S = some (.lst xs) ∧ xs.length = us.length := by
  obtain ⟨q1, a1, b1⟩ := h.seen
  exact ⟨_, b1.ls, by rw [List.length_map, ← a1, List.length_map]⟩
theorem Two.lsD (h : Two T p G J S D l fl us vs) : ∃ xs : List V, J D = some (.lst xs) ∧ xs.length = vs.length := by
  obtain ⟨q1, a1, b1⟩ := h.due
  exact ⟨_, b1.ls, by rw [List.length_map, ← a1, List.length_map]⟩
/-- an answer is added to what is seen -/
theorem Two.say (h : Two T p G J S D l fl us vs) {q : Addr} {N : Str} {v : V} {xs : List V} (e : J q = some (.lst [.str N, v, .bl true])) (ex : J S = some (.lst xs)) : Two T p G (upd J S (.lst (xs ++ [.ref q]))) S D l fl (us ++ [(N, v)]) vs := by
  obtain ⟨q1, a1, b1⟩ := h.seen
  obtain ⟨q2, a2, b2⟩ := h.due
  cases ex.symm.trans b1.ls
  exact ⟨h.lad.mut h.fs ex, h.fs, h.fd, h.ne, ⟨_, by rw [List.map_append, a1]; rfl, b1.more e (refs_ne b1.ls e)⟩, ⟨q2, a2, b2.off b1.ls h.ne⟩, by rw [upd_ne h.lS]; exact h.ll, h.lp, h.lS, h.lD⟩
/-- an answer is added to what is due -/
theorem Two.owe (h : Two T p G J S D l fl us vs) {q : Addr} {N : Str} {v : V} {xs : List V} (e : J q = some (.lst [.str N, v, .bl true])) (ex : J D = some (.lst xs)) : Two T p G (upd J D (.lst (xs ++ [.ref q]))) S D l fl us (vs ++ [(N, v)]) := by
  obtain ⟨q1, a1, b1⟩ := h.seen
  obtain ⟨q2, a2, b2⟩ := h.due
  cases ex.symm.trans b2.ls
  exact ⟨h.lad.mut h.fd ex, h.fs, h.fd, h.ne, ⟨q1, a1, b1.off b2.ls (Ne.symm h.ne)⟩, ⟨_, by rw [List.map_append, a2]; rfl, b2.more e (refs_ne b2.ls e)⟩, by rw [upd_ne h.lD]; exact h.ll, h.lp, h.lS, h.lD⟩
/-- what is due is made anew, with two more -/
theorem Two.owed (h : Two T p G J S D l fl us vs) {E w1 w2 : Addr} {N1 N2 : Str} {v1 v2 : V} {xs : List V} (e1 : J w1 = some (.lst [.str N1, v1, .bl true])) (e2 : J w2 = some (.lst [.str N2, v2, .bl true])) (ex : J D = some (.lst xs)) (n : J E = none) :
    Two T p G (upd J E (.lst (xs ++ [.ref w1, .ref w2]))) S E l fl us (vs ++ [(N1, v1), (N2, v2)]) := by
  have s : Same J (upd J E (.lst (xs ++ [.ref w1, .ref w2]))) := same_new n
  have K := h.same s
  obtain ⟨q1, a1, b1⟩ := K.seen
  obtain ⟨q2, a2, b2⟩ := h.due
  cases ex.symm.trans b2.ls
  have nS : S ≠ E := by
    obtain ⟨q, _, b⟩ := h.seen
    exact ne_of_none b.ls n
  refine ⟨K.lad, h.fs, h.lad.free n, nS, ⟨q1, a1, b1⟩, ⟨q2 ++ [(w1, N1, v1), (w2, N2, v2)], by rw [List.map_append, a2]; rfl, ?_⟩, K.ll, h.lp, h.lS, ne_of_none h.ll n⟩
  refine ⟨by rw [upd_same, List.map_append]; rfl, h.lad.pot.ne n, fun r hr => ?_⟩
  rcases List.mem_append.mp hr with hr | hr
  · exact ⟨s _ _ (b2.el r hr).1, ne_of_none (b2.el r hr).1 n⟩
  · simp only [List.mem_cons, List.not_mem_nil, or_false] at hr
    rcases hr with rfl | rfl
    · exact ⟨s _ _ e1, ne_of_none e1 n⟩
    · exact ⟨s _ _ e2, ne_of_none e2 n⟩
/-- another list stands by -/
theorem Two.swap (h : Two T p G J S D l fl us vs) {l2 : Addr} {f2 : List V} (n : J l2 = none) : Two T p G (upd J l2 (.lst f2)) S D l2 f2 us vs := by
  have K := h.same (same_new n (o := .lst f2))
  obtain ⟨xs, eS, _⟩ := h.lsS
  obtain ⟨ys, eD, _⟩ := h.lsD
  exact ⟨K.lad, h.fs, h.fd, h.ne, K.seen, K.due, upd_same, h.lad.pot.ne n, Ne.symm (ne_of_none eS n), Ne.symm (ne_of_none eD n)⟩
/-- nothing is seen yet, nothing is due -/
theorem Two.none {S D l : Addr} (L : LadT T p G J) (nS : J S = .none) (nD : upd J S (.lst []) D = .none) (nl : upd (upd J S (.lst [])) D (.lst []) l = .none) : Two T p G (upd (upd (upd J S (.lst [])) D (.lst [])) l (.lst fl)) S D l fl [] [] := by
  have s1 : Same J (upd J S (.lst [])) := same_new nS
  have s2 : Same (upd J S (.lst [])) (upd (upd J S (.lst [])) D (.lst [])) := same_new nD
  have s3 : Same (upd (upd J S (.lst [])) D (.lst [])) (upd (upd (upd J S (.lst [])) D (.lst [])) l (.lst fl)) := same_new nl
  have L1 := L.same s1
  have L2 := L1.same s2
  have L3 := L2.same s3
  have z1 := (SeenAt.none L.pot nS).keep L1.pot (KeepP.ofSame (s2.trans s3))
  have z2 := (SeenAt.none L1.pot nD).keep L2.pot (KeepP.ofSame s3)
  have ne : S ≠ D := ne_of_none (upd_same : upd J S (.lst []) S = _) nD
  exact ⟨L3, L.free nS, L1.free nD, ne, ⟨[], rfl, z1⟩, ⟨[], rfl, z2⟩, upd_same, L2.pot.ne nl, Ne.symm (ne_of_none (s2 _ _ upd_same) nl), Ne.symm (ne_of_none (upd_same : upd (upd J S (.lst [])) D (.lst []) D = _) nl)⟩
theorem Two.dataS {K : PySem.W.Frag} (h : Two T p G J S D l fl us vs) {ds : List PyData} (all : DpEs K J (us.map (·.2)) ds) : DpE K J (.ref S) (.list ((us.zip ds).map fun x => said x.1.1 x.2)) := by
  obtain ⟨q1, a1, b1⟩ := h.seen
  subst a1
  have z := seen_data b1 (ds := ds) (by rw [List.map_map] at all; exact all)
  have e : (q1.zip ds).map (fun x => PyData.list [.str x.1.2.1, x.2, .bool true]) = ((q1.map (·.2)).zip ds).map fun x => said x.1.1 x.2 := by
    rw [List.zip_map_left, List.map_map]
    rfl
  rw [← e]
  exact z
theorem Two.dataD {K : PySem.W.Frag} (h : Two T p G J S D l fl us vs) {ds : List PyData} (all : DpEs K J (vs.map (·.2)) ds) : DpE K J (.ref D) (.list ((vs.zip ds).map fun x => said x.1.1 x.2)) := by
  obtain ⟨q1, a1, b1⟩ := h.due
  subst a1
  have z := seen_data b1 (ds := ds) (by rw [List.map_map] at all; exact all)
  have e : (q1.zip ds).map (fun x => PyData.list [.str x.1.2.1, x.2, .bool true]) = ((q1.map (·.2)).zip ds).map fun x => said x.1.1 x.2 := by
    rw [List.zip_map_left, List.map_map]
    rfl
  rw [← e]
  exact z
/-- f(lambda: what surely raises) -/
theorem lam_raise {hs : List (Str × Str × Addr)} {C : Addr} {N Fl : Str} {v : V} {t : XK → TE} {σ : L2.St} {H : Hp} {Q : VK} (m : (N, Fl, C) ∈ hs) (L : LadT T p H H) (k : ∀ q J, LadT T p H J → J q = some (.lst [.str N, v, .bl true]) → Q (.ref q) J)
    (go : ∀ (E : XK) (H1 : Hp), LadT T p H H1 → Raised C Fl v H1 E → t E σ H1 fun _ _ => False) : tLam T (TEnd hs) t σ H Q := by
  refine ⟨L.tabs, fun H1 e1 t1 => ?_⟩
  have L1 : LadT T p H H1 := L.ext e1 t1
  refine ⟨fun cls d G => ∃ dd : Addr, cls = .ref C ∧ d = some dd ∧ LadT T p H G ∧ G dd = some (.xd [(Fl, v)]), fun _ _ => False, go _ H1 L1 fun d G s e => ⟨d, rfl, rfl, L1.same s, e⟩, fun cls d G ⟨dd, h1, h3, h4, h5⟩ => ⟨N, Fl, C, dd, v, m, h1, h3, h5, fun q J s e => k q J (h4.same s) e⟩, fun _ _ z => z.elim⟩
end
end Gu
namespace Gu
open PySem PySem.Spec PyProof.Rows L2 LamX
/-! ### what is seen, by itself -/
abbrev one05 : Rec := ⟨3, 2, 1, ("~" : String)⟩
theorem one05_fit : one05.fit := ⟨⟨by decide, by decide⟩, ⟨by decide, by decide⟩, ⟨by decide, by decide⟩, by decide +kernel⟩
theorem a201 {y : Str} (h : y.cps.toList = (List.replicate (201 : Int).toNat ("a" : Str).cps.toList).flatten) : y = ⟨(List.replicate 201 97).toArray⟩ := str_ext (by rw [h]; decide +kernel)
theorem a200 {y : Str} (h : y.cps.toList = (List.replicate (200 : Int).toNat ("a" : Str).cps.toList).flatten) : y = ⟨(List.replicate 200 97).toArray⟩ := str_ext (by rw [h]; decide +kernel)
theorem pot_neL {H : Hp} {p q : Addr} {xs : List V} (h : Pot H p) (e : H q = some (.lst xs)) (l : xs.length ≠ 3) : q ≠ p := fun y => by
  obtain ⟨a, b, c, f⟩ := h
  rw [← y, e] at f
  cases f
  exact l rfl
theorem pot_neR {H : Hp} {p q r : Addr} {xs : List V} (h : Pot H p) (e : H q = some (.lst (.ref r :: xs))) : q ≠ p := fun y => by
  obtain ⟨a, b, c, f⟩ := h
  rw [← y, e] at f
  cases f
def SpotOk (v : V) : Prop := v = .non ∨ ∃ n : Nat, n < 3 ∧ v = .int (n : Int)
/-- a pair of something wrong, and of the place that is due -/
def BadP (R : Hp → V → V → Prop) (p : Addr) (H : Hp) (t : Addr) : Prop := ∃ v spot : V, H t = some (.tup [v, spot]) ∧ SpotOk spot ∧ ∀ J, KeepP p H J → R J v spot
theorem BadP.keep {R : Hp → V → V → Prop} {p t : Addr} {H G : Hp} (h : BadP R p H t) (hp : Pot H p) (k : KeepP p H G) : BadP R p G t := by
  obtain ⟨v, spot, e, o, b⟩ := h
  exact ⟨v, spot, k.tup hp e, o, fun J kp => b J (k.trans kp)⟩
theorem spot_thing {K : PySem.W.Frag} {p : Addr} {H : Hp} {v : V} (h : SpotOk v) : ∃ d, Thing K p H v d fun _ _ => True := by
  rcases h with rfl | ⟨n, h, rfl⟩
  · exact th_non fun _ => trivial
  · exact th_int (by omega) fun _ => trivial
theorem bef1 {P : V → Prop} {a b : V} {l : List V} (h : P a) : ∀ j y, j < 1 → (a :: b :: l)[j]? = some y → P y := fun j y hj hy => by
  obtain rfl : j = 0 := by omega
  cases hy
  exact h
theorem bef2 {P : V → Prop} {a b : V} {l : List V} (h : P a) (g : P b) : ∀ j y, j < 2 → (a :: b :: l)[j]? = some y → P y := fun j y hj hy => by
  match j, hj with
  | 0, _ => cases hy; exact h
  | 1, _ => cases hy; exact g
theorem row1_ok {C a x : Addr} {J : Hp} (e : J a = some (.tup [.ref x])) (h : ShAt C J x one05) : RowOk C J (.ref a) := ⟨a, [(x, one05)], rfl, ⟨e, fun q hq => by
  rw [List.mem_singleton.mp hq]
  exact ⟨h, one05_fit⟩⟩, by show 1 ≤ 1; decide, by show 1 ≤ 4; decide⟩
theorem row1_at {C a x : Addr} {J : Hp} {r : Rec} (e : J a = some (.tup [.ref x])) (h : ShAt C J x r) (f : r.fit) : RowAt C J a [(x, r)] := ⟨e, fun q hq => by
  rw [List.mem_singleton.mp hq]
  exact ⟨h, f⟩⟩
structure One (T : List (Addr × Str)) (p : Addr) (G J : Hp) (S : Addr) (us : List (Str × V)) : Prop where
  lad : LadT T p G J
  fs : S ≠ p ∧ ∀ o, G S = some o → ∃ ps, o = .tbl ps
  seen : ∃ qs : List (Addr × Str × V), qs.map (·.2) = us ∧ SeenAt p J S qs
section
variable {T : List (Addr × Str)} {p S : Addr} {G J I : Hp} {us : List (Str × V)}
theorem One.kp (h : One T p G J S us) : KeepP p G J := h.lad.kp
theorem One.first {q : Addr} {N : Str} {v : V} (L : LadT T p G J) (nS : J S = none) (e : J q = some (.lst [.str N, v, .bl true])) : One T p G (upd J S (.lst [.ref q])) S [(N, v)] := ⟨L.same (same_new nS), L.free nS, _, rfl, SeenAt.first L.pot nS e⟩
theorem One.none (L : LadT T p G J) (nS : J S = none) : One T p G (upd J S (.lst [])) S [] := ⟨L.same (same_new nS), L.free nS, [], rfl, SeenAt.none L.pot nS⟩
theorem One.keep (h : One T p G J S us) (L : LadT T p J I) : One T p G I S us := by
  obtain ⟨q1, a1, b1⟩ := h.seen
  exact ⟨h.lad.trans L, h.fs, q1, a1, b1.keep h.lad.pot L.kp⟩
theorem One.same (h : One T p G J S us) (s : Same J I) : One T p G I S us := h.keep ((LadT.refl h.lad.pot h.lad.tabs h.lad.sys).same s)
theorem One.lsS (h : One T p G J S us) : ∃ xs : List V, J S = some (.lst xs) ∧ xs.length = us.length := by
  obtain ⟨q1, a1, b1⟩ := h.seen
  exact ⟨_, b1.ls, by rw [List.length_map, ← a1, List.length_map]⟩
theorem seenOne_ne {J : Hp} {S q : Addr} {N : Str} {ys : List V} {qs : List (Addr × Str × V)} (hS : J S = some (.lst (qs.map fun q => V.ref q.1))) (e : J q = some (.lst (.str N :: ys))) : q ≠ S := fun z => by
  rw [z, hS] at e
  cases qs with
  | nil => cases e
  | cons a l => cases e
theorem One.say (h : One T p G J S us) {q : Addr} {N : Str} {v : V} {xs : List V} (e : J q = some (.lst [.str N, v, .bl true])) (ex : J S = some (.lst xs)) : One T p G (upd J S (.lst (xs ++ [.ref q]))) S (us ++ [(N, v)]) := by
  obtain ⟨q1, a1, b1⟩ := h.seen
  cases ex.symm.trans b1.ls
  exact ⟨h.lad.mut h.fs ex, h.fs, _, by rw [List.map_append, a1]; rfl, b1.more e (seenOne_ne b1.ls e)⟩
theorem One.data {K : PySem.W.Frag} (h : One T p G J S us) {ds : List PyData} (all : DpEs K J (us.map (·.2)) ds) : DpE K J (.ref S) (.list ((us.zip ds).map fun x => said x.1.1 x.2)) := by
  obtain ⟨q1, a1, b1⟩ := h.seen
  subst a1
  have z := seen_data b1 (ds := ds) (by rw [List.map_map] at all; exact all)
  have e : (q1.zip ds).map (fun x => PyData.list [.str x.1.2.1, x.2, .bool true]) = ((q1.map (·.2)).zip ds).map fun x => said x.1.1 x.2 := by
    rw [List.zip_map_left, List.map_map]
    rfl
  rw [← e]
  exact z
end
end Gu
namespace Gu
open PySem PySem.Spec PyProof.Rows L2 LamX
theorem kit_tyR {K : PySem.W.Frag} {C : Addr} {b : Bool} (h : PySem.W.mroIn K C (.type "tuple") = some b) : PySem.W.kitOne K (.ref C) (.type "tuple") = some b := by
  unfold PySem.W.kitOne
  rw [if_neg (fun z => by have y := eq_of_beq z; cases y)]
  show (if PySem.W.kitMeta "tuple" = true then PySem.W.mroIn K C (.type "tuple") else none) = some b
  rw [if_pos (by decide +kernel)]
  exact h
theorem isa_insT {K : PySem.W.Frag} {mg : Str → Option Value} {C : Addr} (S : ShC K mg C) (Z : ShX K C) {H : Hp} {x dx : Addr} {fs : List (Str × V)} (e : H x = some (.ins C dx fs)) : Isa K H (.ref x) "tuple" false := ⟨_, .base (.ins e S.cl S.ha S.hn S.ht S.hm), kit_tyR Z.nt⟩
end Gu
namespace Gu
open PySem PySem.Spec PyProof.Rows L2
/-! text * int, however often -/
def rRepN : R2 := fun x y H Q => ∃ z k, x = .str z ∧ y = .int k ∧ 0 ≤ k ∧ k ≤ 1000 ∧ z.length ≤ 1000 ∧ ∀ y : Str, y.cps.toList = (List.replicate k.toNat z.cps.toList).flatten → Q (.str y) H
theorem fold_repN (z : Array Nat) : ∀ (k : Nat) (acc : Array Nat), ((List.replicate k z).foldl (· ++ ·) acc).toList = acc.toList ++ (List.replicate k z.toList).flatten
  | 0, acc => by simp
  | k + 1, acc => by
    rw [List.replicate_succ, List.foldl_cons, fold_repN z k, List.replicate_succ, List.flatten_cons, Array.toList_append, List.append_assoc]
theorem op_mul_strN {X : Cx} : OpR X (binaryOp .Mult) rRepN := by
  intro pins s σ H x y v u Q I rx ry h
  obtain ⟨z, k, rfl, rfl, k0, k1, z1, q⟩ := h
  obtain ⟨t, rfl⟩ := rx
  obtain ⟨t', rfl⟩ := ry
  refine PySem.P.mul_str ?_ (fun h1 _ => Int.not_lt.mpr ((Int.le_ediv_iff_mul_le (by omega)).mpr ?_)) (fun _ _ => decide_eq_false ?_) ?_
  · rw [Bool.or_eq_false_iff]
    exact ⟨decide_eq_false (by omega), decide_eq_false (by omega)⟩
  · have m1 : (z.length : Int) * k ≤ 1000 * 1000 := Int.mul_le_mul (by omega) k1 (by omega) (by omega)
    omega
  · have m2 : z.length * k.toNat ≤ 1000 * 1000 := Nat.mul_le_mul z1 (by omega)
    rw [sizeLine_eq]
    omega
  · split
    · next h1 =>
      refine ⟨by decide, .str Str.empty, H, I.tok _, ⟨_, rfl⟩, q _ ?_⟩
      rw [show k.toNat = 0 by omega]
      rfl
    · split
      · next h1 h2 =>
        refine ⟨.str z, H, I, ⟨_, rfl⟩, q _ ?_⟩
        rcases Bool.or_eq_true _ _ ▸ h2 with e | e
        · have e := eq_of_beq e
          rw [e]
          simp
        · have e : z.cps.toList.length = 0 := eq_of_beq e
          rw [List.eq_nil_of_length_eq_zero e]
          simp
      · have m2 : z.length * k.toNat ≤ 1000 * 1000 := Nat.mul_le_mul z1 (by omega)
        have e : ((List.replicate k.toNat z.cps).foldl (· ++ ·) #[]).toList = (List.replicate k.toNat z.cps.toList).flatten := by
          rw [fold_repN]
          rfl
        refine ⟨?_, .str ⟨(List.replicate k.toNat z.cps).foldl (· ++ ·) #[]⟩, H, I.tok _, ⟨_, rfl⟩, q _ e⟩
        show ((List.replicate k.toNat z.cps).foldl (· ++ ·) #[]).size ≤ _
        rw [← Array.length_toList, e, PyProof.Rows.lm_len_rep_flat]
        show k.toNat * z.length ≤ sizeLine
        rw [Nat.mul_comm, sizeLine_eq]
        omega
end Gu
namespace Gu
open PySem PySem.Spec PyProof.Rows L2
/-! ### _law_bad_list, _law_bad_pairs -/
section
variable {P : Program} {w : World} {K : PySem.W.Frag} {mg : Str → Option Value} {base : Heap} {C : Addr}
def sp_law_bad_list (K : PySem.W.Frag) : Sp := fun vs H Q _ => ∃ (p : Addr), vs = [.ref p] ∧ Pot H p ∧ ∀ t G, Ladled p H G → BadP (fun J v s => TextsBad K J 20 v s) p G t → Q (.ref t) G
set_option maxHeartbeats 4000000 in
theorem cal_law_bad_list (B : Bi mg) (D : At K mg "_law_bad_list" s_law_bad_list ps_law_bad_list) (C_law_one_of : Cal P w K mg base 2 "_law_one_of" ps_law_one_of (spOneOf K)) : Cal P w K mg base 3 "_law_bad_list" ps_law_bad_list (sp_law_bad_list K) := by
  refine D.cal sc_law_bad_list (fun vs H Q E h => ?_) (fun f cdv A outer s H vs Q E hr h => ?_)
  · obtain ⟨p, rfl, _⟩ := h
    rfl
  · obtain ⟨p, rfl, hp, k⟩ := h
    refine ⟨_, (pss_cons (ps_set (i := 1) sc_law_bad_list.nd rfl (.inl rfl) (pe_lst (pa_cons (pe_tup (pa_cons pe_non (pa_cons pe_non pa_nil))) (pa_cons (pe_tup (pa_cons (pe_lst (pa_cons pe_str pa_nil)) (pa_cons pe_non pa_nil))) (pa_cons (pe_tup (pa_cons pe_str (pa_cons pe_non pa_nil))) (pa_cons (pe_tup (pa_cons (pe_op op_repT (pe_tup (pa_cons pe_str pa_nil)) pe_int) (pa_cons pe_non pa_nil))) (pa_cons (pe_tup (pa_cons (pe_tup (pa_cons pe_str (pa_cons pe_str pa_nil))) (pa_cons pe_int pa_nil))) (pa_cons (pe_tup (pa_cons pe_dnewK (pa_cons pe_non pa_nil))) pa_nil))))))))
      (pss_cons (ps_expr (pe_bm PySem.F.plainAttrs_list PySem.F.slot_list_append PySem.F.type_list_append mt_append (pv 1) (pa_cons (pe_tup (pa_cons (pe_tup (pa_cons pe_str (pa_cons pe_str (pa_cons pe_non pa_nil)))) (pa_cons pe_int pa_nil))) pa_nil)))
      (pss_one (ps_ret (pe_own C_law_one_of hr (by decide) (by rfl) (pa_cons (pv 0) (pa_cons (pe_op op_cat (pv 1) (pe_lst (pa_cons (pe_tup (pa_cons (pe_tup (pa_cons (pe_op op_mul_strN pe_str pe_int) pa_nil)) (pa_cons pe_int pa_nil))) (pa_cons (pe_tup (pa_cons (pe_tup (pa_cons pe_int (pa_cons pe_str pa_nil))) (pa_cons pe_int pa_nil))) (pa_cons (pe_tup (pa_cons (pe_tup (pa_cons pe_str (pa_cons (pe_tup (pa_cons pe_str pa_nil)) pa_nil))) (pa_cons pe_int pa_nil))) pa_nil))))) pa_nil))))))), ?_⟩
    refine ⟨by show 2 ≤ sizeLine; decide, fun o1 no1 => ?_⟩
    have so1 : Same H (upd H o1 (.tup [.non, .non])) := same_new no1
    have eo1 : upd H o1 (.tup [.non, .non]) o1 = some (.tup [.non, .non]) := upd_same
    generalize upd H o1 (.tup [.non, .non]) = Ko1 at so1 eo1
    refine ⟨by show 1 ≤ sizeLine; decide, fun o2 no2 => ?_⟩
    have so2 : Same Ko1 (upd Ko1 o2 (.lst [.str "a"])) := same_new no2
    have eo2 : upd Ko1 o2 (.lst [.str "a"]) o2 = some (.lst [.str "a"]) := upd_same
    generalize upd Ko1 o2 (.lst [.str "a"]) = Ko2 at so2 eo2
    refine ⟨by show 2 ≤ sizeLine; decide, fun o3 no3 => ?_⟩
    have so3 : Same Ko2 (upd Ko2 o3 (.tup [.ref o2, .non])) := same_new no3
    have eo3 : upd Ko2 o3 (.tup [.ref o2, .non]) o3 = some (.tup [.ref o2, .non]) := upd_same
    generalize upd Ko2 o3 (.tup [.ref o2, .non]) = Ko3 at so3 eo3
    refine ⟨by show 2 ≤ sizeLine; decide, fun o4 no4 => ?_⟩
    have so4 : Same Ko3 (upd Ko3 o4 (.tup [.str "ab", .non])) := same_new no4
    have eo4 : upd Ko3 o4 (.tup [.str "ab", .non]) o4 = some (.tup [.str "ab", .non]) := upd_same
    generalize upd Ko3 o4 (.tup [.str "ab", .non]) = Ko4 at so4 eo4
    refine ⟨by show 1 ≤ sizeLine; decide, fun o5 no5 => ?_⟩
    have so5 : Same Ko4 (upd Ko4 o5 (.tup [.str "a"])) := same_new no5
    have eo5 : upd Ko4 o5 (.tup [.str "a"]) o5 = some (.tup [.str "a"]) := upd_same
    generalize upd Ko4 o5 (.tup [.str "a"]) = Ko5 at so5 eo5
    refine ⟨_, _, [.str "a"], rfl, rfl, .inl (.inl eo5), List.cons_ne_nil _ _, by decide, by decide, by show 1 ≤ 1000; decide, fun o6 no6 => ?_⟩
    have so6 : Same Ko5 (upd Ko5 o6 (.tup (List.replicate (21 : Int).toNat [.str "a"]).flatten)) := same_new no6
    have eo6 : upd Ko5 o6 (.tup (List.replicate (21 : Int).toNat [.str "a"]).flatten) o6 = some (.tup [.str "a", .str "a", .str "a", .str "a", .str "a", .str "a", .str "a", .str "a", .str "a", .str "a", .str "a", .str "a", .str "a", .str "a", .str "a", .str "a", .str "a", .str "a", .str "a", .str "a", .str "a"]) := upd_same
    generalize upd Ko5 o6 (.tup (List.replicate (21 : Int).toNat [.str "a"]).flatten) = Ko6 at so6 eo6
    refine ⟨by show 2 ≤ sizeLine; decide, fun o7 no7 => ?_⟩
    have so7 : Same Ko6 (upd Ko6 o7 (.tup [.ref o6, .non])) := same_new no7
    have eo7 : upd Ko6 o7 (.tup [.ref o6, .non]) o7 = some (.tup [.ref o6, .non]) := upd_same
    generalize upd Ko6 o7 (.tup [.ref o6, .non]) = Ko7 at so7 eo7
    refine ⟨by show 2 ≤ sizeLine; decide, fun o8 no8 => ?_⟩
    have so8 : Same Ko7 (upd Ko7 o8 (.tup [.str "a", .str "A"])) := same_new no8
    have eo8 : upd Ko7 o8 (.tup [.str "a", .str "A"]) o8 = some (.tup [.str "a", .str "A"]) := upd_same
    generalize upd Ko7 o8 (.tup [.str "a", .str "A"]) = Ko8 at so8 eo8
    refine ⟨by show 2 ≤ sizeLine; decide, fun o9 no9 => ?_⟩
    have so9 : Same Ko8 (upd Ko8 o9 (.tup [.ref o8, .int 1])) := same_new no9
    have eo9 : upd Ko8 o9 (.tup [.ref o8, .int 1]) o9 = some (.tup [.ref o8, .int 1]) := upd_same
    generalize upd Ko8 o9 (.tup [.ref o8, .int 1]) = Ko9 at so9 eo9
    refine fun o10 no10 => ?_
    have so10 : Same Ko9 (upd Ko9 o10 (.dK [])) := same_new no10
    have eo10 : upd Ko9 o10 (.dK []) o10 = some (.dK []) := upd_same
    generalize upd Ko9 o10 (.dK []) = Ko10 at so10 eo10
    refine ⟨by show 2 ≤ sizeLine; decide, fun o11 no11 => ?_⟩
    have so11 : Same Ko10 (upd Ko10 o11 (.tup [.ref o10, .non])) := same_new no11
    have eo11 : upd Ko10 o11 (.tup [.ref o10, .non]) o11 = some (.tup [.ref o10, .non]) := upd_same
    generalize upd Ko10 o11 (.tup [.ref o10, .non]) = Ko11 at so11 eo11
    refine ⟨by show 6 ≤ sizeLine; decide, fun o12 no12 => ?_⟩
    have so12 : Same Ko11 (upd Ko11 o12 (.lst [.ref o1, .ref o3, .ref o4, .ref o7, .ref o9, .ref o11])) := same_new no12
    have eo12 : upd Ko11 o12 (.lst [.ref o1, .ref o3, .ref o4, .ref o7, .ref o9, .ref o11]) o12 = some (.lst [.ref o1, .ref o3, .ref o4, .ref o7, .ref o9, .ref o11]) := upd_same
    generalize upd Ko11 o12 (.lst [.ref o1, .ref o3, .ref o4, .ref o7, .ref o9, .ref o11]) = Ko12 at so12 eo12
    have hS : Ladled p H Ko11 := Ladled.ofSame hp (so1.trans (so2.trans (so3.trans (so4.trans (so5.trans (so6.trans (so7.trans (so8.trans (so9.trans (so10.trans (so11)))))))))))
    have fS := hS.free no12
    have pS := hS.pot.ne no12
    refine ⟨_, rfl, .inl ⟨rfl, _, .inl (.inl eo12)⟩, by show 3 ≤ sizeLine; decide, fun o13 no13 => ?_⟩
    have so13 : Same Ko12 (upd Ko12 o13 (.tup [.str "a", .str "b", .non])) := same_new no13
    have eo13 : upd Ko12 o13 (.tup [.str "a", .str "b", .non]) o13 = some (.tup [.str "a", .str "b", .non]) := upd_same
    generalize upd Ko12 o13 (.tup [.str "a", .str "b", .non]) = Ko13 at so13 eo13
    refine ⟨by show 2 ≤ sizeLine; decide, fun o14 no14 => ?_⟩
    have so14 : Same Ko13 (upd Ko13 o14 (.tup [.ref o13, .int 2])) := same_new no14
    have eo14 : upd Ko13 o14 (.tup [.ref o13, .int 2]) o14 = some (.tup [.ref o13, .int 2]) := upd_same
    generalize upd Ko13 o14 (.tup [.ref o13, .int 2]) = Ko14 at so14 eo14
    replace eo12 := so13 _ _ eo12
    replace eo12 := so14 _ _ eo12
    refine ⟨o12, _, _, rfl, rfl, eo12, by show 6 < sizeLine; decide, ?_⟩
    have LM := (hS.same (so12.trans (so13.trans (so14)))).mut (o := .lst ([.ref o1, .ref o3, .ref o4, .ref o7, .ref o9, .ref o11] ++ [.ref o14])) fS pS
    replace eo1 := so2 _ _ eo1
    replace eo1 := so3 _ _ eo1
    replace eo1 := so4 _ _ eo1
    replace eo1 := so5 _ _ eo1
    replace eo1 := so6 _ _ eo1
    replace eo1 := so7 _ _ eo1
    replace eo1 := so8 _ _ eo1
    replace eo1 := so9 _ _ eo1
    replace eo1 := so10 _ _ eo1
    replace eo1 := so11 _ _ eo1
    replace eo1 := so12 _ _ eo1
    replace eo1 := so13 _ _ eo1
    replace eo1 := so14 _ _ eo1
    replace eo2 := so3 _ _ eo2
    replace eo2 := so4 _ _ eo2
    replace eo2 := so5 _ _ eo2
    replace eo2 := so6 _ _ eo2
    replace eo2 := so7 _ _ eo2
    replace eo2 := so8 _ _ eo2
    replace eo2 := so9 _ _ eo2
    replace eo2 := so10 _ _ eo2
    replace eo2 := so11 _ _ eo2
    replace eo2 := so12 _ _ eo2
    replace eo2 := so13 _ _ eo2
    replace eo2 := so14 _ _ eo2
    replace eo3 := so4 _ _ eo3
    replace eo3 := so5 _ _ eo3
    replace eo3 := so6 _ _ eo3
    replace eo3 := so7 _ _ eo3
    replace eo3 := so8 _ _ eo3
    replace eo3 := so9 _ _ eo3
    replace eo3 := so10 _ _ eo3
    replace eo3 := so11 _ _ eo3
    replace eo3 := so12 _ _ eo3
    replace eo3 := so13 _ _ eo3
    replace eo3 := so14 _ _ eo3
    replace eo4 := so5 _ _ eo4
    replace eo4 := so6 _ _ eo4
    replace eo4 := so7 _ _ eo4
    replace eo4 := so8 _ _ eo4
    replace eo4 := so9 _ _ eo4
    replace eo4 := so10 _ _ eo4
    replace eo4 := so11 _ _ eo4
    replace eo4 := so12 _ _ eo4
    replace eo4 := so13 _ _ eo4
    replace eo4 := so14 _ _ eo4
    replace eo5 := so6 _ _ eo5
    replace eo5 := so7 _ _ eo5
    replace eo5 := so8 _ _ eo5
    replace eo5 := so9 _ _ eo5
    replace eo5 := so10 _ _ eo5
    replace eo5 := so11 _ _ eo5
    replace eo5 := so12 _ _ eo5
    replace eo5 := so13 _ _ eo5
    replace eo5 := so14 _ _ eo5
    replace eo6 := so7 _ _ eo6
    replace eo6 := so8 _ _ eo6
    replace eo6 := so9 _ _ eo6
    replace eo6 := so10 _ _ eo6
    replace eo6 := so11 _ _ eo6
    replace eo6 := so12 _ _ eo6
    replace eo6 := so13 _ _ eo6
    replace eo6 := so14 _ _ eo6
    replace eo7 := so8 _ _ eo7
    replace eo7 := so9 _ _ eo7
    replace eo7 := so10 _ _ eo7
    replace eo7 := so11 _ _ eo7
    replace eo7 := so12 _ _ eo7
    replace eo7 := so13 _ _ eo7
    replace eo7 := so14 _ _ eo7
    replace eo8 := so9 _ _ eo8
    replace eo8 := so10 _ _ eo8
    replace eo8 := so11 _ _ eo8
    replace eo8 := so12 _ _ eo8
    replace eo8 := so13 _ _ eo8
    replace eo8 := so14 _ _ eo8
    replace eo9 := so10 _ _ eo9
    replace eo9 := so11 _ _ eo9
    replace eo9 := so12 _ _ eo9
    replace eo9 := so13 _ _ eo9
    replace eo9 := so14 _ _ eo9
    replace eo10 := so11 _ _ eo10
    replace eo10 := so12 _ _ eo10
    replace eo10 := so13 _ _ eo10
    replace eo10 := so14 _ _ eo10
    replace eo11 := so12 _ _ eo11
    replace eo11 := so13 _ _ eo11
    replace eo11 := so14 _ _ eo11
    replace eo13 := so14 _ _ eo13
    replace eo1 : upd Ko14 o12 (.lst ([.ref o1, .ref o3, .ref o4, .ref o7, .ref o9, .ref o11] ++ [.ref o14])) o1 = some (.tup [.non, .non]) := by
      rw [upd_ne (ne_of eo1 eo12 (by intro z; cases z))]
      exact eo1
    replace eo2 : upd Ko14 o12 (.lst ([.ref o1, .ref o3, .ref o4, .ref o7, .ref o9, .ref o11] ++ [.ref o14])) o2 = some (.lst [.str "a"]) := by
      rw [upd_ne (ne_of eo2 eo12 (by intro z; cases z))]
      exact eo2
    replace eo3 : upd Ko14 o12 (.lst ([.ref o1, .ref o3, .ref o4, .ref o7, .ref o9, .ref o11] ++ [.ref o14])) o3 = some (.tup [.ref o2, .non]) := by
      rw [upd_ne (ne_of eo3 eo12 (by intro z; cases z))]
      exact eo3
    replace eo4 : upd Ko14 o12 (.lst ([.ref o1, .ref o3, .ref o4, .ref o7, .ref o9, .ref o11] ++ [.ref o14])) o4 = some (.tup [.str "ab", .non]) := by
      rw [upd_ne (ne_of eo4 eo12 (by intro z; cases z))]
      exact eo4
    replace eo5 : upd Ko14 o12 (.lst ([.ref o1, .ref o3, .ref o4, .ref o7, .ref o9, .ref o11] ++ [.ref o14])) o5 = some (.tup [.str "a"]) := by
      rw [upd_ne (ne_of eo5 eo12 (by intro z; cases z))]
      exact eo5
    replace eo6 : upd Ko14 o12 (.lst ([.ref o1, .ref o3, .ref o4, .ref o7, .ref o9, .ref o11] ++ [.ref o14])) o6 = some (.tup [.str "a", .str "a", .str "a", .str "a", .str "a", .str "a", .str "a", .str "a", .str "a", .str "a", .str "a", .str "a", .str "a", .str "a", .str "a", .str "a", .str "a", .str "a", .str "a", .str "a", .str "a"]) := by
      rw [upd_ne (ne_of eo6 eo12 (by intro z; cases z))]
      exact eo6
    replace eo7 : upd Ko14 o12 (.lst ([.ref o1, .ref o3, .ref o4, .ref o7, .ref o9, .ref o11] ++ [.ref o14])) o7 = some (.tup [.ref o6, .non]) := by
      rw [upd_ne (ne_of eo7 eo12 (by intro z; cases z))]
      exact eo7
    replace eo8 : upd Ko14 o12 (.lst ([.ref o1, .ref o3, .ref o4, .ref o7, .ref o9, .ref o11] ++ [.ref o14])) o8 = some (.tup [.str "a", .str "A"]) := by
      rw [upd_ne (ne_of eo8 eo12 (by intro z; cases z))]
      exact eo8
    replace eo9 : upd Ko14 o12 (.lst ([.ref o1, .ref o3, .ref o4, .ref o7, .ref o9, .ref o11] ++ [.ref o14])) o9 = some (.tup [.ref o8, .int 1]) := by
      rw [upd_ne (ne_of eo9 eo12 (by intro z; cases z))]
      exact eo9
    replace eo10 : upd Ko14 o12 (.lst ([.ref o1, .ref o3, .ref o4, .ref o7, .ref o9, .ref o11] ++ [.ref o14])) o10 = some (.dK []) := by
      rw [upd_ne (ne_of eo10 eo12 (by intro z; cases z))]
      exact eo10
    replace eo11 : upd Ko14 o12 (.lst ([.ref o1, .ref o3, .ref o4, .ref o7, .ref o9, .ref o11] ++ [.ref o14])) o11 = some (.tup [.ref o10, .non]) := by
      rw [upd_ne (ne_of eo11 eo12 (by intro z; cases z))]
      exact eo11
    replace eo13 : upd Ko14 o12 (.lst ([.ref o1, .ref o3, .ref o4, .ref o7, .ref o9, .ref o11] ++ [.ref o14])) o13 = some (.tup [.str "a", .str "b", .non]) := by
      rw [upd_ne (ne_of eo13 eo12 (by intro z; cases z))]
      exact eo13
    replace eo14 : upd Ko14 o12 (.lst ([.ref o1, .ref o3, .ref o4, .ref o7, .ref o9, .ref o11] ++ [.ref o14])) o14 = some (.tup [.ref o13, .int 2]) := by
      rw [upd_ne (ne_of eo14 eo12 (by intro z; cases z))]
      exact eo14
    have eo12m : upd Ko14 o12 (.lst ([.ref o1, .ref o3, .ref o4, .ref o7, .ref o9, .ref o11] ++ [.ref o14])) o12 = some (.lst [.ref o1, .ref o3, .ref o4, .ref o7, .ref o9, .ref o11, .ref o14]) := upd_same
    generalize upd Ko14 o12 (.lst ([.ref o1, .ref o3, .ref o4, .ref o7, .ref o9, .ref o11] ++ [.ref o14])) = M0 at eo1 eo2 eo3 eo4 eo5 eo6 eo7 eo8 eo9 eo10 eo11 eo13 eo14 eo12m LM
    refine ⟨_, rfl, _, rfl, _, _, rfl, rfl, by decide, by decide, by decide +kernel, fun yo15 hyo15 => ?_⟩
    have hyo15 := a201 hyo15
    subst hyo15
    refine ⟨by show 1 ≤ sizeLine; decide, fun o16 no16 => ?_⟩
    have so16 : Same M0 (upd M0 o16 (.tup [.str ⟨(List.replicate 201 97).toArray⟩])) := same_new no16
    have eo16 : upd M0 o16 (.tup [.str ⟨(List.replicate 201 97).toArray⟩]) o16 = some (.tup [.str ⟨(List.replicate 201 97).toArray⟩]) := upd_same
    generalize upd M0 o16 (.tup [.str ⟨(List.replicate 201 97).toArray⟩]) = Ko16 at so16 eo16
    refine ⟨by show 2 ≤ sizeLine; decide, fun o17 no17 => ?_⟩
    have so17 : Same Ko16 (upd Ko16 o17 (.tup [.ref o16, .int 0])) := same_new no17
    have eo17 : upd Ko16 o17 (.tup [.ref o16, .int 0]) o17 = some (.tup [.ref o16, .int 0]) := upd_same
    generalize upd Ko16 o17 (.tup [.ref o16, .int 0]) = Ko17 at so17 eo17
    refine ⟨by show 2 ≤ sizeLine; decide, fun o18 no18 => ?_⟩
    have so18 : Same Ko17 (upd Ko17 o18 (.tup [.int 5, .str "a"])) := same_new no18
    have eo18 : upd Ko17 o18 (.tup [.int 5, .str "a"]) o18 = some (.tup [.int 5, .str "a"]) := upd_same
    generalize upd Ko17 o18 (.tup [.int 5, .str "a"]) = Ko18 at so18 eo18
    refine ⟨by show 2 ≤ sizeLine; decide, fun o19 no19 => ?_⟩
    have so19 : Same Ko18 (upd Ko18 o19 (.tup [.ref o18, .int 0])) := same_new no19
    have eo19 : upd Ko18 o19 (.tup [.ref o18, .int 0]) o19 = some (.tup [.ref o18, .int 0]) := upd_same
    generalize upd Ko18 o19 (.tup [.ref o18, .int 0]) = Ko19 at so19 eo19
    refine ⟨by show 1 ≤ sizeLine; decide, fun o20 no20 => ?_⟩
    have so20 : Same Ko19 (upd Ko19 o20 (.tup [.str "a"])) := same_new no20
    have eo20 : upd Ko19 o20 (.tup [.str "a"]) o20 = some (.tup [.str "a"]) := upd_same
    generalize upd Ko19 o20 (.tup [.str "a"]) = Ko20 at so20 eo20
    refine ⟨by show 2 ≤ sizeLine; decide, fun o21 no21 => ?_⟩
    have so21 : Same Ko20 (upd Ko20 o21 (.tup [.str "a", .ref o20])) := same_new no21
    have eo21 : upd Ko20 o21 (.tup [.str "a", .ref o20]) o21 = some (.tup [.str "a", .ref o20]) := upd_same
    generalize upd Ko20 o21 (.tup [.str "a", .ref o20]) = Ko21 at so21 eo21
    refine ⟨by show 2 ≤ sizeLine; decide, fun o22 no22 => ?_⟩
    have so22 : Same Ko21 (upd Ko21 o22 (.tup [.ref o21, .int 1])) := same_new no22
    have eo22 : upd Ko21 o22 (.tup [.ref o21, .int 1]) o22 = some (.tup [.ref o21, .int 1]) := upd_same
    generalize upd Ko21 o22 (.tup [.ref o21, .int 1]) = Ko22 at so22 eo22
    refine ⟨by show 3 ≤ sizeLine; decide, fun o23 no23 => ?_⟩
    have so23 : Same Ko22 (upd Ko22 o23 (.lst [.ref o17, .ref o19, .ref o22])) := same_new no23
    have eo23 : upd Ko22 o23 (.lst [.ref o17, .ref o19, .ref o22]) o23 = some (.lst [.ref o17, .ref o19, .ref o22]) := upd_same
    generalize upd Ko22 o23 (.lst [.ref o17, .ref o19, .ref o22]) = Ko23 at so23 eo23
    replace eo12m := so16 _ _ eo12m
    replace eo12m := so17 _ _ eo12m
    replace eo12m := so18 _ _ eo12m
    replace eo12m := so19 _ _ eo12m
    replace eo12m := so20 _ _ eo12m
    replace eo12m := so21 _ _ eo12m
    replace eo12m := so22 _ _ eo12m
    replace eo12m := so23 _ _ eo12m
    refine ⟨_, _, _, _, rfl, rfl, eo12m, eo23, by show 7 + 3 ≤ sizeLine; decide, fun o24 no24 => ?_⟩
    have so24 : Same Ko23 (upd Ko23 o24 (.lst ([.ref o1, .ref o3, .ref o4, .ref o7, .ref o9, .ref o11, .ref o14] ++ [.ref o17, .ref o19, .ref o22]))) := same_new no24
    have eo24 : upd Ko23 o24 (.lst ([.ref o1, .ref o3, .ref o4, .ref o7, .ref o9, .ref o11, .ref o14] ++ [.ref o17, .ref o19, .ref o22])) o24 = some (.lst [.ref o1, .ref o3, .ref o4, .ref o7, .ref o9, .ref o11, .ref o14, .ref o17, .ref o19, .ref o22]) := upd_same
    generalize upd Ko23 o24 (.lst ([.ref o1, .ref o3, .ref o4, .ref o7, .ref o9, .ref o11, .ref o14] ++ [.ref o17, .ref o19, .ref o22])) = Ko24 at so24 eo24
    have to24 : Same Ko23 Ko24 := so24
    have to23 : Same Ko22 Ko24 := so23.trans to24
    have to22 : Same Ko21 Ko24 := so22.trans to23
    have to21 : Same Ko20 Ko24 := so21.trans to22
    have to20 : Same Ko19 Ko24 := so20.trans to21
    have to19 : Same Ko18 Ko24 := so19.trans to20
    have to18 : Same Ko17 Ko24 := so18.trans to19
    have to17 : Same Ko16 Ko24 := so17.trans to18
    have to16 : Same M0 Ko24 := so16.trans to17
    have eo1 := to16 _ _ eo1
    have eo2 := to16 _ _ eo2
    have eo3 := to16 _ _ eo3
    have eo4 := to16 _ _ eo4
    have eo5 := to16 _ _ eo5
    have eo6 := to16 _ _ eo6
    have eo7 := to16 _ _ eo7
    have eo8 := to16 _ _ eo8
    have eo9 := to16 _ _ eo9
    have eo10 := to16 _ _ eo10
    have eo11 := to16 _ _ eo11
    have eo13 := to16 _ _ eo13
    have eo14 := to16 _ _ eo14
    have eo12m := to24 _ _ eo12m
    have eo16 := to17 _ _ eo16
    have eo17 := to18 _ _ eo17
    have eo18 := to19 _ _ eo18
    have eo19 := to20 _ _ eo19
    have eo20 := to21 _ _ eo20
    have eo21 := to22 _ _ eo21
    have eo22 := to23 _ _ eo22
    have eo23 := to24 _ _ eo23
    have To : Same M0 Ko24 := to16
    have LK : Ladled p H Ko24 := LM.same To
    have hK := LK.pot
    have qo1 : BadP (fun J v s => TextsBad K J 20 v s) p Ko24 o1 := ⟨.non, .non, eo1, .inl rfl, fun J kp => .inl ⟨rfl, (.inl (isa_non (kit_ty (by decide +kernel))))⟩⟩
    have qo3 : BadP (fun J v s => TextsBad K J 20 v s) p Ko24 o3 := ⟨.ref o2, .non, eo3, .inl rfl, fun J kp => .inl ⟨rfl, (.inl (isa_lst (kp.lst0 hK eo2 (by show 1 ≠ 3; decide)) (kit_ty (by decide +kernel))))⟩⟩
    have qo4 : BadP (fun J v s => TextsBad K J 20 v s) p Ko24 o4 := ⟨.str "ab", .non, eo4, .inl rfl, fun J kp => .inl ⟨rfl, (.inl (isa_str (kit_ty (by decide +kernel))))⟩⟩
    have qo7 : BadP (fun J v s => TextsBad K J 20 v s) p Ko24 o7 := ⟨.ref o6, .non, eo7, .inl rfl, fun J kp => .inl ⟨rfl, (.inr ⟨o6, _, rfl, .inl (.inl (kp.tup hK eo6)), fun z => absurd z (by show ¬ (0 ≤ 21 ∧ 21 ≤ 20); decide)⟩)⟩⟩
    have qo9 : BadP (fun J v s => TextsBad K J 20 v s) p Ko24 o9 := ⟨.ref o8, .int 1, eo9, .inr ⟨1, by decide, rfl⟩, fun J kp => .inr ⟨o8, _, 1, .str "A", rfl, .inl (.inl (kp.tup hK eo8)), by show 2 ≤ 20; decide, (bef1 ⟨_, rfl, by decide +kernel, by decide +kernel⟩), rfl, (nt_str (by decide +kernel) (by decide +kernel)), rfl⟩⟩
    have qo11 : BadP (fun J v s => TextsBad K J 20 v s) p Ko24 o11 := ⟨.ref o10, .non, eo11, .inl rfl, fun J kp => .inl ⟨rfl, (.inl (isa_dict (kp.dict hK eo10) (kit_ty (by decide +kernel))))⟩⟩
    have qo14 : BadP (fun J v s => TextsBad K J 20 v s) p Ko24 o14 := ⟨.ref o13, .int 2, eo14, .inr ⟨2, by decide, rfl⟩, fun J kp => .inr ⟨o13, _, 2, .non, rfl, .inl (.inl (kp.tup hK eo13)), by show 3 ≤ 20; decide, (bef2 ⟨_, rfl, by decide +kernel, by decide +kernel⟩ ⟨_, rfl, by decide +kernel, by decide +kernel⟩), rfl, nt_non, rfl⟩⟩
    have qo17 : BadP (fun J v s => TextsBad K J 20 v s) p Ko24 o17 := ⟨.ref o16, .int 0, eo17, .inr ⟨0, by decide, rfl⟩, fun J kp => .inr ⟨o16, _, 0, .str ⟨(List.replicate 201 97).toArray⟩, rfl, .inl (.inl (kp.tup hK eo16)), by show 1 ≤ 20; decide, (fun j y hj hy => absurd hj (Nat.not_lt_zero j)), rfl, (nt_str (by decide +kernel) (by decide +kernel)), rfl⟩⟩
    have qo19 : BadP (fun J v s => TextsBad K J 20 v s) p Ko24 o19 := ⟨.ref o18, .int 0, eo19, .inr ⟨0, by decide, rfl⟩, fun J kp => .inr ⟨o18, _, 0, .int 5, rfl, .inl (.inl (kp.tup hK eo18)), by show 2 ≤ 20; decide, (fun j y hj hy => absurd hj (Nat.not_lt_zero j)), rfl, nt_int, rfl⟩⟩
    have qo22 : BadP (fun J v s => TextsBad K J 20 v s) p Ko24 o22 := ⟨.ref o21, .int 1, eo22, .inr ⟨1, by decide, rfl⟩, fun J kp => .inr ⟨o21, _, 1, .ref o20, rfl, .inl (.inl (kp.tup hK eo21)), by show 2 ≤ 20; decide, (bef1 ⟨_, rfl, by decide +kernel, by decide +kernel⟩), rfl, (nt_tup (kp.tup hK eo20)), rfl⟩⟩
    refine ⟨p, hK, .inl ⟨o24, _, rfl, .inl (.inl eo24), pot_neR hK eo24, by show 0 < 10; decide, by show 10 < 1000; decide, fun v G mem L => ?_⟩⟩
    have kp := KeepP.ofL L
    have LH : Ladled p H G := LK.trans L
    simp only [List.mem_cons, List.not_mem_nil, or_false] at mem
    rcases mem with rfl | rfl | rfl | rfl | rfl | rfl | rfl | rfl | rfl | rfl
    · exact k _ G LH (qo1.keep hK kp)
    · exact k _ G LH (qo3.keep hK kp)
    · exact k _ G LH (qo4.keep hK kp)
    · exact k _ G LH (qo7.keep hK kp)
    · exact k _ G LH (qo9.keep hK kp)
    · exact k _ G LH (qo11.keep hK kp)
    · exact k _ G LH (qo14.keep hK kp)
    · exact k _ G LH (qo17.keep hK kp)
    · exact k _ G LH (qo19.keep hK kp)
    · exact k _ G LH (qo22.keep hK kp)
def sp_law_bad_pairs (K : PySem.W.Frag) : Sp := fun vs H Q _ => ∃ (p : Addr), vs = [.ref p] ∧ Pot H p ∧ ∀ t G, Ladled p H G → BadP (SeensBad K) p G t → Q (.ref t) G
set_option maxHeartbeats 4000000 in
theorem cal_law_bad_pairs (B : Bi mg) (D : At K mg "_law_bad_pairs" s_law_bad_pairs ps_law_bad_pairs) (C_law_one_of : Cal P w K mg base 2 "_law_one_of" ps_law_one_of (spOneOf K)) : Cal P w K mg base 3 "_law_bad_pairs" ps_law_bad_pairs (sp_law_bad_pairs K) := by
  refine D.cal sc_law_bad_pairs (fun vs H Q E h => ?_) (fun f cdv A outer s H vs Q E hr h => ?_)
  · obtain ⟨p, rfl, _⟩ := h
    rfl
  · obtain ⟨p, rfl, hp, k⟩ := h
    refine ⟨_, (pss_cons (ps_set (i := 1) sc_law_bad_pairs.nd rfl (.inl rfl) (pe_tup (pa_cons pe_str (pa_cons pe_str pa_nil))))
      (pss_cons (ps_set (i := 2) sc_law_bad_pairs.nd rfl (.inl rfl) (pe_lst (pa_cons (pe_tup (pa_cons pe_non (pa_cons pe_non pa_nil))) (pa_cons (pe_tup (pa_cons (pe_lst (pa_cons (pv 1) pa_nil)) (pa_cons pe_non pa_nil))) (pa_cons (pe_tup (pa_cons (pe_op op_repT (pe_tup (pa_cons (pv 1) pa_nil)) pe_int) (pa_cons pe_non pa_nil))) (pa_cons (pe_tup (pa_cons (pe_tup (pa_cons (pv 1) (pa_cons pe_str pa_nil))) (pa_cons pe_int pa_nil))) (pa_cons (pe_tup (pa_cons (pv 1) (pa_cons pe_int pa_nil))) (pa_cons (pe_tup (pa_cons (pe_tup (pa_cons (pv 1) (pa_cons (pe_tup (pa_cons pe_str (pa_cons pe_str pa_nil))) pa_nil))) (pa_cons pe_int pa_nil))) pa_nil))))))))
      (pss_cons (ps_set (i := 2) sc_law_bad_pairs.nd rfl (.inl rfl) (pe_op op_cat (pv 2) (pe_lst (pa_cons (pe_tup (pa_cons (pe_tup (pa_cons (pe_tup (pa_cons pe_str pa_nil)) pa_nil)) (pa_cons pe_int pa_nil))) (pa_cons (pe_tup (pa_cons (pe_tup (pa_cons (pv 1) (pa_cons (pv 1) (pa_cons (pe_lst (pa_cons pe_str (pa_cons pe_str pa_nil))) pa_nil)))) (pa_cons pe_int pa_nil))) (pa_cons (pe_tup (pa_cons (pe_tup (pa_cons (pe_tup (pa_cons (pe_op op_mul_strN pe_str pe_int) (pa_cons pe_str pa_nil))) pa_nil)) (pa_cons pe_int pa_nil))) pa_nil))))))
      (pss_one (ps_ret (pe_own C_law_one_of hr (by decide) (by rfl) (pa_cons (pv 0) (pa_cons (pe_op op_cat (pv 2) (pe_lst (pa_cons (pe_tup (pa_cons pe_dnewK (pa_cons pe_non pa_nil))) pa_nil))) pa_nil)))))))), ?_⟩
    refine ⟨by show 2 ≤ sizeLine; decide, fun o1 no1 => ?_⟩
    have so1 : Same H (upd H o1 (.tup [.str "ab", .str "a"])) := same_new no1
    have eo1 : upd H o1 (.tup [.str "ab", .str "a"]) o1 = some (.tup [.str "ab", .str "a"]) := upd_same
    generalize upd H o1 (.tup [.str "ab", .str "a"]) = Ko1 at so1 eo1
    refine ⟨by show 2 ≤ sizeLine; decide, fun o2 no2 => ?_⟩
    have so2 : Same Ko1 (upd Ko1 o2 (.tup [.non, .non])) := same_new no2
    have eo2 : upd Ko1 o2 (.tup [.non, .non]) o2 = some (.tup [.non, .non]) := upd_same
    generalize upd Ko1 o2 (.tup [.non, .non]) = Ko2 at so2 eo2
    refine ⟨_, rfl, by show 1 ≤ sizeLine; decide, fun o3 no3 => ?_⟩
    have so3 : Same Ko2 (upd Ko2 o3 (.lst [.ref o1])) := same_new no3
    have eo3 : upd Ko2 o3 (.lst [.ref o1]) o3 = some (.lst [.ref o1]) := upd_same
    generalize upd Ko2 o3 (.lst [.ref o1]) = Ko3 at so3 eo3
    refine ⟨by show 2 ≤ sizeLine; decide, fun o4 no4 => ?_⟩
    have so4 : Same Ko3 (upd Ko3 o4 (.tup [.ref o3, .non])) := same_new no4
    have eo4 : upd Ko3 o4 (.tup [.ref o3, .non]) o4 = some (.tup [.ref o3, .non]) := upd_same
    generalize upd Ko3 o4 (.tup [.ref o3, .non]) = Ko4 at so4 eo4
    refine ⟨_, rfl, by show 1 ≤ sizeLine; decide, fun o5 no5 => ?_⟩
    have so5 : Same Ko4 (upd Ko4 o5 (.tup [.ref o1])) := same_new no5
    have eo5 : upd Ko4 o5 (.tup [.ref o1]) o5 = some (.tup [.ref o1]) := upd_same
    generalize upd Ko4 o5 (.tup [.ref o1]) = Ko5 at so5 eo5
    refine ⟨_, _, [.ref o1], rfl, rfl, .inl (.inl eo5), List.cons_ne_nil _ _, by decide, by decide, by show 1 ≤ 1000; decide, fun o6 no6 => ?_⟩
    have so6 : Same Ko5 (upd Ko5 o6 (.tup (List.replicate (21 : Int).toNat [.ref o1]).flatten)) := same_new no6
    have eo6 : upd Ko5 o6 (.tup (List.replicate (21 : Int).toNat [.ref o1]).flatten) o6 = some (.tup [.ref o1, .ref o1, .ref o1, .ref o1, .ref o1, .ref o1, .ref o1, .ref o1, .ref o1, .ref o1, .ref o1, .ref o1, .ref o1, .ref o1, .ref o1, .ref o1, .ref o1, .ref o1, .ref o1, .ref o1, .ref o1]) := upd_same
    generalize upd Ko5 o6 (.tup (List.replicate (21 : Int).toNat [.ref o1]).flatten) = Ko6 at so6 eo6
    refine ⟨by show 2 ≤ sizeLine; decide, fun o7 no7 => ?_⟩
    have so7 : Same Ko6 (upd Ko6 o7 (.tup [.ref o6, .non])) := same_new no7
    have eo7 : upd Ko6 o7 (.tup [.ref o6, .non]) o7 = some (.tup [.ref o6, .non]) := upd_same
    generalize upd Ko6 o7 (.tup [.ref o6, .non]) = Ko7 at so7 eo7
    refine ⟨_, rfl, by show 2 ≤ sizeLine; decide, fun o8 no8 => ?_⟩
    have so8 : Same Ko7 (upd Ko7 o8 (.tup [.ref o1, .str "ab"])) := same_new no8
    have eo8 : upd Ko7 o8 (.tup [.ref o1, .str "ab"]) o8 = some (.tup [.ref o1, .str "ab"]) := upd_same
    generalize upd Ko7 o8 (.tup [.ref o1, .str "ab"]) = Ko8 at so8 eo8
    refine ⟨by show 2 ≤ sizeLine; decide, fun o9 no9 => ?_⟩
    have so9 : Same Ko8 (upd Ko8 o9 (.tup [.ref o8, .int 1])) := same_new no9
    have eo9 : upd Ko8 o9 (.tup [.ref o8, .int 1]) o9 = some (.tup [.ref o8, .int 1]) := upd_same
    generalize upd Ko8 o9 (.tup [.ref o8, .int 1]) = Ko9 at so9 eo9
    refine ⟨_, rfl, by show 2 ≤ sizeLine; decide, fun o10 no10 => ?_⟩
    have so10 : Same Ko9 (upd Ko9 o10 (.tup [.ref o1, .int 0])) := same_new no10
    have eo10 : upd Ko9 o10 (.tup [.ref o1, .int 0]) o10 = some (.tup [.ref o1, .int 0]) := upd_same
    generalize upd Ko9 o10 (.tup [.ref o1, .int 0]) = Ko10 at so10 eo10
    refine ⟨_, rfl, by show 2 ≤ sizeLine; decide, fun o11 no11 => ?_⟩
    have so11 : Same Ko10 (upd Ko10 o11 (.tup [.str "a", .str "A"])) := same_new no11
    have eo11 : upd Ko10 o11 (.tup [.str "a", .str "A"]) o11 = some (.tup [.str "a", .str "A"]) := upd_same
    generalize upd Ko10 o11 (.tup [.str "a", .str "A"]) = Ko11 at so11 eo11
    refine ⟨by show 2 ≤ sizeLine; decide, fun o12 no12 => ?_⟩
    have so12 : Same Ko11 (upd Ko11 o12 (.tup [.ref o1, .ref o11])) := same_new no12
    have eo12 : upd Ko11 o12 (.tup [.ref o1, .ref o11]) o12 = some (.tup [.ref o1, .ref o11]) := upd_same
    generalize upd Ko11 o12 (.tup [.ref o1, .ref o11]) = Ko12 at so12 eo12
    refine ⟨by show 2 ≤ sizeLine; decide, fun o13 no13 => ?_⟩
    have so13 : Same Ko12 (upd Ko12 o13 (.tup [.ref o12, .int 1])) := same_new no13
    have eo13 : upd Ko12 o13 (.tup [.ref o12, .int 1]) o13 = some (.tup [.ref o12, .int 1]) := upd_same
    generalize upd Ko12 o13 (.tup [.ref o12, .int 1]) = Ko13 at so13 eo13
    refine ⟨by show 6 ≤ sizeLine; decide, fun o14 no14 => ?_⟩
    have so14 : Same Ko13 (upd Ko13 o14 (.lst [.ref o2, .ref o4, .ref o7, .ref o9, .ref o10, .ref o13])) := same_new no14
    have eo14 : upd Ko13 o14 (.lst [.ref o2, .ref o4, .ref o7, .ref o9, .ref o10, .ref o13]) o14 = some (.lst [.ref o2, .ref o4, .ref o7, .ref o9, .ref o10, .ref o13]) := upd_same
    generalize upd Ko13 o14 (.lst [.ref o2, .ref o4, .ref o7, .ref o9, .ref o10, .ref o13]) = Ko14 at so14 eo14
    refine ⟨_, rfl, by show 1 ≤ sizeLine; decide, fun o15 no15 => ?_⟩
    have so15 : Same Ko14 (upd Ko14 o15 (.tup [.str "a"])) := same_new no15
    have eo15 : upd Ko14 o15 (.tup [.str "a"]) o15 = some (.tup [.str "a"]) := upd_same
    generalize upd Ko14 o15 (.tup [.str "a"]) = Ko15 at so15 eo15
    refine ⟨by show 1 ≤ sizeLine; decide, fun o16 no16 => ?_⟩
    have so16 : Same Ko15 (upd Ko15 o16 (.tup [.ref o15])) := same_new no16
    have eo16 : upd Ko15 o16 (.tup [.ref o15]) o16 = some (.tup [.ref o15]) := upd_same
    generalize upd Ko15 o16 (.tup [.ref o15]) = Ko16 at so16 eo16
    refine ⟨by show 2 ≤ sizeLine; decide, fun o17 no17 => ?_⟩
    have so17 : Same Ko16 (upd Ko16 o17 (.tup [.ref o16, .int 0])) := same_new no17
    have eo17 : upd Ko16 o17 (.tup [.ref o16, .int 0]) o17 = some (.tup [.ref o16, .int 0]) := upd_same
    generalize upd Ko16 o17 (.tup [.ref o16, .int 0]) = Ko17 at so17 eo17
    refine ⟨_, rfl, _, rfl, by show 2 ≤ sizeLine; decide, fun o18 no18 => ?_⟩
    have so18 : Same Ko17 (upd Ko17 o18 (.lst [.str "a", .str "a"])) := same_new no18
    have eo18 : upd Ko17 o18 (.lst [.str "a", .str "a"]) o18 = some (.lst [.str "a", .str "a"]) := upd_same
    generalize upd Ko17 o18 (.lst [.str "a", .str "a"]) = Ko18 at so18 eo18
    refine ⟨by show 3 ≤ sizeLine; decide, fun o19 no19 => ?_⟩
    have so19 : Same Ko18 (upd Ko18 o19 (.tup [.ref o1, .ref o1, .ref o18])) := same_new no19
    have eo19 : upd Ko18 o19 (.tup [.ref o1, .ref o1, .ref o18]) o19 = some (.tup [.ref o1, .ref o1, .ref o18]) := upd_same
    generalize upd Ko18 o19 (.tup [.ref o1, .ref o1, .ref o18]) = Ko19 at so19 eo19
    refine ⟨by show 2 ≤ sizeLine; decide, fun o20 no20 => ?_⟩
    have so20 : Same Ko19 (upd Ko19 o20 (.tup [.ref o19, .int 2])) := same_new no20
    have eo20 : upd Ko19 o20 (.tup [.ref o19, .int 2]) o20 = some (.tup [.ref o19, .int 2]) := upd_same
    generalize upd Ko19 o20 (.tup [.ref o19, .int 2]) = Ko20 at so20 eo20
    refine ⟨_, _, rfl, rfl, by decide, by decide, by decide +kernel, fun yo21 hyo21 => ?_⟩
    have hyo21 := a201 hyo21
    subst hyo21
    refine ⟨by show 2 ≤ sizeLine; decide, fun o22 no22 => ?_⟩
    have so22 : Same Ko20 (upd Ko20 o22 (.tup [.str ⟨(List.replicate 201 97).toArray⟩, .str "a"])) := same_new no22
    have eo22 : upd Ko20 o22 (.tup [.str ⟨(List.replicate 201 97).toArray⟩, .str "a"]) o22 = some (.tup [.str ⟨(List.replicate 201 97).toArray⟩, .str "a"]) := upd_same
    generalize upd Ko20 o22 (.tup [.str ⟨(List.replicate 201 97).toArray⟩, .str "a"]) = Ko22 at so22 eo22
    refine ⟨by show 1 ≤ sizeLine; decide, fun o23 no23 => ?_⟩
    have so23 : Same Ko22 (upd Ko22 o23 (.tup [.ref o22])) := same_new no23
    have eo23 : upd Ko22 o23 (.tup [.ref o22]) o23 = some (.tup [.ref o22]) := upd_same
    generalize upd Ko22 o23 (.tup [.ref o22]) = Ko23 at so23 eo23
    refine ⟨by show 2 ≤ sizeLine; decide, fun o24 no24 => ?_⟩
    have so24 : Same Ko23 (upd Ko23 o24 (.tup [.ref o23, .int 0])) := same_new no24
    have eo24 : upd Ko23 o24 (.tup [.ref o23, .int 0]) o24 = some (.tup [.ref o23, .int 0]) := upd_same
    generalize upd Ko23 o24 (.tup [.ref o23, .int 0]) = Ko24 at so24 eo24
    refine ⟨by show 3 ≤ sizeLine; decide, fun o25 no25 => ?_⟩
    have so25 : Same Ko24 (upd Ko24 o25 (.lst [.ref o17, .ref o20, .ref o24])) := same_new no25
    have eo25 : upd Ko24 o25 (.lst [.ref o17, .ref o20, .ref o24]) o25 = some (.lst [.ref o17, .ref o20, .ref o24]) := upd_same
    generalize upd Ko24 o25 (.lst [.ref o17, .ref o20, .ref o24]) = Ko25 at so25 eo25
    replace eo14 := so15 _ _ eo14
    replace eo14 := so16 _ _ eo14
    replace eo14 := so17 _ _ eo14
    replace eo14 := so18 _ _ eo14
    replace eo14 := so19 _ _ eo14
    replace eo14 := so20 _ _ eo14
    replace eo14 := so22 _ _ eo14
    replace eo14 := so23 _ _ eo14
    replace eo14 := so24 _ _ eo14
    replace eo14 := so25 _ _ eo14
    refine ⟨_, _, _, _, rfl, rfl, eo14, eo25, by show 6 + 3 ≤ sizeLine; decide, fun o26 no26 => ?_⟩
    have so26 : Same Ko25 (upd Ko25 o26 (.lst ([.ref o2, .ref o4, .ref o7, .ref o9, .ref o10, .ref o13] ++ [.ref o17, .ref o20, .ref o24]))) := same_new no26
    have eo26 : upd Ko25 o26 (.lst ([.ref o2, .ref o4, .ref o7, .ref o9, .ref o10, .ref o13] ++ [.ref o17, .ref o20, .ref o24])) o26 = some (.lst [.ref o2, .ref o4, .ref o7, .ref o9, .ref o10, .ref o13, .ref o17, .ref o20, .ref o24]) := upd_same
    generalize upd Ko25 o26 (.lst ([.ref o2, .ref o4, .ref o7, .ref o9, .ref o10, .ref o13] ++ [.ref o17, .ref o20, .ref o24])) = Ko26 at so26 eo26
    refine ⟨_, rfl, _, rfl, fun o27 no27 => ?_⟩
    have so27 : Same Ko26 (upd Ko26 o27 (.dK [])) := same_new no27
    have eo27 : upd Ko26 o27 (.dK []) o27 = some (.dK []) := upd_same
    generalize upd Ko26 o27 (.dK []) = Ko27 at so27 eo27
    refine ⟨by show 2 ≤ sizeLine; decide, fun o28 no28 => ?_⟩
    have so28 : Same Ko27 (upd Ko27 o28 (.tup [.ref o27, .non])) := same_new no28
    have eo28 : upd Ko27 o28 (.tup [.ref o27, .non]) o28 = some (.tup [.ref o27, .non]) := upd_same
    generalize upd Ko27 o28 (.tup [.ref o27, .non]) = Ko28 at so28 eo28
    refine ⟨by show 1 ≤ sizeLine; decide, fun o29 no29 => ?_⟩
    have so29 : Same Ko28 (upd Ko28 o29 (.lst [.ref o28])) := same_new no29
    have eo29 : upd Ko28 o29 (.lst [.ref o28]) o29 = some (.lst [.ref o28]) := upd_same
    generalize upd Ko28 o29 (.lst [.ref o28]) = Ko29 at so29 eo29
    replace eo26 := so27 _ _ eo26
    replace eo26 := so28 _ _ eo26
    replace eo26 := so29 _ _ eo26
    refine ⟨_, _, _, _, rfl, rfl, eo26, eo29, by show 9 + 1 ≤ sizeLine; decide, fun o30 no30 => ?_⟩
    have so30 : Same Ko29 (upd Ko29 o30 (.lst ([.ref o2, .ref o4, .ref o7, .ref o9, .ref o10, .ref o13, .ref o17, .ref o20, .ref o24] ++ [.ref o28]))) := same_new no30
    have eo30 : upd Ko29 o30 (.lst ([.ref o2, .ref o4, .ref o7, .ref o9, .ref o10, .ref o13, .ref o17, .ref o20, .ref o24] ++ [.ref o28])) o30 = some (.lst [.ref o2, .ref o4, .ref o7, .ref o9, .ref o10, .ref o13, .ref o17, .ref o20, .ref o24, .ref o28]) := upd_same
    generalize upd Ko29 o30 (.lst ([.ref o2, .ref o4, .ref o7, .ref o9, .ref o10, .ref o13, .ref o17, .ref o20, .ref o24] ++ [.ref o28])) = Ko30 at so30 eo30
    have to30 : Same Ko29 Ko30 := so30
    have to29 : Same Ko28 Ko30 := so29.trans to30
    have to28 : Same Ko27 Ko30 := so28.trans to29
    have to27 : Same Ko26 Ko30 := so27.trans to28
    have to26 : Same Ko25 Ko30 := so26.trans to27
    have to25 : Same Ko24 Ko30 := so25.trans to26
    have to24 : Same Ko23 Ko30 := so24.trans to25
    have to23 : Same Ko22 Ko30 := so23.trans to24
    have to22 : Same Ko20 Ko30 := so22.trans to23
    have to20 : Same Ko19 Ko30 := so20.trans to22
    have to19 : Same Ko18 Ko30 := so19.trans to20
    have to18 : Same Ko17 Ko30 := so18.trans to19
    have to17 : Same Ko16 Ko30 := so17.trans to18
    have to16 : Same Ko15 Ko30 := so16.trans to17
    have to15 : Same Ko14 Ko30 := so15.trans to16
    have to14 : Same Ko13 Ko30 := so14.trans to15
    have to13 : Same Ko12 Ko30 := so13.trans to14
    have to12 : Same Ko11 Ko30 := so12.trans to13
    have to11 : Same Ko10 Ko30 := so11.trans to12
    have to10 : Same Ko9 Ko30 := so10.trans to11
    have to9 : Same Ko8 Ko30 := so9.trans to10
    have to8 : Same Ko7 Ko30 := so8.trans to9
    have to7 : Same Ko6 Ko30 := so7.trans to8
    have to6 : Same Ko5 Ko30 := so6.trans to7
    have to5 : Same Ko4 Ko30 := so5.trans to6
    have to4 : Same Ko3 Ko30 := so4.trans to5
    have to3 : Same Ko2 Ko30 := so3.trans to4
    have to2 : Same Ko1 Ko30 := so2.trans to3
    have to1 : Same H Ko30 := so1.trans to2
    have eo1 := to2 _ _ eo1
    have eo2 := to3 _ _ eo2
    have eo3 := to4 _ _ eo3
    have eo4 := to5 _ _ eo4
    have eo5 := to6 _ _ eo5
    have eo6 := to7 _ _ eo6
    have eo7 := to8 _ _ eo7
    have eo8 := to9 _ _ eo8
    have eo9 := to10 _ _ eo9
    have eo10 := to11 _ _ eo10
    have eo11 := to12 _ _ eo11
    have eo12 := to13 _ _ eo12
    have eo13 := to14 _ _ eo13
    have eo14 := to26 _ _ eo14
    have eo15 := to16 _ _ eo15
    have eo16 := to17 _ _ eo16
    have eo17 := to18 _ _ eo17
    have eo18 := to19 _ _ eo18
    have eo19 := to20 _ _ eo19
    have eo20 := to22 _ _ eo20
    have eo22 := to23 _ _ eo22
    have eo23 := to24 _ _ eo23
    have eo24 := to25 _ _ eo24
    have eo25 := to26 _ _ eo25
    have eo26 := to30 _ _ eo26
    have eo27 := to28 _ _ eo27
    have eo28 := to29 _ _ eo28
    have eo29 := to30 _ _ eo29
    have To : Same H Ko30 := to1
    have LK : Ladled p H Ko30 := Ladled.ofSame hp To
    have hK := LK.pot
    have qo2 : BadP (SeensBad K) p Ko30 o2 := ⟨.non, .non, eo2, .inl rfl, fun J kp => .inl ⟨rfl, (.inl (isa_non (kit_ty (by decide +kernel))))⟩⟩
    have qo4 : BadP (SeensBad K) p Ko30 o4 := ⟨.ref o3, .non, eo4, .inl rfl, fun J kp => .inl ⟨rfl, (.inl (isa_lst (kp.lst0 hK eo3 (by show 1 ≠ 3; decide)) (kit_ty (by decide +kernel))))⟩⟩
    have qo7 : BadP (SeensBad K) p Ko30 o7 := ⟨.ref o6, .non, eo7, .inl rfl, fun J kp => .inl ⟨rfl, (.inr ⟨o6, _, rfl, .inl (.inl (kp.tup hK eo6)), fun z => absurd z (by show ¬ (0 ≤ 21 ∧ 21 ≤ 20); decide)⟩)⟩⟩
    have qo9 : BadP (SeensBad K) p Ko30 o9 := ⟨.ref o8, .int 1, eo9, .inr ⟨1, by decide, rfl⟩, fun J kp => .inr ⟨o8, _, 1, .str "ab", rfl, .inl (.inl (kp.tup hK eo8)), by show 2 ≤ 20; decide, (bef1 ⟨o1, _, _, rfl, .inl (.inl (kp.tup hK eo1)), ⟨_, rfl, by decide +kernel, by decide +kernel⟩, ⟨_, rfl, by decide +kernel, by decide +kernel⟩⟩), rfl, (.inl (.inl (isa_str (kit_ty (by decide +kernel))))), rfl⟩⟩
    have qo10 : BadP (SeensBad K) p Ko30 o10 := ⟨.ref o1, .int 0, eo10, .inr ⟨0, by decide, rfl⟩, fun J kp => .inr ⟨o1, _, 0, .str "ab", rfl, .inl (.inl (kp.tup hK eo1)), by show 2 ≤ 20; decide, (fun j y hj hy => absurd hj (Nat.not_lt_zero j)), rfl, (.inl (.inl (isa_str (kit_ty (by decide +kernel))))), rfl⟩⟩
    have qo13 : BadP (SeensBad K) p Ko30 o13 := ⟨.ref o12, .int 1, eo13, .inr ⟨1, by decide, rfl⟩, fun J kp => .inr ⟨o12, _, 1, .ref o11, rfl, .inl (.inl (kp.tup hK eo12)), by show 2 ≤ 20; decide, (bef1 ⟨o1, _, _, rfl, .inl (.inl (kp.tup hK eo1)), ⟨_, rfl, by decide +kernel, by decide +kernel⟩, ⟨_, rfl, by decide +kernel, by decide +kernel⟩⟩), rfl, (.inr ⟨o11, _, _, rfl, .inl (.inl (kp.tup hK eo11)), .inr ⟨⟨_, rfl, by decide +kernel, by decide +kernel⟩, (nt_str (by decide +kernel) (by decide +kernel))⟩⟩), rfl⟩⟩
    have qo17 : BadP (SeensBad K) p Ko30 o17 := ⟨.ref o16, .int 0, eo17, .inr ⟨0, by decide, rfl⟩, fun J kp => .inr ⟨o16, _, 0, .ref o15, rfl, .inl (.inl (kp.tup hK eo16)), by show 1 ≤ 20; decide, (fun j y hj hy => absurd hj (Nat.not_lt_zero j)), rfl, (.inl (.inr ⟨o15, _, rfl, .inl (.inl (kp.tup hK eo15)), fun z => absurd z (by show ¬ (2 ≤ 1 ∧ 1 ≤ 2); decide)⟩)), rfl⟩⟩
    have qo20 : BadP (SeensBad K) p Ko30 o20 := ⟨.ref o19, .int 2, eo20, .inr ⟨2, by decide, rfl⟩, fun J kp => .inr ⟨o19, _, 2, .ref o18, rfl, .inl (.inl (kp.tup hK eo19)), by show 3 ≤ 20; decide, (bef2 ⟨o1, _, _, rfl, .inl (.inl (kp.tup hK eo1)), ⟨_, rfl, by decide +kernel, by decide +kernel⟩, ⟨_, rfl, by decide +kernel, by decide +kernel⟩⟩ ⟨o1, _, _, rfl, .inl (.inl (kp.tup hK eo1)), ⟨_, rfl, by decide +kernel, by decide +kernel⟩, ⟨_, rfl, by decide +kernel, by decide +kernel⟩⟩), rfl, (.inl (.inl (isa_lst (kp.lst0 hK eo18 (by show 2 ≠ 3; decide)) (kit_ty (by decide +kernel))))), rfl⟩⟩
    have qo24 : BadP (SeensBad K) p Ko30 o24 := ⟨.ref o23, .int 0, eo24, .inr ⟨0, by decide, rfl⟩, fun J kp => .inr ⟨o23, _, 0, .ref o22, rfl, .inl (.inl (kp.tup hK eo23)), by show 1 ≤ 20; decide, (fun j y hj hy => absurd hj (Nat.not_lt_zero j)), rfl, (.inr ⟨o22, _, _, rfl, .inl (.inl (kp.tup hK eo22)), .inl (nt_str (by decide +kernel) (by decide +kernel))⟩), rfl⟩⟩
    have qo28 : BadP (SeensBad K) p Ko30 o28 := ⟨.ref o27, .non, eo28, .inl rfl, fun J kp => .inl ⟨rfl, (.inl (isa_dict (kp.dict hK eo27) (kit_ty (by decide +kernel))))⟩⟩
    refine ⟨p, hK, .inl ⟨o30, _, rfl, .inl (.inl eo30), pot_neR hK eo30, by show 0 < 10; decide, by show 10 < 1000; decide, fun v G mem L => ?_⟩⟩
    have kp := KeepP.ofL L
    have LH : Ladled p H G := LK.trans L
    simp only [List.mem_cons, List.not_mem_nil, or_false] at mem
    rcases mem with rfl | rfl | rfl | rfl | rfl | rfl | rfl | rfl | rfl | rfl
    · exact k _ G LH (qo2.keep hK kp)
    · exact k _ G LH (qo4.keep hK kp)
    · exact k _ G LH (qo7.keep hK kp)
    · exact k _ G LH (qo9.keep hK kp)
    · exact k _ G LH (qo10.keep hK kp)
    · exact k _ G LH (qo13.keep hK kp)
    · exact k _ G LH (qo17.keep hK kp)
    · exact k _ G LH (qo20.keep hK kp)
    · exact k _ G LH (qo24.keep hK kp)
    · exact k _ G LH (qo28.keep hK kp)
end
end Gu
namespace Gu
open PySem PySem.Spec PyProof.Rows L2 LamX
abbrev lamQ_law_right : Str := (envOfC "_law_right" (defScope s_law_right) 0 0 .none).qual ++ "<lambda>"
def spRightT (T : List (Addr × Str)) : Sp := fun vs H Q _ => ∃ (p : Addr), vs = [.ref p] ∧ Pot H p ∧ Tabs T H ∧ Sys H ∧ ∀ G, LadT T p H G → Q (.bl true) G
def OkW (P : Program) (w : World) (K : PySem.W.Frag) (mg : Str → Option Value) (base : Heap) (CK CM CX : Addr) (f : Addr) : Prop := AskAt P w K mg base 4 (spWX K CK CM CX) f
def OkG (P : Program) (w : World) (K : PySem.W.Frag) (mg : Str → Option Value) (base : Heap) (C CR CX : Addr) (f : Addr) : Prop := AskAt P w K mg base 4 (spGX K C CR CX) f
theorem nk_str {K : PySem.W.Frag} {G : Hp} {z : Str} (h : z ∉ kinds) : NoKind K G (.str z) := .inr ⟨z, rfl, h⟩
theorem repN {u : List (Str × V)} {i : Nat} {q : List (Str × V)} : u ++ (List.replicate (i + 1) q).flatten = (u ++ (List.replicate i q).flatten) ++ q := by
  rw [List.replicate_succ', List.flatten_append, List.append_assoc]
  simp
theorem Two.of {T : List (Addr × Str)} {p S D l : Addr} {G J : Hp} {fl : List V} {us : List (Str × V)} {ds : List (Addr × Str × V)} (Z : One T p G J S us) (d : SeenAt p J D ds) (ne : S ≠ D) (fd : D ≠ p ∧ ∀ o, G D = some o → ∃ ps, o = .tbl ps) (nl : J l = .none) : Two T p G (upd J l (.lst fl)) S D l fl us (ds.map (·.2)) := by
  have s := same_new (o := .lst fl) nl
  have Z2 := Z.same s
  have hs : S ≠ l := fun e => by
    obtain ⟨xs, h, _⟩ := Z.lsS
    rw [e, nl] at h
    cases h
  have hd : D ≠ l := fun e => by
    have h := d.ls
    rw [e, nl] at h
    cases h
  exact ⟨Z2.lad, Z2.fs, fd, ne, Z2.seen, ⟨ds, rfl, d.keep Z.lad.pot (KeepP.ofSame s)⟩, upd_same, Z.lad.pot.ne nl, Ne.symm hs, Ne.symm hd⟩
/-- what is due is made anew, with more -/
theorem Two.owedN {T : List (Addr × Str)} {p S D l : Addr} {G J : Hp} {fl : List V} {us vs : List (Str × V)} (h : Two T p G J S D l fl us vs) {E : Addr} {ws : List (Addr × Str × V)} {xs : List V} (e : ∀ q ∈ ws, J q.1 = some (.lst [.str q.2.1, q.2.2, .bl true])) (ex : J D = some (.lst xs)) (n : J E = .none) :
    Two T p G (upd J E (.lst (xs ++ ws.map fun q => V.ref q.1))) S E l fl us (vs ++ ws.map (·.2)) := by
  have s : Same J (upd J E (.lst (xs ++ ws.map fun q => V.ref q.1))) := same_new n
  have K := h.same s
  obtain ⟨q1, a1, b1⟩ := K.seen
  obtain ⟨q2, a2, b2⟩ := h.due
  cases ex.symm.trans b2.ls
  have nS : S ≠ E := by
    obtain ⟨q, _, b⟩ := h.seen
    exact ne_of_none b.ls n
  refine ⟨K.lad, h.fs, h.lad.free n, nS, ⟨q1, a1, b1⟩, ⟨q2 ++ ws, by rw [List.map_append, a2], ?_⟩, K.ll, h.lp, h.lS, ne_of_none h.ll n⟩
  refine ⟨by rw [upd_same, List.map_append], h.lad.pot.ne n, fun r hr => ?_⟩
  rcases List.mem_append.mp hr with hr | hr
  · exact ⟨s _ _ (b2.el r hr).1, ne_of_none (b2.el r hr).1 n⟩
  · exact ⟨s _ _ (e r hr), ne_of_none (e r hr) n⟩
section
variable {P : Program} {w : World} {K : PySem.W.Frag} {mg : Str → Option Value} {base : Heap} {C U CM CR CK CX CW c PT : Addr}
set_option maxHeartbeats 8000000 in
theorem cal_right (B : Bi mg) (SC : ShC K mg C) (Xs : ShX K C) (D : AtC K mg "_law_right" s_law_right ps_law_right c) (TB : TabB base mg c PT) (A_ended : At K mg "_law_ended" s_law_ended ps_law_ended) (UI : UpK K mg bVE "InputError" U) (T0 : ErrK K mg bVE U "InvalidMark" CM) (S0 : ErrF K "InvalidMark" "value" CM) (T1 : ErrK K mg bVE U "InvalidRow" CR) (S1 : ErrF K "InvalidRow" "index" CR) (T2 : ErrK K mg bVE U "InvalidRule" CK) (S2 : ErrF K "InvalidRule" "value" CK) (T3 : ErrK K mg bVE U "InvalidTexts" CX) (S3 : ErrF K "InvalidTexts" "index" CX) (T4 : ErrK K mg bVE U "InvalidWidth" CW) (S4 : ErrF K "InvalidWidth" "value" CW)
    (C_law_one_of : Cal P w K mg base 2 "_law_one_of" ps_law_one_of (spOneOf K)) (C_law_bad_list : Cal P w K mg base 3 "_law_bad_list" ps_law_bad_list (sp_law_bad_list K)) (C_law_bad_pairs : Cal P w K mg base 3 "_law_bad_pairs" ps_law_bad_pairs (sp_law_bad_pairs K)) (M_sh : Mak P w K mg base 3 "Shortener" C (spInit C))
    (CX_member : CalX P w K mg base 3 "member" ps_member (spMemX K CK CM CW)) (CX_fitting : CalX P w K mg base 4 "fitting" ps_fitting (spFX K CM CX))
    (a_widths : ∃ f, mg "widths" = some (.ref f) ∧ AskAt P w K mg base 4 (spWX K CK CM CX) f) (a_narrowest : ∃ f, mg "narrowest" = some (.ref f) ∧ AskAt P w K mg base 4 (spWX K CK CM CX) f) (a_groups : ∃ f, mg "groups" = some (.ref f) ∧ AskAt P w K mg base 4 (spGX K C CR CX) f) (a_tells_apart : ∃ f, mg "tells_apart" = some (.ref f) ∧ AskAt P w K mg base 4 (spGX K C CR CX) f)
    (C_member : Cal P w K mg base 6 "member" ps_member (spMember C)) (C_fitting : Cal P w K mg base 6 "fitting" ps_fitting spFitting) (C_groups : Cal P w K mg base 3 "groups" ps_groups (spGroups K C)) (C_widths : Cal P w K mg base 6 "widths" ps_widths (spWidths K)) : CalG P w K mg base 10 "_law_right" ps_law_right (spRightT [(PT, lamQ_law_right)]) := by
  obtain ⟨F_widths, G_widths, O_widths⟩ := a_widths
  obtain ⟨F_narrowest, G_narrowest, O_narrowest⟩ := a_narrowest
  obtain ⟨F_groups, G_groups, O_groups⟩ := a_groups
  obtain ⟨F_tells_apart, G_tells_apart, O_tells_apart⟩ := a_tells_apart
  have all1 : ∀ y ∈ [V.ref F_widths, V.ref F_narrowest], ∃ f, y = .ref f ∧ OkW P w K mg base CK CM CX f := fun y hy => by
    simp only [List.mem_cons, List.not_mem_nil, or_false] at hy
    rcases hy with rfl | rfl
    · exact ⟨_, rfl, O_widths⟩
    · exact ⟨_, rfl, O_narrowest⟩
  have all2 : ∀ y ∈ [V.ref F_groups, V.ref F_tells_apart], ∃ f, y = .ref f ∧ OkG P w K mg base C CR CX f := fun y hy => by
    simp only [List.mem_cons, List.not_mem_nil, or_false] at hy
    rcases hy with rfl | rfl
    · exact ⟨_, rfl, O_groups⟩
    · exact ⟨_, rfl, O_tells_apart⟩
  have mCM : (("InvalidMark" : Str), ("value" : Str), CM) ∈ [(("InvalidMark" : Str), ("value" : Str), CM), (("InvalidRow" : Str), ("index" : Str), CR), (("InvalidRule" : Str), ("value" : Str), CK), (("InvalidTexts" : Str), ("index" : Str), CX), (("InvalidWidth" : Str), ("value" : Str), CW)] := by simp
  have mCR : (("InvalidRow" : Str), ("index" : Str), CR) ∈ [(("InvalidMark" : Str), ("value" : Str), CM), (("InvalidRow" : Str), ("index" : Str), CR), (("InvalidRule" : Str), ("value" : Str), CK), (("InvalidTexts" : Str), ("index" : Str), CX), (("InvalidWidth" : Str), ("value" : Str), CW)] := by simp
  have mCK : (("InvalidRule" : Str), ("value" : Str), CK) ∈ [(("InvalidMark" : Str), ("value" : Str), CM), (("InvalidRow" : Str), ("index" : Str), CR), (("InvalidRule" : Str), ("value" : Str), CK), (("InvalidTexts" : Str), ("index" : Str), CX), (("InvalidWidth" : Str), ("value" : Str), CW)] := by simp
  have mCX : (("InvalidTexts" : Str), ("index" : Str), CX) ∈ [(("InvalidMark" : Str), ("value" : Str), CM), (("InvalidRow" : Str), ("index" : Str), CR), (("InvalidRule" : Str), ("value" : Str), CK), (("InvalidTexts" : Str), ("index" : Str), CX), (("InvalidWidth" : Str), ("value" : Str), CW)] := by simp
  have mCW : (("InvalidWidth" : Str), ("value" : Str), CW) ∈ [(("InvalidMark" : Str), ("value" : Str), CM), (("InvalidRow" : Str), ("index" : Str), CR), (("InvalidRule" : Str), ("value" : Str), CK), (("InvalidTexts" : Str), ("index" : Str), CX), (("InvalidWidth" : Str), ("value" : Str), CW)] := by simp
  refine D.calG sc_law_right (fun vs H Q E h => ?_) (fun f A outer s H vs Q E hr quiet h => ?_)
  · obtain ⟨p, rfl, _⟩ := h
    rfl
  · obtain ⟨p, rfl, hp, hT, hY, k⟩ := h
    refine ⟨_, (pss_cons (ps_set (i := 1) sc_law_right.nd rfl (.inr rfl) (pe_own C_law_one_of hr (by decide) (by rfl) (pa_cons (pv 0) (pa_cons (pe_lst (pa_cons pe_non (pa_cons pe_str (pa_cons pe_str (pa_cons pe_str (pa_cons pe_int (pa_cons (pe_tup (pa_cons pe_str pa_nil)) (pa_cons pe_bl (pa_cons pe_dnewK pa_nil))))))))) pa_nil))))
      (pss_cons (ps_set (i := 2) sc_law_right.nd rfl (.inr rfl) (pe_own C_law_one_of hr (by decide) (by rfl) (pa_cons (pv 0) (pa_cons (pe_lst (pa_cons pe_non (pa_cons pe_str (pa_cons pe_str (pa_cons pe_int (pa_cons (pe_tup (pa_cons pe_str pa_nil)) (pa_cons pe_bl pa_nil))))))) pa_nil))))
      (pss_cons (ps_set (i := 3) sc_law_right.nd rfl (.inr rfl) (pe_own C_law_one_of hr (by decide) (by rfl) (pa_cons (pv 0) (pa_cons (pe_lst (pa_cons pe_non (pa_cons pe_int (pa_cons pe_int (pa_cons (pe_un un_neg pe_int) (pa_cons pe_bl (pa_cons pe_str (pa_cons (pe_tup (pa_cons pe_int pa_nil)) (pa_cons (pe_op op_pow pe_int pe_int) pa_nil))))))))) pa_nil))))
      (pss_cons (ps_asg (pe_tup (pa_cons (pe_own C_law_bad_list hr (by decide) (by rfl) (pa_cons (pv 0) pa_nil)) (pa_cons (pe_own C_law_bad_pairs hr (by decide) (by rfl) (pa_cons (pv 0) pa_nil)) pa_nil))) (pg_tup rfl (pgs_cons (pg_tup rfl (pgs_cons (pg_name (i := 4) sc_law_right.nd rfl (.inr rfl)) (pgs_cons (pg_name (i := 5) sc_law_right.nd rfl (.inl rfl)) pgs_nil))) (pgs_cons (pg_tup rfl (pgs_cons (pg_name (i := 6) sc_law_right.nd rfl (.inr rfl)) (pgs_cons (pg_name (i := 7) sc_law_right.nd rfl (.inl rfl)) pgs_nil))) pgs_nil))))
      (pss_cons (ps_set (i := 8) sc_law_right.nd rfl (.inr rfl) (pe_new M_sh hr (by decide) (by rfl) (pa_cons pe_int (pa_cons pe_int (pa_cons pe_int (pa_cons pe_str pa_nil))))))
      (C8.pss_cut (ps_set (i := 9) sc_law_right.nd rfl (.inl rfl) (pe_lst (pa_cons (pe_lamE A_ended sc_law_ended (fun g cdv => ended_gives B UI T0 S0 T1 S1 T2 S2 T3 S3 T4 S4) TB hr (by decide) (by rfl) rfl (.inl rfl) rfl (List.mem_singleton.mpr rfl) (fun p hp _ => by rw [List.mem_singleton.mp hp]; rfl) (lamS_by (sc := defScope s_law_right) (by decide +kernel)) rfl (fun _ _ _ _ _ => rfl) (k := 4) (T := [(PT, lamQ_law_right)]) (fun A2 outer2 s2 H2 E2 f2 c2 hr => (pe_ownX CX_member hr (by decide) (takes_of rfl rfl rfl rfl) (fun _ _ _ _ h => h) (by rfl) (pa_cons (pv 1) (pa_cons (pv 2) (pa_cons (pv 3) pa_nil)))))) pa_nil)))
      (C8.pss_cut (ps_expr (pe_bm PySem.F.plainAttrs_list PySem.F.slot_list_append PySem.F.type_list_append mt_append (pv 9) (pa_cons (pe_lamE A_ended sc_law_ended (fun g cdv => ended_gives B UI T0 S0 T1 S1 T2 S2 T3 S3 T4 S4) TB hr (by decide) (by rfl) rfl (.inl rfl) rfl (List.mem_singleton.mpr rfl) (fun p hp _ => by rw [List.mem_singleton.mp hp]; rfl) (lamS_by (sc := defScope s_law_right) (by decide +kernel)) rfl (fun _ _ _ _ _ => rfl) (k := 4) (T := [(PT, lamQ_law_right)]) (fun A2 outer2 s2 H2 E2 f2 c2 hr => (pe_ownX CX_member hr (by decide) (takes_of rfl rfl rfl rfl) (fun _ _ _ _ h => h) (by rfl) (pa_cons pe_str (pa_cons (pv 2) (pa_cons (pv 3) pa_nil)))))) pa_nil)))
      (C8.pss_cut (ps_expr (pe_bm PySem.F.plainAttrs_list PySem.F.slot_list_append PySem.F.type_list_append mt_append (pv 9) (pa_cons (pe_lamE A_ended sc_law_ended (fun g cdv => ended_gives B UI T0 S0 T1 S1 T2 S2 T3 S3 T4 S4) TB hr (by decide) (by rfl) rfl (.inl rfl) rfl (List.mem_singleton.mpr rfl) (fun p hp _ => by rw [List.mem_singleton.mp hp]; rfl) (lamS_by (sc := defScope s_law_right) (by decide +kernel)) rfl (fun _ _ _ _ _ => rfl) (k := 4) (T := [(PT, lamQ_law_right)]) (fun A2 outer2 s2 H2 E2 f2 c2 hr => (pe_ownX CX_member hr (by decide) (takes_of rfl rfl rfl rfl) (fun _ _ _ _ h => h) (by rfl) (pa_cons pe_str (pa_cons pe_str (pa_cons (pv 3) pa_nil)))))) pa_nil)))
      (pss_cons (ps_set (i := 10) sc_law_right.nd rfl (.inl rfl) (pe_lst (pa_cons (pe_lst (pa_cons pe_str (pa_cons (pv 1) (pa_cons pe_bl pa_nil)))) (pa_cons (pe_lst (pa_cons pe_str (pa_cons (pv 2) (pa_cons pe_bl pa_nil)))) (pa_cons (pe_lst (pa_cons pe_str (pa_cons (pv 3) (pa_cons pe_bl pa_nil)))) pa_nil)))))
      (pss_cons (ps_for PassesOwn.never rfl (pi_list (pe_lst (pa_cons (pe_glob (v := .ref F_widths) (by rfl) G_widths rfl) (pa_cons (pe_glob (v := .ref F_narrowest) (by rfl) G_narrowest rfl) pa_nil)))) (pg_name (i := 11) sc_law_right.nd rfl (.inr rfl))
      (pss_cons (ps_expr (pe_bm PySem.F.plainAttrs_list PySem.F.slot_list_append PySem.F.type_list_append mt_append (pv 9) (pa_cons (pe_lamE A_ended sc_law_ended (fun g cdv => ended_gives B UI T0 S0 T1 S1 T2 S2 T3 S3 T4 S4) TB hr (by decide) (by rfl) rfl (.inl rfl) rfl (List.mem_singleton.mpr rfl) (fun p hp _ => by rw [List.mem_singleton.mp hp]; rfl) (lamS_by (sc := defScope s_law_right) (by decide +kernel)) rfl (fun _ _ _ _ _ => rfl) (k := 4) (T := [(PT, lamQ_law_right)]) (fun A2 outer2 s2 H2 E2 f2 c2 hr => (pe_callD (k := 4) (i := 11) (fun f => OkW P w K mg base CK CM CX f) (fun _ h => h) hr (by decide) (takes_of rfl rfl rfl rfl) (fun _ _ _ _ h => h) rfl (.inr (.inr rfl)) (pa_cons (pv 1) (pa_cons (pv 2) (pa_cons (pv 4) pa_nil)))))) pa_nil)))
      (pss_cons (ps_expr (pe_bm PySem.F.plainAttrs_list PySem.F.slot_list_append PySem.F.type_list_append mt_append (pv 9) (pa_cons (pe_lamE A_ended sc_law_ended (fun g cdv => ended_gives B UI T0 S0 T1 S1 T2 S2 T3 S3 T4 S4) TB hr (by decide) (by rfl) rfl (.inl rfl) rfl (List.mem_singleton.mpr rfl) (fun p hp _ => by rw [List.mem_singleton.mp hp]; rfl) (lamS_by (sc := defScope s_law_right) (by decide +kernel)) rfl (fun _ _ _ _ _ => rfl) (k := 4) (T := [(PT, lamQ_law_right)]) (fun A2 outer2 s2 H2 E2 f2 c2 hr => (pe_callD (k := 4) (i := 11) (fun f => OkW P w K mg base CK CM CX f) (fun _ h => h) hr (by decide) (takes_of rfl rfl rfl rfl) (fun _ _ _ _ h => h) rfl (.inr (.inr rfl)) (pa_cons pe_str (pa_cons (pv 2) (pa_cons (pv 4) pa_nil)))))) pa_nil)))
      (pss_cons (ps_expr (pe_bm PySem.F.plainAttrs_list PySem.F.slot_list_append PySem.F.type_list_append mt_append (pv 9) (pa_cons (pe_lamE A_ended sc_law_ended (fun g cdv => ended_gives B UI T0 S0 T1 S1 T2 S2 T3 S3 T4 S4) TB hr (by decide) (by rfl) rfl (.inl rfl) rfl (List.mem_singleton.mpr rfl) (fun p hp _ => by rw [List.mem_singleton.mp hp]; rfl) (lamS_by (sc := defScope s_law_right) (by decide +kernel)) rfl (fun _ _ _ _ _ => rfl) (k := 4) (T := [(PT, lamQ_law_right)]) (fun A2 outer2 s2 H2 E2 f2 c2 hr => (pe_callD (k := 4) (i := 11) (fun f => OkW P w K mg base CK CM CX f) (fun _ h => h) hr (by decide) (takes_of rfl rfl rfl rfl) (fun _ _ _ _ h => h) rfl (.inr (.inr rfl)) (pa_cons pe_str (pa_cons pe_str (pa_cons (pv 4) pa_nil)))))) pa_nil)))
      (pss_one (ps_set (i := 10) sc_law_right.nd rfl (.inl rfl) (pe_op op_cat (pv 10) (pe_lst (pa_cons (pe_lst (pa_cons pe_str (pa_cons (pv 1) (pa_cons pe_bl pa_nil)))) (pa_cons (pe_lst (pa_cons pe_str (pa_cons (pv 2) (pa_cons pe_bl pa_nil)))) (pa_cons (pe_lst (pa_cons pe_str (pa_cons (pv 5) (pa_cons pe_bl pa_nil)))) pa_nil)))))))))))
      (pss_cons (ps_for PassesOwn.never rfl (pi_list (pe_lst (pa_cons (pe_glob (v := .ref F_groups) (by rfl) G_groups rfl) (pa_cons (pe_glob (v := .ref F_tells_apart) (by rfl) G_tells_apart rfl) pa_nil)))) (pg_name (i := 11) sc_law_right.nd rfl (.inr rfl))
      (pss_cons (ps_expr (pe_bm PySem.F.plainAttrs_list PySem.F.slot_list_append PySem.F.type_list_append mt_append (pv 9) (pa_cons (pe_lamE A_ended sc_law_ended (fun g cdv => ended_gives B UI T0 S0 T1 S1 T2 S2 T3 S3 T4 S4) TB hr (by decide) (by rfl) rfl (.inl rfl) rfl (List.mem_singleton.mpr rfl) (fun p hp _ => by rw [List.mem_singleton.mp hp]; rfl) (lamS_by (sc := defScope s_law_right) (by decide +kernel)) rfl (fun _ _ _ _ _ => rfl) (k := 4) (T := [(PT, lamQ_law_right)]) (fun A2 outer2 s2 H2 E2 f2 c2 hr => (pe_callD (k := 4) (i := 11) (fun f => OkG P w K mg base C CR CX f) (fun _ h => h) hr (by decide) (takes_of rfl rfl rfl rfl) (fun _ _ _ _ h => h) rfl (.inr (.inr rfl)) (pa_cons (pe_tup (pa_cons (pv 8) (pa_cons pe_non pa_nil))) (pa_cons (pv 4) pa_nil))))) pa_nil)))
      (pss_cons (ps_expr (pe_bm PySem.F.plainAttrs_list PySem.F.slot_list_append PySem.F.type_list_append mt_append (pv 9) (pa_cons (pe_lamE A_ended sc_law_ended (fun g cdv => ended_gives B UI T0 S0 T1 S1 T2 S2 T3 S3 T4 S4) TB hr (by decide) (by rfl) rfl (.inl rfl) rfl (List.mem_singleton.mpr rfl) (fun p hp _ => by rw [List.mem_singleton.mp hp]; rfl) (lamS_by (sc := defScope s_law_right) (by decide +kernel)) rfl (fun _ _ _ _ _ => rfl) (k := 4) (T := [(PT, lamQ_law_right)]) (fun A2 outer2 s2 H2 E2 f2 c2 hr => (pe_callD (k := 4) (i := 11) (fun f => OkG P w K mg base C CR CX f) (fun _ h => h) hr (by decide) (takes_of rfl rfl rfl rfl) (fun _ _ _ _ h => h) rfl (.inr (.inr rfl)) (pa_cons (pe_tup (pa_cons (pv 8) pa_nil)) (pa_cons (pv 4) pa_nil))))) pa_nil)))
      (pss_one (ps_set (i := 10) sc_law_right.nd rfl (.inl rfl) (pe_op op_cat (pv 10) (pe_lst (pa_cons (pe_lst (pa_cons pe_str (pa_cons pe_int (pa_cons pe_bl pa_nil)))) (pa_cons (pe_lst (pa_cons pe_str (pa_cons (pv 5) (pa_cons pe_bl pa_nil)))) pa_nil)))))))))
      (pss_cons (ps_expr (pe_bm PySem.F.plainAttrs_list PySem.F.slot_list_append PySem.F.type_list_append mt_append (pv 9) (pa_cons (pe_lamE A_ended sc_law_ended (fun g cdv => ended_gives B UI T0 S0 T1 S1 T2 S2 T3 S3 T4 S4) TB hr (by decide) (by rfl) rfl (.inl rfl) rfl (List.mem_singleton.mpr rfl) (fun p hp _ => by rw [List.mem_singleton.mp hp]; rfl) (lamS_by (sc := defScope s_law_right) (by decide +kernel)) rfl (fun _ _ _ _ _ => rfl) (k := 4) (T := [(PT, lamQ_law_right)]) (fun A2 outer2 s2 H2 E2 f2 c2 hr => (pe_ownX CX_fitting hr (by decide) (takes_of rfl rfl rfl rfl) (fun _ _ _ _ h => h) (by rfl) (pa_cons (pv 2) (pa_cons (pv 6) pa_nil))))) pa_nil)))
      (pss_cons (ps_expr (pe_bm PySem.F.plainAttrs_list PySem.F.slot_list_append PySem.F.type_list_append mt_append (pv 9) (pa_cons (pe_lamE A_ended sc_law_ended (fun g cdv => ended_gives B UI T0 S0 T1 S1 T2 S2 T3 S3 T4 S4) TB hr (by decide) (by rfl) rfl (.inl rfl) rfl (List.mem_singleton.mpr rfl) (fun p hp _ => by rw [List.mem_singleton.mp hp]; rfl) (lamS_by (sc := defScope s_law_right) (by decide +kernel)) rfl (fun _ _ _ _ _ => rfl) (k := 4) (T := [(PT, lamQ_law_right)]) (fun A2 outer2 s2 H2 E2 f2 c2 hr => (pe_ownX CX_fitting hr (by decide) (takes_of rfl rfl rfl rfl) (fun _ _ _ _ h => h) (by rfl) (pa_cons pe_str (pa_cons (pv 6) pa_nil))))) pa_nil)))
      (pss_cons (ps_set (i := 10) sc_law_right.nd rfl (.inl rfl) (pe_op op_cat (pv 10) (pe_lst (pa_cons (pe_lst (pa_cons pe_str (pa_cons (pv 2) (pa_cons pe_bl pa_nil)))) (pa_cons (pe_lst (pa_cons pe_str (pa_cons (pv 7) (pa_cons pe_bl pa_nil)))) pa_nil)))))
      (pss_cons (ps_if (pt_cmpR op_ne (pe_callB (call_reprE quiet hr.units) (by rfl) B.repr (by decide +kernel) (pa_cons (pv 9) pa_nil)) (pe_callB (call_reprE quiet hr.units) (by rfl) B.repr (by decide +kernel) (pa_cons (pv 10) pa_nil)) (nomark _)) (pss_one (ps_ret pe_bl)) pss_nil)
      (pss_cons (ps_set (i := 12) sc_law_right.nd rfl (.inl rfl) (pe_lst (pa_cons (pe_fld (pe_own C_member hr (by decide) (by rfl) (pa_cons pe_str (pa_cons pe_str (pa_cons pe_int pa_nil)))) rfl) (pa_cons (pe_fld (pe_own C_member hr (by decide) (by rfl) (pa_cons pe_str (pa_cons pe_str (pa_cons pe_int pa_nil)))) rfl) (pa_cons (pe_callB call_len (by rfl) B.len (by decide +kernel) (pa_cons (pe_own C_fitting hr (by decide) (by rfl) (pa_cons pe_str (pa_cons (pe_tup pa_nil) pa_nil))) pa_nil)) (pa_cons (pe_own C_groups hr (by decide) (by rfl) (pa_cons (pe_tup (pa_cons (pv 8) pa_nil)) (pa_cons (pe_tup pa_nil) pa_nil))) pa_nil))))))
      (pss_one (ps_ret (pe_and (pe_cmpR (op_eqD hr.units) (pv 12) (pe_lst (pa_cons (pe_tup (pa_cons pe_int (pa_cons pe_int (pa_cons pe_int (pa_cons pe_str pa_nil))))) (pa_cons (pe_tup (pa_cons pe_int (pa_cons pe_int (pa_cons pe_int (pa_cons pe_str pa_nil))))) (pa_cons pe_int (pa_cons (pe_tup pa_nil) pa_nil))))) (nomark _)) (pe_one (pe_cmpR op_eq (pe_ix ix_tup (pe_own C_widths hr (by decide) (by rfl) (pa_cons pe_str (pa_cons pe_str (pa_cons (pe_op op_repT (pe_tup (pa_cons (pe_op op_mul_strN pe_str pe_int) pa_nil)) pe_int) pa_nil)))) (pe_un un_neg pe_int) (fun _ _ => rfl)) pe_int (nomark _)))))))))))))))))))))), ?_⟩
    have LI : LadT [(PT, lamQ_law_right)] p H H := .refl hp hT hY
    refine ⟨_, rfl, by show 1 ≤ sizeLine; decide, fun o1_1 no1_1 => ?_⟩
    have so1_1 : Same H (upd H o1_1 (.tup [.str "end"])) := same_new no1_1
    have eo1_1 : upd H o1_1 (.tup [.str "end"]) o1_1 = some (.tup [.str "end"]) := upd_same
    generalize upd H o1_1 (.tup [.str "end"]) = Ko1_1 at so1_1 eo1_1
    refine fun o1_2 no1_2 => ?_
    have so1_2 : Same Ko1_1 (upd Ko1_1 o1_2 (.dK [])) := same_new no1_2
    have eo1_2 : upd Ko1_1 o1_2 (.dK []) o1_2 = some (.dK []) := upd_same
    generalize upd Ko1_1 o1_2 (.dK []) = Ko1_2 at so1_2 eo1_2
    refine ⟨by show 8 ≤ sizeLine; decide, fun o1_3 no1_3 => ?_⟩
    have so1_3 : Same Ko1_2 (upd Ko1_2 o1_3 (.lst [.non, .str "", .str "End", .str "endstart", .int 5, .ref o1_1, .bl true, .ref o1_2])) := same_new no1_3
    have eo1_3 : upd Ko1_2 o1_3 (.lst [.non, .str "", .str "End", .str "endstart", .int 5, .ref o1_1, .bl true, .ref o1_2]) o1_3 = some (.lst [.non, .str "", .str "End", .str "endstart", .int 5, .ref o1_1, .bl true, .ref o1_2]) := upd_same
    generalize upd Ko1_2 o1_3 (.lst [.non, .str "", .str "End", .str "endstart", .int 5, .ref o1_1, .bl true, .ref o1_2]) = Ko1_3 at so1_3 eo1_3
    have to1_3 : Same Ko1_2 Ko1_3 := so1_3
    have to1_2 : Same Ko1_1 Ko1_3 := so1_2.trans to1_3
    have to1_1 : Same H Ko1_3 := so1_1.trans to1_2
    have eo1_1 := to1_2 _ _ eo1_1
    have eo1_2 := to1_3 _ _ eo1_2
    have To1_ : Same H Ko1_3 := to1_1
    have LK := LI.same To1_
    refine ⟨p, LK.pot, .inl ⟨o1_3, _, rfl, .inl (.inl eo1_3), pot_neL LK.pot eo1_3 (by show 8 ≠ 3; decide), by show 0 < 8; decide, by show 8 < 1000; decide, fun v1 P1 mem Lv => ?_⟩⟩
    have b1 : ∃ d, Thing K p Ko1_3 v1 d (fun G v => NoKind K G v) := by
      simp only [List.mem_cons, List.not_mem_nil, or_false] at mem
      rcases mem with rfl | rfl | rfl | rfl | rfl | rfl | rfl | rfl
      · exact th_non fun G => .inl (isa_non (kit_ty (by decide +kernel)))
      · exact th_str (by decide +kernel) (by decide +kernel) fun G => nk_str (by decide +kernel)
      · exact th_str (by decide +kernel) (by decide +kernel) fun G => nk_str (by decide +kernel)
      · exact th_str (by decide +kernel) (by decide +kernel) fun G => nk_str (by decide +kernel)
      · exact th_int (by decide) fun G => .inl (isa_int (kit_ty (by decide +kernel)))
      · exact th_tup (ds := [.str "end"]) LK.pot eo1_1 ((FineAll.of fun d hd => by rw [List.mem_singleton.mp hd]; exact Fine.str (W := 3) (by decide +kernel) (by decide +kernel)).tup.e.mono (by decide) (by decide)) (fun G _ => (.cons (.str _) .nil)) fun G e => .inl (isa_tup e (kit_ty (by decide +kernel)))
      · exact th_bl fun G => .inl (isa_bl (kit_ty (by decide +kernel)))
      · exact th_dict LK.pot eo1_2 fun G e => .inl (isa_dict e (kit_ty (by decide +kernel)))
    obtain ⟨D1, b1⟩ := b1
    have kv := KeepP.ofL Lv
    have b1 := b1.at kv
    have kq := (KeepP.ofSame To1_).trans kv
    have LI := LK.lad Lv
    clear mem Lv LK kv kq
    clear so1_1 eo1_1 no1_1 to1_1 so1_2 eo1_2 no1_2 to1_2 so1_3 eo1_3 no1_3 to1_3 To1_
    refine ⟨_, rfl, by show 1 ≤ sizeLine; decide, fun o2_1 no2_1 => ?_⟩
    have so2_1 : Same P1 (upd P1 o2_1 (.tup [.str "."])) := same_new no2_1
    have eo2_1 : upd P1 o2_1 (.tup [.str "."]) o2_1 = some (.tup [.str "."]) := upd_same
    generalize upd P1 o2_1 (.tup [.str "."]) = Ko2_1 at so2_1 eo2_1
    refine ⟨by show 6 ≤ sizeLine; decide, fun o2_2 no2_2 => ?_⟩
    have so2_2 : Same Ko2_1 (upd Ko2_1 o2_2 (.lst [.non, .str "....", .str "A", .int 5, .ref o2_1, .bl true])) := same_new no2_2
    have eo2_2 : upd Ko2_1 o2_2 (.lst [.non, .str "....", .str "A", .int 5, .ref o2_1, .bl true]) o2_2 = some (.lst [.non, .str "....", .str "A", .int 5, .ref o2_1, .bl true]) := upd_same
    generalize upd Ko2_1 o2_2 (.lst [.non, .str "....", .str "A", .int 5, .ref o2_1, .bl true]) = Ko2_2 at so2_2 eo2_2
    have to2_2 : Same Ko2_1 Ko2_2 := so2_2
    have to2_1 : Same P1 Ko2_2 := so2_1.trans to2_2
    have eo2_1 := to2_2 _ _ eo2_1
    have To2_ : Same P1 Ko2_2 := to2_1
    have LK := LI.same To2_
    refine ⟨p, LK.pot, .inl ⟨o2_2, _, rfl, .inl (.inl eo2_2), pot_neL LK.pot eo2_2 (by show 6 ≠ 3; decide), by show 0 < 6; decide, by show 6 < 1000; decide, fun v2 P2 mem Lv => ?_⟩⟩
    have b2 : ∃ d, Thing K p Ko2_2 v2 d (fun G v => NoTxt K G 3 v) := by
      simp only [List.mem_cons, List.not_mem_nil, or_false] at mem
      rcases mem with rfl | rfl | rfl | rfl | rfl | rfl
      · exact th_non fun G => nt_non
      · exact th_str (by decide +kernel) (by decide +kernel) fun G => nt_str (by decide +kernel) (by decide +kernel)
      · exact th_str (by decide +kernel) (by decide +kernel) fun G => nt_str (by decide +kernel) (by decide +kernel)
      · exact th_int (by decide) fun G => nt_int
      · exact th_tup (ds := [.str "."]) LK.pot eo2_1 ((FineAll.of fun d hd => by rw [List.mem_singleton.mp hd]; exact Fine.str (W := 1) (by decide +kernel) (by decide +kernel)).tup.e.mono (by decide) (by decide)) (fun G _ => (.cons (.str _) .nil)) fun G e => nt_tup e
      · exact th_bl fun G => nt_bl
    obtain ⟨D2, b2⟩ := b2
    have kv := KeepP.ofL Lv
    have b2 := b2.at kv
    have kq := (KeepP.ofSame To2_).trans kv
    have b1 := b1.at kq
    have LI := LK.lad Lv
    clear mem Lv LK kv kq
    clear so2_1 eo2_1 no2_1 to2_1 so2_2 eo2_2 no2_2 to2_2 To2_
    refine ⟨_, rfl, _, rfl, by show 1 ≤ sizeLine; decide, fun o3_1 no3_1 => ?_⟩
    have so3_1 : Same P2 (upd P2 o3_1 (.tup [.int 3])) := same_new no3_1
    have eo3_1 : upd P2 o3_1 (.tup [.int 3]) o3_1 = some (.tup [.int 3]) := upd_same
    generalize upd P2 o3_1 (.tup [.int 3]) = Ko3_1 at so3_1 eo3_1
    refine ⟨_, _, rfl, rfl, ⟨by decide, by decide, by decide⟩, by show 8 ≤ sizeLine; decide, fun o3_2 no3_2 => ?_⟩
    have so3_2 : Same Ko3_1 (upd Ko3_1 o3_2 (.lst [.non, .int 1, .int 41, .int (-1), .bl true, .str "3", .ref o3_1, .int (10 ^ (19 : Int).toNat)])) := same_new no3_2
    have eo3_2 : upd Ko3_1 o3_2 (.lst [.non, .int 1, .int 41, .int (-1), .bl true, .str "3", .ref o3_1, .int (10 ^ (19 : Int).toNat)]) o3_2 = some (.lst [.non, .int 1, .int 41, .int (-1), .bl true, .str "3", .ref o3_1, .int (10 ^ (19 : Int).toNat)]) := upd_same
    generalize upd Ko3_1 o3_2 (.lst [.non, .int 1, .int 41, .int (-1), .bl true, .str "3", .ref o3_1, .int (10 ^ (19 : Int).toNat)]) = Ko3_2 at so3_2 eo3_2
    have to3_2 : Same Ko3_1 Ko3_2 := so3_2
    have to3_1 : Same P2 Ko3_2 := so3_1.trans to3_2
    have eo3_1 := to3_2 _ _ eo3_1
    have To3_ : Same P2 Ko3_2 := to3_1
    have LK := LI.same To3_
    refine ⟨p, LK.pot, .inl ⟨o3_2, _, rfl, .inl (.inl eo3_2), pot_neL LK.pot eo3_2 (by show 8 ≠ 3; decide), by show 0 < 8; decide, by show 8 < 1000; decide, fun v3 P3 mem Lv => ?_⟩⟩
    have b3 : ∃ d, Thing K p Ko3_2 v3 d (fun G v => NoNumL K G 2 40 v) := by
      simp only [List.mem_cons, List.not_mem_nil, or_false] at mem
      rcases mem with rfl | rfl | rfl | rfl | rfl | rfl | rfl | rfl
      · exact th_non fun G => .inr (.inl (isa_non (kit_ty (by decide +kernel))))
      · exact th_int (by decide) fun G => .inl ⟨_, rfl, by decide⟩
      · exact th_int (by decide) fun G => .inl ⟨_, rfl, by decide⟩
      · exact th_int (by decide) fun G => .inl ⟨_, rfl, by decide⟩
      · exact th_bl fun G => .inr (.inr ⟨isa_bl (kit_ty (by decide +kernel)), isa_bl (kit_ty (by decide +kernel))⟩)
      · exact th_str (by decide +kernel) (by decide +kernel) fun G => .inr (.inl (isa_str (kit_ty (by decide +kernel))))
      · exact th_tup (ds := [.int 3]) LK.pot eo3_1 ((FineAll.of fun d hd => by rw [List.mem_singleton.mp hd]; exact Fine.int (by decide)).tup.e.mono (by decide) (by decide)) (fun G _ => (.cons (.int _) .nil)) fun G e => .inr (.inl (isa_tup e (kit_ty (by decide +kernel))))
      · exact th_int (by decide) fun G => .inl ⟨_, rfl, by decide⟩
    obtain ⟨D3, b3⟩ := b3
    have kv := KeepP.ofL Lv
    have b3 := b3.at kv
    have kq := (KeepP.ofSame To3_).trans kv
    have b1 := b1.at kq
    have b2 := b2.at kq
    have LI := LK.lad Lv
    clear mem Lv LK kv kq
    clear so3_1 eo3_1 no3_1 to3_1 so3_2 eo3_2 no3_2 to3_2 To3_
    refine ⟨_, rfl, p, rfl, LI.pot, fun ta Pa1 Lv B1 => ?_⟩
    have kq := KeepP.ofL Lv
    have b1 := b1.at kq
    have b2 := b2.at kq
    have b3 := b3.at kq
    have LI := LI.lad Lv
    clear Lv kq
    refine ⟨_, rfl, p, rfl, LI.pot, fun tb Pa2 Lv B2 => ?_⟩
    have kq := KeepP.ofL Lv
    have b1 := b1.at kq
    have b2 := b2.at kq
    have b3 := b3.at kq
    have B1 := B1.keep LI.pot kq
    have LI := LI.lad Lv
    clear Lv kq
    refine ⟨by show 2 ≤ sizeLine; decide, fun W nW => ?_⟩
    have sW : Same Pa2 (upd Pa2 W (.tup [.ref ta, .ref tb])) := same_new nW
    have eW : upd Pa2 W (.tup [.ref ta, .ref tb]) W = some (.tup [.ref ta, .ref tb]) := upd_same
    generalize upd Pa2 W (.tup [.ref ta, .ref tb]) = G3 at sW eW
    have kq := KeepP.ofSame (p := p) sW
    have b1 := b1.at kq
    have b2 := b2.at kq
    have b3 := b3.at kq
    have B1 := B1.keep LI.pot kq
    have B2 := B2.keep LI.pot kq
    have LI := LI.same sW
    obtain ⟨v4, s4, ea, so4, bad4⟩ := B1
    obtain ⟨v5, s5, eb, so5, bad5⟩ := B2
    refine ⟨W, _, rfl, .inl (.inl eW), rfl, _, _, rfl, ta, _, rfl, .inl (.inl ea), rfl, _, _, rfl, _, _, rfl, rfl, _, _, rfl, tb, _, rfl, .inl (.inl eb), rfl, _, _, rfl, _, _, rfl, rfl, rfl, ?_⟩
    clear ea eb eW sW nW kq
    refine fun x dx nx nd ne => ?_
    have s1 : Same G3 (upd (upd G3 dx (.own x)) x (.ins C dx [])) := (same_new nd).trans (same_new (by rw [upd_ne (Ne.symm ne)]; exact nx))
    have e1 : upd (upd G3 dx (.own x)) x (.ins C dx []) x = some (.ins C dx []) := upd_same
    have i1 : G3 x = none := nx
    generalize upd (upd G3 dx (.own x)) x (.ins C dx []) = H1 at s1 e1
    refine ⟨x, dx, one05, rfl, e1, one05_fit, fun t1 Gx nt1 g1 g2 g3 => ⟨rfl, ?_⟩⟩
    have s2 : Same G3 Gx := fun b o e => g3 b o (s1 _ _ e) (ne_of_none e i1)
    have kq := KeepP.ofSame (p := p) s2
    have b1 := b1.at kq
    have b2 := b2.at kq
    have b3 := b3.at kq
    have bad4 := fun J (h : KeepP p Gx J) => bad4 J (kq.trans h)
    have bad5 := fun J (h : KeepP p Gx J) => bad5 J (kq.trans h)
    have LI := LI.same s2
    have shx : ShAt C Gx x one05 := ⟨dx, t1, g1, g2⟩
    clear g3 g2 g1 s1 s2 e1 nt1 i1 nx nd ne kq
    obtain ⟨dz, tz, exx, _⟩ := id shx
    have LG : LadT [(PT, lamQ_law_right)] p Gx Gx := .refl LI.pot LI.tabs LI.sys
    refine ⟨fun σ J => ∃ S : Addr, σ = [some (.ref p), some v1, some v2, some v3, some v4, some s4, some v5, some s5, some (.ref x), some (.ref S), none, none, none] ∧ One [(PT, lamQ_law_right)] p Gx J S [(("InvalidRule" : Str), v1)], ?_, ?_⟩
    · refine lam_raise (C := CK) (Fl := "value") (N := "InvalidRule") (v := v1) mCK LG (fun q J1 M e => ?_) (fun E J1 M r => ⟨_, rfl, _, rfl, _, rfl, v1, v2, v3, rfl, .inl ⟨(b1.2 J1 M.kp).2, r⟩⟩)
      exact ⟨by show 1 ≤ sizeLine; decide, fun S nS => ⟨S, rfl, One.first M nS e⟩⟩
    rintro σ I1 ⟨S, rfl, Z1⟩
    refine ⟨fun σ J => σ = [some (.ref p), some v1, some v2, some v3, some v4, some s4, some v5, some s5, some (.ref x), some (.ref S), none, none, none] ∧ One [(PT, lamQ_law_right)] p Gx J S [(("InvalidRule" : Str), v1), (("InvalidMark" : Str), v2)], ?_, ?_⟩
    · obtain ⟨xs, eS, lx⟩ := Z1.lsS
      refine ⟨_, rfl, .inl ⟨rfl, _, .inl (.inl eS)⟩, ?_⟩
      refine lam_raise (C := CM) (Fl := "value") (N := "InvalidMark") (v := v2) mCM Z1.lad.here (fun q J1 M e => ?_) (fun E J1 M r => ⟨_, rfl, _, rfl, .str "end", v2, v3, rfl, .inr (.inl ⟨⟨.e, rfl⟩, (b2.2 J1 (Z1.kp.trans M.kp)).2, r⟩)⟩)
      have Y := Z1.keep M
      clear eS lx xs
      obtain ⟨xs, eS, lx⟩ := Y.lsS
      exact ⟨S, xs, _, rfl, rfl, eS, by rw [lx, sizeLine_eq]; show 1 < 16777216; decide, rfl, Y.say e eS⟩
    clear Z1
    rintro σ I2 ⟨rfl, Z2⟩
    refine ⟨fun σ J => σ = [some (.ref p), some v1, some v2, some v3, some v4, some s4, some v5, some s5, some (.ref x), some (.ref S), none, none, none] ∧ One [(PT, lamQ_law_right)] p Gx J S [(("InvalidRule" : Str), v1), (("InvalidMark" : Str), v2), (("InvalidWidth" : Str), v3)], ?_, ?_⟩
    · obtain ⟨xs, eS, lx⟩ := Z2.lsS
      refine ⟨_, rfl, .inl ⟨rfl, _, .inl (.inl eS)⟩, ?_⟩
      refine lam_raise (C := CW) (Fl := "value") (N := "InvalidWidth") (v := v3) mCW Z2.lad.here (fun q J1 M e => ?_) (fun E J1 M r => ⟨_, rfl, .str "middle", .str "..", v3, rfl, .inr (.inr ⟨⟨.m, rfl⟩, ⟨"..", rfl, by decide +kernel, by decide +kernel, (b3.2 J1 (Z2.kp.trans M.kp)).2⟩, r⟩)⟩)
      have Y := Z2.keep M
      clear eS lx xs
      obtain ⟨xs, eS, lx⟩ := Y.lsS
      exact ⟨S, xs, _, rfl, rfl, eS, by rw [lx, sizeLine_eq]; show 2 < 16777216; decide, rfl, Y.say e eS⟩
    clear Z2
    rintro σ I3 ⟨rfl, Z3⟩
    refine ⟨_, rfl, by show 3 ≤ sizeLine; decide, fun w1 nw1 => ?_⟩
    have sw1 : Same I3 (upd I3 w1 (.lst [.str "InvalidRule", v1, .bl true])) := same_new nw1
    have ew1 : upd I3 w1 (.lst [.str "InvalidRule", v1, .bl true]) w1 = some (.lst [.str "InvalidRule", v1, .bl true]) := upd_same
    generalize upd I3 w1 (.lst [.str "InvalidRule", v1, .bl true]) = Kw1 at sw1 ew1
    refine ⟨_, rfl, by show 3 ≤ sizeLine; decide, fun w2 nw2 => ?_⟩
    have sw2 : Same Kw1 (upd Kw1 w2 (.lst [.str "InvalidMark", v2, .bl true])) := same_new nw2
    have ew2 : upd Kw1 w2 (.lst [.str "InvalidMark", v2, .bl true]) w2 = some (.lst [.str "InvalidMark", v2, .bl true]) := upd_same
    generalize upd Kw1 w2 (.lst [.str "InvalidMark", v2, .bl true]) = Kw2 at sw2 ew2
    refine ⟨_, rfl, by show 3 ≤ sizeLine; decide, fun w3 nw3 => ?_⟩
    have sw3 : Same Kw2 (upd Kw2 w3 (.lst [.str "InvalidWidth", v3, .bl true])) := same_new nw3
    have ew3 : upd Kw2 w3 (.lst [.str "InvalidWidth", v3, .bl true]) w3 = some (.lst [.str "InvalidWidth", v3, .bl true]) := upd_same
    generalize upd Kw2 w3 (.lst [.str "InvalidWidth", v3, .bl true]) = Kw3 at sw3 ew3
    refine ⟨by show 3 ≤ sizeLine; decide, fun w4 nw4 => ?_⟩
    have sw4 : Same Kw3 (upd Kw3 w4 (.lst [.ref w1, .ref w2, .ref w3])) := same_new nw4
    have ew4 : upd Kw3 w4 (.lst [.ref w1, .ref w2, .ref w3]) w4 = some (.lst [.ref w1, .ref w2, .ref w3]) := upd_same
    generalize upd Kw3 w4 (.lst [.ref w1, .ref w2, .ref w3]) = Kw4 at sw4 ew4
    have tw4 : Same Kw3 Kw4 := sw4
    have tw3 : Same Kw2 Kw4 := sw3.trans tw4
    have tw2 : Same Kw1 Kw4 := sw2.trans tw3
    have tw1 : Same I3 Kw4 := sw1.trans tw2
    have ew1 := tw2 _ _ ew1
    have ew2 := tw3 _ _ ew2
    have ew3 := tw4 _ _ ew3
    have Tw : Same I3 Kw4 := tw1
    have ZD := Z3.same Tw
    have nD := nw4
    have ZC := Z3.same (sw1.trans (sw2.trans sw3))
    have fd := ZC.lad.free nD
    have neD : S ≠ w4 := fun z => by
      obtain ⟨xs, h, _⟩ := ZC.lsS
      rw [z, nD] at h
      cases h
    have dd : SeenAt p Kw4 w4 [(w1, ("InvalidRule" : Str), v1), (w2, ("InvalidMark" : Str), v2), (w3, ("InvalidWidth" : Str), v3)] := ⟨ew4, ZC.lad.pot.ne nD, fun q hq => by
      simp only [List.mem_cons, List.not_mem_nil, or_false] at hq
      rcases hq with rfl | rfl | rfl
      · exact ⟨ew1, fun (z : w1 = w4) => by have h := ew1; rw [z, ew4] at h; cases h⟩
      · exact ⟨ew2, fun (z : w2 = w4) => by have h := ew2; rw [z, ew4] at h; cases h⟩
      · exact ⟨ew3, fun (z : w3 = w4) => by have h := ew3; rw [z, ew4] at h; cases h⟩⟩
    refine ⟨by show 2 ≤ sizeLine; decide, fun l nl => ?_⟩
    have Z0 : Two [(PT, lamQ_law_right)] p Gx _ S w4 l [V.ref F_widths, V.ref F_narrowest] [(("InvalidRule" : Str), v1), (("InvalidMark" : Str), v2), (("InvalidWidth" : Str), v3)] [(("InvalidRule" : Str), v1), (("InvalidMark" : Str), v2), (("InvalidWidth" : Str), v3)] := Two.of ZD dd neD fd nl
    generalize upd Kw4 l (.lst [V.ref F_widths, V.ref F_narrowest]) = J0 at Z0
    clear ZD ZC fd neD dd nD nl Z3
    clear sw1 ew1 nw1 tw1 sw2 ew2 nw2 tw2 sw3 ew3 nw3 tw3 sw4 ew4 nw4 tw4 Tw
    refine ⟨l, rfl, ⟨_, .inl (.inl Z0.ll)⟩, for_list (K := K) (a := l) (xs := [V.ref F_widths, V.ref F_narrowest]) (fun i σ J => ∃ D a11, σ = [some (.ref p), some v1, some v2, some v3, some v4, some s4, some v5, some s5, some (.ref x), some (.ref S), some (.ref D), a11, none] ∧ Two [(PT, lamQ_law_right)] p Gx J S D l [V.ref F_widths, V.ref F_narrowest] ([(("InvalidRule" : Str), v1), (("InvalidMark" : Str), v2), (("InvalidWidth" : Str), v3)] ++ (List.replicate i [(("InvalidRule" : Str), v1), (("InvalidMark" : Str), v2), (("InvalidTexts" : Str), s4)]).flatten) ([(("InvalidRule" : Str), v1), (("InvalidMark" : Str), v2), (("InvalidWidth" : Str), v3)] ++ (List.replicate i [(("InvalidRule" : Str), v1), (("InvalidMark" : Str), v2), (("InvalidTexts" : Str), s4)]).flatten)) ⟨_, _, rfl, Z0⟩ (fun i σ J _ ⟨_, _, _, z⟩ => .inl (.inl z.ll)) ?_ ?_⟩
    · clear Z0
      rintro i y σ J hy ⟨D, a11, rfl, Z⟩
      have i4 : i < 2 := (List.getElem?_eq_some_iff.mp hy).1
      obtain ⟨f, rfl, ok⟩ := all1 y (List.mem_of_getElem? hy)
      obtain ⟨xs, eS, lx⟩ := Z.lsS
      refine ⟨_, rfl, .inl ⟨rfl, _, .inl (.inl eS)⟩, ?_⟩
      refine lam_raise (C := CK) (Fl := "value") (N := "InvalidRule") (v := v1) mCK Z.lad.here (fun q J1 M e => ?_) (fun E J1 M r => ⟨f, rfl, ok, _, rfl, _, rfl, _, rfl, v1, v2, v4, rfl, .inl ⟨(b1.2 J1 (Z.kp.trans M.kp)).2, r⟩⟩)
      have Y := Z.keep M
      clear eS lx xs
      obtain ⟨xs, eS, lx⟩ := Y.lsS
      refine ⟨S, xs, _, rfl, rfl, eS, by rw [lx, sizeLine_eq]; simp only [List.length_append, List.length_flatten, List.map_replicate, List.sum_replicate_nat, List.length_replicate, List.length_cons, List.length_nil]; omega, ?_⟩
      have Y10 := Y.say e eS
      generalize upd J1 S (.lst (xs ++ [.ref q])) = IA1 at Y10
      clear eS lx xs e M Y
      obtain ⟨xs, eS, lx⟩ := Y10.lsS
      refine ⟨_, rfl, .inl ⟨rfl, _, .inl (.inl eS)⟩, ?_⟩
      refine lam_raise (C := CM) (Fl := "value") (N := "InvalidMark") (v := v2) mCM Y10.lad.here (fun q J1 M e => ?_) (fun E J1 M r => ⟨f, rfl, ok, _, rfl, _, rfl, .str "start", v2, v4, rfl, .inr (.inl ⟨⟨.s, rfl⟩, (b2.2 J1 (Y10.kp.trans M.kp)).2, r⟩)⟩)
      have Y := Y10.keep M
      clear eS lx xs
      obtain ⟨xs, eS, lx⟩ := Y.lsS
      refine ⟨S, xs, _, rfl, rfl, eS, by rw [lx, sizeLine_eq]; simp only [List.length_append, List.length_flatten, List.map_replicate, List.sum_replicate_nat, List.length_replicate, List.length_cons, List.length_nil]; omega, ?_⟩
      have Y20 := Y.say e eS
      generalize upd J1 S (.lst (xs ++ [.ref q])) = IA2 at Y20
      clear eS lx xs e M Y
      obtain ⟨xs, eS, lx⟩ := Y20.lsS
      refine ⟨_, rfl, .inl ⟨rfl, _, .inl (.inl eS)⟩, ?_⟩
      refine lam_raise (C := CX) (Fl := "index") (N := "InvalidTexts") (v := s4) mCX Y20.lad.here (fun q J1 M e => ?_) (fun E J1 M r => ⟨f, rfl, ok, _, rfl, .str "start", .str "~", v4, rfl, .inr (.inr ⟨⟨.s, rfl⟩, ⟨"~", rfl, by decide +kernel, by decide +kernel⟩, s4, bad4 J1 (Y20.kp.trans M.kp), r⟩)⟩)
      have Y := Y20.keep M
      clear eS lx xs
      obtain ⟨xs, eS, lx⟩ := Y.lsS
      refine ⟨S, xs, _, rfl, rfl, eS, by rw [lx, sizeLine_eq]; simp only [List.length_append, List.length_flatten, List.map_replicate, List.sum_replicate_nat, List.length_replicate, List.length_cons, List.length_nil]; omega, ?_⟩
      have Y30 := Y.say e eS
      generalize upd J1 S (.lst (xs ++ [.ref q])) = IA3 at Y30
      clear eS lx xs e M Y
      obtain ⟨ys, eD, ly⟩ := Y30.lsD
      refine ⟨_, rfl, _, rfl, by show 3 ≤ sizeLine; decide, fun w1 n1 => ?_⟩
      have Y1 := Y30.same (same_new n1 (o := .lst [.str "InvalidRule", v1, .bl true]))
      have f1 : upd IA3 w1 (.lst [.str "InvalidRule", v1, .bl true]) w1 = some (.lst [.str "InvalidRule", v1, .bl true]) := upd_same
      have eD : upd IA3 w1 (.lst [.str "InvalidRule", v1, .bl true]) D = _ := same_new n1 _ _ eD
      generalize upd IA3 w1 (.lst [.str "InvalidRule", v1, .bl true]) = R1 at Y1 eD f1
      refine ⟨_, rfl, by show 3 ≤ sizeLine; decide, fun w2 n2 => ?_⟩
      have Y2 := Y1.same (same_new n2 (o := .lst [.str "InvalidMark", v2, .bl true]))
      have f2 : upd R1 w2 (.lst [.str "InvalidMark", v2, .bl true]) w2 = some (.lst [.str "InvalidMark", v2, .bl true]) := upd_same
      have eD : upd R1 w2 (.lst [.str "InvalidMark", v2, .bl true]) D = _ := same_new n2 _ _ eD
      have f1 : upd R1 w2 (.lst [.str "InvalidMark", v2, .bl true]) w1 = _ := same_new n2 _ _ f1
      generalize upd R1 w2 (.lst [.str "InvalidMark", v2, .bl true]) = R2 at Y2 eD f1 f2
      refine ⟨_, rfl, by show 3 ≤ sizeLine; decide, fun w3 n3 => ?_⟩
      have Y3 := Y2.same (same_new n3 (o := .lst [.str "InvalidTexts", s4, .bl true]))
      have f3 : upd R2 w3 (.lst [.str "InvalidTexts", s4, .bl true]) w3 = some (.lst [.str "InvalidTexts", s4, .bl true]) := upd_same
      have eD : upd R2 w3 (.lst [.str "InvalidTexts", s4, .bl true]) D = _ := same_new n3 _ _ eD
      have f1 : upd R2 w3 (.lst [.str "InvalidTexts", s4, .bl true]) w1 = _ := same_new n3 _ _ f1
      have f2 : upd R2 w3 (.lst [.str "InvalidTexts", s4, .bl true]) w2 = _ := same_new n3 _ _ f2
      generalize upd R2 w3 (.lst [.str "InvalidTexts", s4, .bl true]) = R3 at Y3 eD f1 f2 f3
      refine ⟨by show 3 ≤ sizeLine; decide, fun W nW => ?_⟩
      have YW := Y3.same (same_new nW (o := .lst [.ref w1, .ref w2, .ref w3]))
      have eW : upd R3 W (.lst [.ref w1, .ref w2, .ref w3]) W = some (.lst [.ref w1, .ref w2, .ref w3]) := upd_same
      have eD : upd R3 W (.lst [.ref w1, .ref w2, .ref w3]) D = _ := same_new nW _ _ eD
      have f1 : upd R3 W (.lst [.ref w1, .ref w2, .ref w3]) w1 = _ := same_new nW _ _ f1
      have f2 : upd R3 W (.lst [.ref w1, .ref w2, .ref w3]) w2 = _ := same_new nW _ _ f2
      have f3 : upd R3 W (.lst [.ref w1, .ref w2, .ref w3]) w3 = _ := same_new nW _ _ f3
      generalize upd R3 W (.lst [.ref w1, .ref w2, .ref w3]) = RW at YW eW eD f1 f2 f3
      refine ⟨D, W, ys, [.ref w1, .ref w2, .ref w3], rfl, rfl, eD, eW, by show ys.length + 3 ≤ _; rw [ly, sizeLine_eq]; simp only [List.length_append, List.length_flatten, List.map_replicate, List.sum_replicate_nat, List.length_replicate, List.length_cons, List.length_nil]; omega, fun E2 nE => ?_⟩
      have ZE := YW.owedN (ws := [(w1, ("InvalidRule" : Str), v1), (w2, ("InvalidMark" : Str), v2), (w3, ("InvalidTexts" : Str), s4)]) (fun q hq => by
        simp only [List.mem_cons, List.not_mem_nil, or_false] at hq
        rcases hq with rfl | rfl | rfl
        · exact f1
        · exact f2
        · exact f3) eD nE
      have ZE : Two _ _ _ (upd RW E2 (.lst (ys ++ [.ref w1, .ref w2, .ref w3]))) _ _ _ _ _ _ := ZE
      generalize upd RW E2 (.lst (ys ++ [.ref w1, .ref w2, .ref w3])) = RE at ZE
      have ZE : Two [(PT, lamQ_law_right)] p Gx RE S E2 l [V.ref F_widths, V.ref F_narrowest] ([(("InvalidRule" : Str), v1), (("InvalidMark" : Str), v2), (("InvalidWidth" : Str), v3)] ++ (List.replicate (i + 1) [(("InvalidRule" : Str), v1), (("InvalidMark" : Str), v2), (("InvalidTexts" : Str), s4)]).flatten) ([(("InvalidRule" : Str), v1), (("InvalidMark" : Str), v2), (("InvalidWidth" : Str), v3)] ++ (List.replicate (i + 1) [(("InvalidRule" : Str), v1), (("InvalidMark" : Str), v2), (("InvalidTexts" : Str), s4)]).flatten) := by
        rw [repN]
        simp only [List.append_assoc, List.cons_append, List.nil_append] at ZE ⊢
        exact ZE
      exact ⟨_, _, rfl, ZE⟩
    rintro σ J ⟨D, a11, rfl, ZA⟩
    refine ⟨by show 2 ≤ sizeLine; decide, fun l2 nl2 => ?_⟩
    have ZB := ZA.swap (f2 := [V.ref F_groups, V.ref F_tells_apart]) nl2
    generalize upd J l2 (.lst [V.ref F_groups, V.ref F_tells_apart]) = JB at ZB
    clear ZA nl2
    revert ZB
    generalize l2 = l
    intro ZB
    refine ⟨l, rfl, ⟨_, .inl (.inl ZB.ll)⟩, for_list (K := K) (a := l) (xs := [V.ref F_groups, V.ref F_tells_apart]) (fun i σ J => ∃ D a11, σ = [some (.ref p), some v1, some v2, some v3, some v4, some s4, some v5, some s5, some (.ref x), some (.ref S), some (.ref D), a11, none] ∧ Two [(PT, lamQ_law_right)] p Gx J S D l [V.ref F_groups, V.ref F_tells_apart] (([(("InvalidRule" : Str), v1), (("InvalidMark" : Str), v2), (("InvalidWidth" : Str), v3)] ++ (List.replicate 2 [(("InvalidRule" : Str), v1), (("InvalidMark" : Str), v2), (("InvalidTexts" : Str), s4)]).flatten) ++ (List.replicate i [(("InvalidRow" : Str), .int 1), (("InvalidTexts" : Str), s4)]).flatten) (([(("InvalidRule" : Str), v1), (("InvalidMark" : Str), v2), (("InvalidWidth" : Str), v3)] ++ (List.replicate 2 [(("InvalidRule" : Str), v1), (("InvalidMark" : Str), v2), (("InvalidTexts" : Str), s4)]).flatten) ++ (List.replicate i [(("InvalidRow" : Str), .int 1), (("InvalidTexts" : Str), s4)]).flatten)) ⟨_, _, rfl, ZB⟩ (fun i σ J _ ⟨_, _, _, z⟩ => .inl (.inl z.ll)) ?_ ?_⟩
    · clear ZB
      rintro i y σ J hy ⟨D, a11, rfl, Z⟩
      have i4 : i < 2 := (List.getElem?_eq_some_iff.mp hy).1
      obtain ⟨f, rfl, ok⟩ := all2 y (List.mem_of_getElem? hy)
      obtain ⟨xs, eS, lx⟩ := Z.lsS
      refine ⟨_, rfl, .inl ⟨rfl, _, .inl (.inl eS)⟩, ?_⟩
      refine lam_raise (C := CR) (Fl := "index") (N := "InvalidRow") (v := .int 1) mCR Z.lad.here (fun q J1 M e => ?_) (fun E J1 M r => ⟨f, rfl, ok, _, rfl, by show 2 ≤ sizeLine; decide, fun a na => ⟨_, rfl, .ref a, v4, rfl, .inl ⟨.int 1, .inr ⟨a, _, 1, .non, rfl, .inl (.inl upd_same), by show 1 ≤ 2; decide, by show 2 ≤ 4; decide, bef1 (isaC_sh SC (same_new na _ _ ((Z.kp.trans M.kp).ins LG.pot exx))), rfl, isaC_no (T := "NoneType") Xs (.base .non) rfl, rfl⟩, r.same (same_new na)⟩⟩⟩)
      have Y := Z.keep M
      clear eS lx xs
      obtain ⟨xs, eS, lx⟩ := Y.lsS
      refine ⟨S, xs, _, rfl, rfl, eS, by rw [lx, sizeLine_eq]; simp only [List.length_append, List.length_flatten, List.map_replicate, List.sum_replicate_nat, List.length_replicate, List.length_cons, List.length_nil]; omega, ?_⟩
      have Y10 := Y.say e eS
      generalize upd J1 S (.lst (xs ++ [.ref q])) = IA1 at Y10
      clear eS lx xs e M Y
      obtain ⟨xs, eS, lx⟩ := Y10.lsS
      refine ⟨_, rfl, .inl ⟨rfl, _, .inl (.inl eS)⟩, ?_⟩
      refine lam_raise (C := CX) (Fl := "index") (N := "InvalidTexts") (v := s4) mCX Y10.lad.here (fun q J1 M e => ?_) (fun E J1 M r => ⟨f, rfl, ok, _, rfl, by show 1 ≤ sizeLine; decide, fun a na => ⟨_, rfl, .ref a, v4, rfl, .inr ⟨row1_ok upd_same ((KeepP.sh shx LG.pot (Y10.kp.trans M.kp)).same (same_new na)), s4, (bad4 J1 (Y10.kp.trans M.kp)).same (same_new na), r.same (same_new na)⟩⟩⟩)
      have Y := Y10.keep M
      clear eS lx xs
      obtain ⟨xs, eS, lx⟩ := Y.lsS
      refine ⟨S, xs, _, rfl, rfl, eS, by rw [lx, sizeLine_eq]; simp only [List.length_append, List.length_flatten, List.map_replicate, List.sum_replicate_nat, List.length_replicate, List.length_cons, List.length_nil]; omega, ?_⟩
      have Y20 := Y.say e eS
      generalize upd J1 S (.lst (xs ++ [.ref q])) = IA2 at Y20
      clear eS lx xs e M Y
      obtain ⟨ys, eD, ly⟩ := Y20.lsD
      refine ⟨_, rfl, by show 3 ≤ sizeLine; decide, fun w1 n1 => ?_⟩
      have Y1 := Y20.same (same_new n1 (o := .lst [.str "InvalidRow", .int 1, .bl true]))
      have f1 : upd IA2 w1 (.lst [.str "InvalidRow", .int 1, .bl true]) w1 = some (.lst [.str "InvalidRow", .int 1, .bl true]) := upd_same
      have eD : upd IA2 w1 (.lst [.str "InvalidRow", .int 1, .bl true]) D = _ := same_new n1 _ _ eD
      generalize upd IA2 w1 (.lst [.str "InvalidRow", .int 1, .bl true]) = R1 at Y1 eD f1
      refine ⟨_, rfl, by show 3 ≤ sizeLine; decide, fun w2 n2 => ?_⟩
      have Y2 := Y1.same (same_new n2 (o := .lst [.str "InvalidTexts", s4, .bl true]))
      have f2 : upd R1 w2 (.lst [.str "InvalidTexts", s4, .bl true]) w2 = some (.lst [.str "InvalidTexts", s4, .bl true]) := upd_same
      have eD : upd R1 w2 (.lst [.str "InvalidTexts", s4, .bl true]) D = _ := same_new n2 _ _ eD
      have f1 : upd R1 w2 (.lst [.str "InvalidTexts", s4, .bl true]) w1 = _ := same_new n2 _ _ f1
      generalize upd R1 w2 (.lst [.str "InvalidTexts", s4, .bl true]) = R2 at Y2 eD f1 f2
      refine ⟨by show 2 ≤ sizeLine; decide, fun W nW => ?_⟩
      have YW := Y2.same (same_new nW (o := .lst [.ref w1, .ref w2]))
      have eW : upd R2 W (.lst [.ref w1, .ref w2]) W = some (.lst [.ref w1, .ref w2]) := upd_same
      have eD : upd R2 W (.lst [.ref w1, .ref w2]) D = _ := same_new nW _ _ eD
      have f1 : upd R2 W (.lst [.ref w1, .ref w2]) w1 = _ := same_new nW _ _ f1
      have f2 : upd R2 W (.lst [.ref w1, .ref w2]) w2 = _ := same_new nW _ _ f2
      generalize upd R2 W (.lst [.ref w1, .ref w2]) = RW at YW eW eD f1 f2
      refine ⟨D, W, ys, [.ref w1, .ref w2], rfl, rfl, eD, eW, by show ys.length + 2 ≤ _; rw [ly, sizeLine_eq]; simp only [List.length_append, List.length_flatten, List.map_replicate, List.sum_replicate_nat, List.length_replicate, List.length_cons, List.length_nil]; omega, fun E2 nE => ?_⟩
      have ZE := YW.owedN (ws := [(w1, ("InvalidRow" : Str), .int 1), (w2, ("InvalidTexts" : Str), s4)]) (fun q hq => by
        simp only [List.mem_cons, List.not_mem_nil, or_false] at hq
        rcases hq with rfl | rfl
        · exact f1
        · exact f2) eD nE
      have ZE : Two _ _ _ (upd RW E2 (.lst (ys ++ [.ref w1, .ref w2]))) _ _ _ _ _ _ := ZE
      generalize upd RW E2 (.lst (ys ++ [.ref w1, .ref w2])) = RE at ZE
      have ZE : Two [(PT, lamQ_law_right)] p Gx RE S E2 l [V.ref F_groups, V.ref F_tells_apart] (([(("InvalidRule" : Str), v1), (("InvalidMark" : Str), v2), (("InvalidWidth" : Str), v3)] ++ (List.replicate 2 [(("InvalidRule" : Str), v1), (("InvalidMark" : Str), v2), (("InvalidTexts" : Str), s4)]).flatten) ++ (List.replicate (i + 1) [(("InvalidRow" : Str), .int 1), (("InvalidTexts" : Str), s4)]).flatten) (([(("InvalidRule" : Str), v1), (("InvalidMark" : Str), v2), (("InvalidWidth" : Str), v3)] ++ (List.replicate 2 [(("InvalidRule" : Str), v1), (("InvalidMark" : Str), v2), (("InvalidTexts" : Str), s4)]).flatten) ++ (List.replicate (i + 1) [(("InvalidRow" : Str), .int 1), (("InvalidTexts" : Str), s4)]).flatten) := by
        rw [repN]
        simp only [List.append_assoc, List.cons_append, List.nil_append] at ZE ⊢
        exact ZE
      exact ⟨_, _, rfl, ZE⟩
    rintro σ J ⟨D, a11, rfl, ZC⟩
    have ZC : Two [(PT, lamQ_law_right)] p Gx J S D l [V.ref F_groups, V.ref F_tells_apart] [(("InvalidRule" : Str), v1), (("InvalidMark" : Str), v2), (("InvalidWidth" : Str), v3), (("InvalidRule" : Str), v1), (("InvalidMark" : Str), v2), (("InvalidTexts" : Str), s4), (("InvalidRule" : Str), v1), (("InvalidMark" : Str), v2), (("InvalidTexts" : Str), s4), (("InvalidRow" : Str), .int 1), (("InvalidTexts" : Str), s4), (("InvalidRow" : Str), .int 1), (("InvalidTexts" : Str), s4)] [(("InvalidRule" : Str), v1), (("InvalidMark" : Str), v2), (("InvalidWidth" : Str), v3), (("InvalidRule" : Str), v1), (("InvalidMark" : Str), v2), (("InvalidTexts" : Str), s4), (("InvalidRule" : Str), v1), (("InvalidMark" : Str), v2), (("InvalidTexts" : Str), s4), (("InvalidRow" : Str), .int 1), (("InvalidTexts" : Str), s4), (("InvalidRow" : Str), .int 1), (("InvalidTexts" : Str), s4)] := ZC
    obtain ⟨xs, eS, lx⟩ := ZC.lsS
    refine ⟨_, rfl, .inl ⟨rfl, _, .inl (.inl eS)⟩, ?_⟩
    refine lam_raise (C := CM) (Fl := "value") (N := "InvalidMark") (v := v2) mCM ZC.lad.here (fun q J1 M e => ?_) (fun E J1 M r => ⟨_, rfl, _, rfl, v2, v5, rfl, .inl ⟨(b2.2 J1 (ZC.kp.trans M.kp)).2, r⟩⟩)
    have Y := ZC.keep M
    clear eS lx xs
    obtain ⟨xs, eS, lx⟩ := Y.lsS
    refine ⟨S, xs, _, rfl, rfl, eS, by rw [lx, sizeLine_eq]; show 13 < 16777216; decide, ?_⟩
    have X10 := Y.say e eS
    generalize upd J1 S (.lst (xs ++ [.ref q])) = IX1 at X10
    clear eS lx xs e M Y ZC
    obtain ⟨xs, eS, lx⟩ := X10.lsS
    refine ⟨_, rfl, .inl ⟨rfl, _, .inl (.inl eS)⟩, ?_⟩
    refine lam_raise (C := CX) (Fl := "index") (N := "InvalidTexts") (v := s5) mCX X10.lad.here (fun q J1 M e => ?_) (fun E J1 M r => ⟨_, rfl, .str "~", v5, rfl, .inr ⟨⟨"~", rfl, by decide +kernel, by decide +kernel⟩, s5, bad5 J1 (X10.kp.trans M.kp), r⟩⟩)
    have Y := X10.keep M
    clear eS lx xs
    obtain ⟨xs, eS, lx⟩ := Y.lsS
    refine ⟨S, xs, _, rfl, rfl, eS, by rw [lx, sizeLine_eq]; show 14 < 16777216; decide, ?_⟩
    have X20 := Y.say e eS
    generalize upd J1 S (.lst (xs ++ [.ref q])) = IX2 at X20
    clear eS lx xs e M Y
    obtain ⟨ys, eD, ly⟩ := X20.lsD
    refine ⟨_, rfl, _, rfl, by show 3 ≤ sizeLine; decide, fun w1 n1 => ?_⟩
    have Y1 := X20.same (same_new n1 (o := .lst [.str "InvalidMark", v2, .bl true]))
    have f1 : upd IX2 w1 (.lst [.str "InvalidMark", v2, .bl true]) w1 = some (.lst [.str "InvalidMark", v2, .bl true]) := upd_same
    have eD : upd IX2 w1 (.lst [.str "InvalidMark", v2, .bl true]) D = _ := same_new n1 _ _ eD
    generalize upd IX2 w1 (.lst [.str "InvalidMark", v2, .bl true]) = R1 at Y1 eD f1
    refine ⟨_, rfl, by show 3 ≤ sizeLine; decide, fun w2 n2 => ?_⟩
    have Y2 := Y1.same (same_new n2 (o := .lst [.str "InvalidTexts", s5, .bl true]))
    have f2 : upd R1 w2 (.lst [.str "InvalidTexts", s5, .bl true]) w2 = some (.lst [.str "InvalidTexts", s5, .bl true]) := upd_same
    have eD : upd R1 w2 (.lst [.str "InvalidTexts", s5, .bl true]) D = _ := same_new n2 _ _ eD
    have f1 : upd R1 w2 (.lst [.str "InvalidTexts", s5, .bl true]) w1 = _ := same_new n2 _ _ f1
    generalize upd R1 w2 (.lst [.str "InvalidTexts", s5, .bl true]) = R2 at Y2 eD f1 f2
    refine ⟨by show 2 ≤ sizeLine; decide, fun W nW => ?_⟩
    have YW := Y2.same (same_new nW (o := .lst [.ref w1, .ref w2]))
    have eW : upd R2 W (.lst [.ref w1, .ref w2]) W = some (.lst [.ref w1, .ref w2]) := upd_same
    have eD : upd R2 W (.lst [.ref w1, .ref w2]) D = _ := same_new nW _ _ eD
    have f1 : upd R2 W (.lst [.ref w1, .ref w2]) w1 = _ := same_new nW _ _ f1
    have f2 : upd R2 W (.lst [.ref w1, .ref w2]) w2 = _ := same_new nW _ _ f2
    generalize upd R2 W (.lst [.ref w1, .ref w2]) = RW at YW eW eD f1 f2
    refine ⟨D, W, ys, [.ref w1, .ref w2], rfl, rfl, eD, eW, by show ys.length + 2 ≤ _; rw [ly, sizeLine_eq]; show 13 + 2 ≤ 16777216; decide, fun E2 nE => ?_⟩
    have ZE := YW.owedN (ws := [(w1, ("InvalidMark" : Str), v2), (w2, ("InvalidTexts" : Str), s5)]) (fun q hq => by
      simp only [List.mem_cons, List.not_mem_nil, or_false] at hq
      rcases hq with rfl | rfl
      · exact f1
      · exact f2) eD nE
    have ZE : Two _ _ _ (upd RW E2 (.lst (ys ++ [.ref w1, .ref w2]))) _ _ _ _ _ _ := ZE
    generalize upd RW E2 (.lst (ys ++ [.ref w1, .ref w2])) = RE at ZE
    have ZZ : Two [(PT, lamQ_law_right)] p Gx RE S E2 l [V.ref F_groups, V.ref F_tells_apart] [(("InvalidRule" : Str), v1), (("InvalidMark" : Str), v2), (("InvalidWidth" : Str), v3), (("InvalidRule" : Str), v1), (("InvalidMark" : Str), v2), (("InvalidTexts" : Str), s4), (("InvalidRule" : Str), v1), (("InvalidMark" : Str), v2), (("InvalidTexts" : Str), s4), (("InvalidRow" : Str), .int 1), (("InvalidTexts" : Str), s4), (("InvalidRow" : Str), .int 1), (("InvalidTexts" : Str), s4), (("InvalidMark" : Str), v2), (("InvalidTexts" : Str), s5)] [(("InvalidRule" : Str), v1), (("InvalidMark" : Str), v2), (("InvalidWidth" : Str), v3), (("InvalidRule" : Str), v1), (("InvalidMark" : Str), v2), (("InvalidTexts" : Str), s4), (("InvalidRule" : Str), v1), (("InvalidMark" : Str), v2), (("InvalidTexts" : Str), s4), (("InvalidRow" : Str), .int 1), (("InvalidTexts" : Str), s4), (("InvalidRow" : Str), .int 1), (("InvalidTexts" : Str), s4), (("InvalidMark" : Str), v2), (("InvalidTexts" : Str), s5)] := ZE
    obtain ⟨d4, q4⟩ := spot_thing (K := K) (p := p) (H := Gx) so4
    obtain ⟨d5, q5⟩ := spot_thing (K := K) (p := p) (H := Gx) so5
    have cD1 := (b1.2 RE ZZ.kp).1
    have cD2 := (b2.2 RE ZZ.kp).1
    have cD3 := (b3.2 RE ZZ.kp).1
    have cd4 := (q4.2 RE ZZ.kp).1
    have cd5 := (q5.2 RE ZZ.kp).1
    have dS : DpE K RE (.ref S) (.list [said "InvalidRule" D1, said "InvalidMark" D2, said "InvalidWidth" D3, said "InvalidRule" D1, said "InvalidMark" D2, said "InvalidTexts" d4, said "InvalidRule" D1, said "InvalidMark" D2, said "InvalidTexts" d4, said "InvalidRow" (.int 1), said "InvalidTexts" d4, said "InvalidRow" (.int 1), said "InvalidTexts" d4, said "InvalidMark" D2, said "InvalidTexts" d5]) := ZZ.dataS (ds := [D1, D2, D3, D1, D2, d4, D1, D2, d4, (.int 1), d4, (.int 1), d4, D2, d5]) (.cons cD1 (.cons cD2 (.cons cD3 (.cons cD1 (.cons cD2 (.cons cd4 (.cons cD1 (.cons cD2 (.cons cd4 (.cons (.int 1) (.cons cd4 (.cons (.int 1) (.cons cd4 (.cons cD2 (.cons cd5 .nil)))))))))))))))
    have dD : DpE K RE (.ref E2) (.list [said "InvalidRule" D1, said "InvalidMark" D2, said "InvalidWidth" D3, said "InvalidRule" D1, said "InvalidMark" D2, said "InvalidTexts" d4, said "InvalidRule" D1, said "InvalidMark" D2, said "InvalidTexts" d4, said "InvalidRow" (.int 1), said "InvalidTexts" d4, said "InvalidRow" (.int 1), said "InvalidTexts" d4, said "InvalidMark" D2, said "InvalidTexts" d5]) := ZZ.dataD (ds := [D1, D2, D3, D1, D2, d4, D1, D2, d4, (.int 1), d4, (.int 1), d4, D2, d5]) (.cons cD1 (.cons cD2 (.cons cD3 (.cons cD1 (.cons cD2 (.cons cd4 (.cons cD1 (.cons cD2 (.cons cd4 (.cons (.int 1) (.cons cd4 (.cons (.int 1) (.cons cd4 (.cons cD2 (.cons cd5 .nil)))))))))))))))
    have fine : FineE 60 100000 (.list [said "InvalidRule" D1, said "InvalidMark" D2, said "InvalidWidth" D3, said "InvalidRule" D1, said "InvalidMark" D2, said "InvalidTexts" d4, said "InvalidRule" D1, said "InvalidMark" D2, said "InvalidTexts" d4, said "InvalidRow" (.int 1), said "InvalidTexts" d4, said "InvalidRow" (.int 1), said "InvalidTexts" d4, said "InvalidMark" D2, said "InvalidTexts" d5]) := all_said (fun d hd => by
      simp only [List.mem_cons, List.not_mem_nil, or_false] at hd
      rcases hd with rfl | rfl | rfl | rfl | rfl | rfl | rfl | rfl | rfl | rfl | rfl | rfl | rfl | rfl | rfl
      · exact said_fine b1.1 (by decide +kernel)
      · exact said_fine b2.1 (by decide +kernel)
      · exact said_fine b3.1 (by decide +kernel)
      · exact said_fine b1.1 (by decide +kernel)
      · exact said_fine b2.1 (by decide +kernel)
      · exact said_fine q4.1 (by decide +kernel)
      · exact said_fine b1.1 (by decide +kernel)
      · exact said_fine b2.1 (by decide +kernel)
      · exact said_fine q4.1 (by decide +kernel)
      · exact said_fine ((Fine.int (i := 1) (by decide)).e.mono (by decide) (by decide)) (by decide +kernel)
      · exact said_fine q4.1 (by decide +kernel)
      · exact said_fine ((Fine.int (i := 1) (by decide)).e.mono (by decide) (by decide)) (by decide +kernel)
      · exact said_fine q4.1 (by decide +kernel)
      · exact said_fine b2.1 (by decide +kernel)
      · exact said_fine q5.1 (by decide +kernel)) (by show 15 ≤ 60; decide)
    refine ⟨_, rfl, S, _, rfl, ZZ.lad.sys, dS, fine, _, rfl, E2, _, rfl, ZZ.lad.sys, dD, fine, ?_⟩
    generalize PyData.shown (.list [said "InvalidRule" D1, said "InvalidMark" D2, said "InvalidWidth" D3, said "InvalidRule" D1, said "InvalidMark" D2, said "InvalidTexts" d4, said "InvalidRule" D1, said "InvalidMark" D2, said "InvalidTexts" d4, said "InvalidRow" (.int 1), said "InvalidTexts" d4, said "InvalidRow" (.int 1), said "InvalidTexts" d4, said "InvalidMark" D2, said "InvalidTexts" d5]) = zz
    refine ⟨rfl, _, rfl, iteNS rfl ?_⟩
    have LL := LI.trans ZZ.lad
    have shx := KeepP.sh shx LG.pot ZZ.kp
    clear dS dD fine bad4 bad5 b1 b2 b3 q4 q5 cD1 cD2 cD3 cd4 cd5
    -- what is let
    refine ⟨.e, "..", 2, rfl, by decide +kernel, by decide +kernel, by decide, fun x1 G1 nx1 h1 z1 => ?_⟩
    obtain ⟨dx1, t1, h1, g1⟩ := h1
    refine ⟨x1, C, dx1, _, _, rfl, h1, SC.cl, SC.nD, flds_told _ _, ?_⟩
    refine ⟨.s, "", 0, rfl, by decide +kernel, by decide +kernel, by decide, fun x2 G2 nx2 h2 z2 => ?_⟩
    obtain ⟨dx2, t2, h2, g2⟩ := h2
    refine ⟨x2, C, dx2, _, _, rfl, h2, SC.cl, SC.nD, flds_told _ _, ?_⟩
    refine ⟨by show 0 ≤ sizeLine; decide, fun a1 n1 => ?_⟩
    have y1 : Same G2 (upd G2 a1 (.tup [])) := same_new n1
    have i1 : upd G2 a1 (.tup []) a1 = some (.tup []) := upd_same
    generalize upd G2 a1 (.tup []) = G3 at y1 i1
    refine ⟨"...", a1, [], rfl, by decide +kernel, ⟨i1, fun q hq => by cases hq⟩, by decide, fun U1 G4 ps z3 eU _ ep => ?_⟩
    have lp : ps.length = 114 := by
      have a : (ps.map (·.2)).length = 114 := by
        rw [ep]
        decide +kernel
      rw [List.length_map] at a
      exact a
    refine ⟨_, _, rfl, .inr ⟨_, .inl (.inl eU), rfl⟩, ?_⟩
    rw [List.length_map, lp]
    have z14 := z1.trans (z2.trans (y1.trans z3))
    refine ⟨_, rfl, by show 1 ≤ sizeLine; decide, fun a2 n2 => ?_⟩
    have y2 : Same G4 (upd G4 a2 (.tup [.ref x])) := same_new n2
    have i2 : upd G4 a2 (.tup [.ref x]) a2 = some (.tup [.ref x]) := upd_same
    generalize upd G4 a2 (.tup [.ref x]) = G5 at y2 i2
    refine ⟨by show 0 ≤ sizeLine; decide, fun a3 n3 => ?_⟩
    have y3 : Same G5 (upd G5 a3 (.tup [])) := same_new n3
    have i3 : upd G5 a3 (.tup []) a3 = some (.tup []) := upd_same
    generalize upd G5 a3 (.tup []) = G6 at y3 i3
    have z16 := z14.trans (y2.trans y3)
    refine ⟨a2, a3, [(x, one05)], [], rfl, row1_at (y3 _ _ i2) (shx.same z16) one05_fit, by show 1 ≤ 1; decide, by show 1 ≤ 4; decide, .inl (.inl i3), fun z hz => (by cases hz), by decide, fun U2 G7 ts z7 eV _ et => ?_⟩
    obtain rfl : ts = [] := by
      have a : ts.map (·.2) = [] := by
        rw [et]
        rfl
      exact List.map_eq_nil_iff.mp a
    have z17 := z16.trans z7
    refine ⟨by show 4 ≤ sizeLine; decide, fun V1 nV1 => ?_⟩
    have y4 : Same G7 (upd G7 V1 (.lst [.ref t1, .ref t2, .int (114 : Nat), .ref U2])) := same_new nV1
    have f1 : upd G7 V1 (.lst [.ref t1, .ref t2, .int (114 : Nat), .ref U2]) V1 = some (.lst [.ref t1, .ref t2, .int 114, .ref U2]) := upd_same
    generalize upd G7 V1 (.lst [.ref t1, .ref t2, .int (114 : Nat), .ref U2]) = G8 at y4 f1
    refine ⟨_, rfl, by show 4 ≤ sizeLine; decide, fun u1 nu1 => ?_⟩
    have su1 : Same G8 (upd G8 u1 (.tup [.int 2, .int 0, .int 0, .str ".."])) := same_new nu1
    have eu1 : upd G8 u1 (.tup [.int 2, .int 0, .int 0, .str ".."]) u1 = some (.tup [.int 2, .int 0, .int 0, .str ".."]) := upd_same
    generalize upd G8 u1 (.tup [.int 2, .int 0, .int 0, .str ".."]) = Ku1 at su1 eu1
    refine ⟨by show 4 ≤ sizeLine; decide, fun u2 nu2 => ?_⟩
    have su2 : Same Ku1 (upd Ku1 u2 (.tup [.int 0, .int 0, .int 0, .str ""])) := same_new nu2
    have eu2 : upd Ku1 u2 (.tup [.int 0, .int 0, .int 0, .str ""]) u2 = some (.tup [.int 0, .int 0, .int 0, .str ""]) := upd_same
    generalize upd Ku1 u2 (.tup [.int 0, .int 0, .int 0, .str ""]) = Ku2 at su2 eu2
    refine ⟨by show 0 ≤ sizeLine; decide, fun u3 nu3 => ?_⟩
    have su3 : Same Ku2 (upd Ku2 u3 (.tup [])) := same_new nu3
    have eu3 : upd Ku2 u3 (.tup []) u3 = some (.tup []) := upd_same
    generalize upd Ku2 u3 (.tup []) = Ku3 at su3 eu3
    refine ⟨by show 4 ≤ sizeLine; decide, fun u4 nu4 => ?_⟩
    have su4 : Same Ku3 (upd Ku3 u4 (.lst [.ref u1, .ref u2, .int 114, .ref u3])) := same_new nu4
    have eu4 : upd Ku3 u4 (.lst [.ref u1, .ref u2, .int 114, .ref u3]) u4 = some (.lst [.ref u1, .ref u2, .int 114, .ref u3]) := upd_same
    generalize upd Ku3 u4 (.lst [.ref u1, .ref u2, .int 114, .ref u3]) = Ku4 at su4 eu4
    have tu4 : Same Ku3 Ku4 := su4
    have tu3 : Same Ku2 Ku4 := su3.trans tu4
    have tu2 : Same Ku1 Ku4 := su2.trans tu3
    have tu1 : Same G8 Ku4 := su1.trans tu2
    have eu1 := tu2 _ _ eu1
    have eu2 := tu3 _ _ eu2
    have eu3 := tu4 _ _ eu3
    have Tu : Same G8 Ku4 := tu1
    have zU := z17.trans (y4.trans Tu)
    have eT1 := (z2.trans (y1.trans (z3.trans (y2.trans (y3.trans (z7.trans (y4.trans Tu))))))) _ _ g1
    have eT2 := (y1.trans (z3.trans (y2.trans (y3.trans (z7.trans (y4.trans Tu)))))) _ _ g2
    have eU2 := (y4.trans Tu) _ _ eV
    have eV1 := Tu _ _ f1
    have d1 : Dp K Ku4 (.ref V1) (.list [.tuple [.int 2, .int 0, .int 0, .str ".."], .tuple [.int 0, .int 0, .int 0, .str ""], .int 114, .tuple []]) := .lst (.inl (.inl eV1)) (.cons (.tup (.inl (.inl eT1)) (.cons (.int _) (.cons (.int _) (.cons (.int _) (.cons (.str _) .nil))))) (.cons (.tup (.inl (.inl eT2)) (.cons (.int _) (.cons (.int _) (.cons (.int _) (.cons (.str _) .nil))))) (.cons (.int _) (.cons (.tup (.inl (.inl eU2)) .nil) .nil))))
    have d2 : Dp K Ku4 (.ref u4) (.list [.tuple [.int 2, .int 0, .int 0, .str ".."], .tuple [.int 0, .int 0, .int 0, .str ""], .int 114, .tuple []]) := .lst (.inl (.inl eu4)) (.cons (.tup (.inl (.inl eu1)) (.cons (.int _) (.cons (.int _) (.cons (.int _) (.cons (.str _) .nil))))) (.cons (.tup (.inl (.inl eu2)) (.cons (.int _) (.cons (.int _) (.cons (.int _) (.cons (.str _) .nil))))) (.cons (.int _) (.cons (.tup (.inl (.inl eu3)) .nil) .nil))))
    have sh : SeqAt.shaped (.list [.tuple [.int 2, .int 0, .int 0, .str ".."], .tuple [.int 0, .int 0, .int 0, .str ""], .int 114, .tuple []]) = true := by decide +kernel
    have ev : PyData.eqv (.list [.tuple [.int 2, .int 0, .int 0, .str ".."], .tuple [.int 0, .int 0, .int 0, .str ""], .int 114, .tuple []]) (.list [.tuple [.int 2, .int 0, .int 0, .str ".."], .tuple [.int 0, .int 0, .int 0, .str ""], .int 114, .tuple []]) = true := eqv_self _ (by decide +kernel)
    refine ⟨_, _, d1, d2, sh, sh, ?_⟩
    rw [ev]
    refine ⟨_, rfl, iteT ?_⟩
    refine ⟨_, _, rfl, rfl, by decide, by decide, by decide +kernel, fun yx1 hyx1 => ?_⟩
    have hyx1 := a200 hyx1
    subst hyx1
    refine ⟨by show 1 ≤ sizeLine; decide, fun x2 nx2 => ?_⟩
    have sx2 : Same Ku4 (upd Ku4 x2 (.tup [.str ⟨(List.replicate 200 97).toArray⟩])) := same_new nx2
    have ex2 : upd Ku4 x2 (.tup [.str ⟨(List.replicate 200 97).toArray⟩]) x2 = some (.tup [.str ⟨(List.replicate 200 97).toArray⟩]) := upd_same
    generalize upd Ku4 x2 (.tup [.str ⟨(List.replicate 200 97).toArray⟩]) = Kx2 at sx2 ex2
    refine ⟨_, _, [.str ⟨(List.replicate 200 97).toArray⟩], rfl, rfl, .inl (.inl ex2), List.cons_ne_nil _ _, by decide, by decide, by show 1 ≤ 1000; decide, fun x3 nx3 => ?_⟩
    have sx3 : Same Kx2 (upd Kx2 x3 (.tup (List.replicate (20 : Int).toNat [.str ⟨(List.replicate 200 97).toArray⟩]).flatten)) := same_new nx3
    have ex3 : upd Kx2 x3 (.tup (List.replicate (20 : Int).toNat [.str ⟨(List.replicate 200 97).toArray⟩]).flatten) x3 = some (.tup [.str ⟨(List.replicate 200 97).toArray⟩, .str ⟨(List.replicate 200 97).toArray⟩, .str ⟨(List.replicate 200 97).toArray⟩, .str ⟨(List.replicate 200 97).toArray⟩, .str ⟨(List.replicate 200 97).toArray⟩, .str ⟨(List.replicate 200 97).toArray⟩, .str ⟨(List.replicate 200 97).toArray⟩, .str ⟨(List.replicate 200 97).toArray⟩, .str ⟨(List.replicate 200 97).toArray⟩, .str ⟨(List.replicate 200 97).toArray⟩, .str ⟨(List.replicate 200 97).toArray⟩, .str ⟨(List.replicate 200 97).toArray⟩, .str ⟨(List.replicate 200 97).toArray⟩, .str ⟨(List.replicate 200 97).toArray⟩, .str ⟨(List.replicate 200 97).toArray⟩, .str ⟨(List.replicate 200 97).toArray⟩, .str ⟨(List.replicate 200 97).toArray⟩, .str ⟨(List.replicate 200 97).toArray⟩, .str ⟨(List.replicate 200 97).toArray⟩, .str ⟨(List.replicate 200 97).toArray⟩]) := upd_same
    generalize upd Kx2 x3 (.tup (List.replicate (20 : Int).toNat [.str ⟨(List.replicate 200 97).toArray⟩]).flatten) = Kx3 at sx3 ex3
    have tx3 : Same Kx2 Kx3 := sx3
    have tx2 : Same Ku4 Kx3 := sx2.trans tx3
    have ex2 := tx3 _ _ ex2
    have Tx : Same Ku4 Kx3 := tx2
    refine ⟨.e, "", x3, List.replicate 20 ⟨(List.replicate 200 97).toArray⟩, rfl, by decide +kernel, .inl (.inl ex3), fun z hz => (by rw [List.eq_of_mem_replicate hz]; decide +kernel), by decide, fun U9 G9 z9 e9 => ?_⟩
    have wl : widAll .e "" (List.replicate 20 ⟨(List.replicate 200 97).toArray⟩) = (List.range 41).map fun n : Nat => (n : Int) := by decide +kernel
    rw [wl] at e9
    refine ⟨_, rfl, U9, _, _, _, rfl, rfl, .inl (.inl e9), (rfl : atI (((List.range 41).map fun n : Nat => (n : Int)).map V.int) (-1) = some (.int 40)), rfl, ?_⟩
    have tv : decide (V.int ((fun n : Nat => (n : Int)) 40) = V.int (40 : Int)) = true := by decide +kernel
    rw [tv]
    exact k _ (LL.same (zU.trans (Tx.trans z9)))
end
end Gu
namespace Gu
open PySem PySem.Spec PyProof.Rows L2 LamX
theorem cls_of_mro {K : PySem.W.Frag} {C : Addr} {b : Value} {r : Bool} (h : PySem.W.mroIn K C b = some r) : (PySem.W.clsIn K C).isSome = true := by
  unfold PySem.W.mroIn at h
  cases e : PySem.W.clsIn K C with
  | none =>
    rw [e] at h
    cases h
  | some _ => rfl
section
variable {P : Program} {w : World} {K : PySem.W.Frag} {mg : Str → Option Value} {base : Heap}
def spLawT (T : List (Addr × Str)) (K : PySem.W.Frag) : Sp := fun vs H Q _ => ∃ (a : Addr) (ns : List Int), vs = [.ref a] ∧ SqL K H a (ns.map V.int) ∧ ns.length ≤ 63 ∧ Tabs T H ∧ Sys H ∧ ∀ G, Q (.bl true) G
theorem cal_lawT {n : Nat} {T : List (Addr × Str)} (B : Bi mg) {f : Addr} {fd : FuncData} (F : Fun K "law" "law" s_law f fd) (n1 : 1 ≤ n) (C_law_pot : Cal P w K mg base 1 "_law_pot" ps_law_pot (spPot K)) (C_law_right : CalG P w K mg base n "_law_right" ps_law_right (spRightT T)) : FnG P w K mg base (n + 1) f fd ps_law (spLawT T K) := by
  refine okG F sc_law (fun vs H Q E h => ?_) (fun cdv A outer s H vs Q E hr quiet h => ?_)
  · obtain ⟨a, ns, rfl, _⟩ := h
    rfl
  · obtain ⟨a, ns, rfl, hS, hl, hT, hY, k⟩ := h
    have hk1 := n1
    refine ⟨_, (pss_one (ps_ret (pe_callB (cr_all rfl) (by rfl) B.all (by decide +kernel) (pa_cons (pe_lc (own := [("_law_k", 1)]) (by rfl) sc_law.nd (pi_range1 (by rfl) B.range (pa_cons (pe_callB (call_max2 rfl) (by rfl) B.max (by decide +kernel) (pa_cons pe_int (pa_cons (pe_callB (call_min2 rfl) (by rfl) B.min (by decide +kernel) (pa_cons (pe_callB call_len_seq (by rfl) B.len (by decide +kernel) (pa_cons (pv 0) pa_nil)) (pa_cons pe_int pa_nil))) pa_nil))) pa_nil)) (blkOk_by (own := [("_law_k", 1)]) (N := ["_law_script", "_law_k"]) (sc := defScope s_law) (by decide +kernel)) (fun _ _ _ _ _ => pg_name (i := 1) sc_law.nd rfl (.inl rfl)) (fun _ _ _ _ _ => pts_nil) (fun _ _ _ _ _ => (pe_ownG C_law_right hr (Nat.le_refl _) quiet (by rfl) (pa_cons (pe_own C_law_pot hr hk1 (by rfl) (pa_cons (pv 0) (pa_cons (pv 1) pa_nil))) pa_nil)))) pa_nil)))), ?_⟩
    refine ⟨_, rfl, a, _, rfl, .inl hS, _, _, rfl, _, _, rfl, ?_⟩
    rw [List.length_map]
    generalize hm : (if (5 : Int) < (ns.length : Int) then (5 : Int) else (ns.length : Int)) = m
    have m1 : m ≤ 5 := by rw [← hm]; split <;> omega
    refine ⟨_, rfl, by split <;> omega, by split <;> omega, fun D nD => ?_⟩
    refine lc_range (lo := 0) (n := (if m > (2 : Int) then m else 2).toNat) (fun i J => ∃ bs : List Bool, bs.length = i ∧ bs.all id = true ∧ J D = some (.lst (bs.map V.bl)) ∧ SameN H J ∧ Tabs T J) ⟨[], rfl, rfl, upd_same, Same.n (same_new nD), hT.ext (same_new nD)⟩ ?_ ?_
    · rintro i J hi ⟨bs, rfl, ha, eD, sJ, tJ⟩
      have i5 : bs.length < 7 := by
        revert hi
        split <;> omega
      refine ⟨rfl, yes (iteT ⟨_, rfl, _, rfl, a, bs.length, ns, ?_, sJ.sqL hS, by omega, fun p G np hp sG => ?_⟩)⟩
      · rw [Int.zero_add]
        rfl
      · refine ⟨p, rfl, hp, tJ.ext sG, (sJ.sys hY).same sG, fun G2 L => ?_⟩
        have nDp : D ≠ p := ne_of_none eD np
        have gD : G2 D = some (.lst (bs.map V.bl)) := L.keep _ _ (sG _ _ eD) nDp fun _ z => by cases z
        refine ⟨_, gD, small1000 (by rw [List.length_map]; omega), bs ++ [true], by rw [List.length_append]; rfl, by rw [List.all_append, ha]; rfl, ?_, fun b o e nt => ?_, ?_⟩
        · rw [upd_same, List.map_append]
          rfl
        · rw [upd_ne (ne_of_none e nD)]
          exact L.keep _ _ (sG _ _ (sJ _ _ e nt)) (ne_of_none (sJ _ _ e nt) np) nt
        · exact tabs_upd L.tabs gD
    · rintro J ⟨bs, el, ha, eD, _⟩
      refine ⟨D, bs, rfl, .inl (.inl eD), ?_⟩
      rw [ha]
      exact k J
end
end Gu
namespace Gu
open PySem PySem.Spec PyProof.Rows L2
theorem at_mk {K : PySem.W.Frag} {h : Heap} {mg : Str → Option Value} {x : Str} {st : Stmt} {ps : List Str} {f : Addr} {oc : Value} {od an : Option Addr} {sl : Array (Option Value)} {kV dc pm cd ct : Value} (X : K.In h) (G : h.Ns mainGlobals mg)
    (hb : ∀ (kV doc pm : Value) (an : Option Addr) (cdv ct : Value) (us : List Value), us.length = ps.length → bindArgs (PySem.W.fnOf x x (defArgs st) (defBody st) (defScope st) .none kV doc pm an cdv ct) ⟨us, []⟩ = pure (ps.zip us))
    (a : PySem.W.nsIn K mainGlobals x = some (some (.ref f))) (l : K.lookup f = some ⟨oc, od, .func (PySem.W.fnOf x x (defArgs st) (defBody st) (defScope st) .none kV dc pm an cd ct), sl⟩) (c : PySem.W.codeIn K cd x = true) (k : PySem.W.keepIn K (.ref f) = true) : At K mg x st ps :=
  ⟨f, _, fun_mk l c k, (fun_mk l c k).binds hb, PySem.W.mg_of X G a⟩
theorem cst_mk {K : PySem.W.Frag} {h : Heap} {mg : Str → Option Value} {x : Str} {v : V} {u : Value} (X : K.In h) (G : h.Ns mainGlobals mg) (r : RelV v u) (a : PySem.W.nsIn K mainGlobals x = some (some u)) : ∃ u, mg x = some u ∧ RelV v u := ⟨u, PySem.W.mg_of X G a, r⟩
end Gu
namespace Gu
open PySem PySem.Spec PyProof.Rows L2
theorem fin {P : Program} {w : World} {K : PySem.W.Frag} {mg : Str → Option Value} {base : Heap} {C U_InputError E_InvalidMark E_InvalidRule E_InvalidWidth E_InvalidRow E_InvalidTexts cc_law_right PP_law_right f : Addr} {fd : FuncData} (B : Bi mg) (UK_InputError : UpK K mg bVE "InputError" U_InputError) (EK_InvalidMark : ErrK K mg bVE U_InputError "InvalidMark" E_InvalidMark) (EF_InvalidMark : ErrF K "InvalidMark" "value" E_InvalidMark) (EK_InvalidRule : ErrK K mg bVE U_InputError "InvalidRule" E_InvalidRule) (EF_InvalidRule : ErrF K "InvalidRule" "value" E_InvalidRule) (EK_InvalidWidth : ErrK K mg bVE U_InputError "InvalidWidth" E_InvalidWidth) (EF_InvalidWidth : ErrF K "InvalidWidth" "value" E_InvalidWidth) (EK_InvalidRow : ErrK K mg bVE U_InputError "InvalidRow" E_InvalidRow) (EF_InvalidRow : ErrF K "InvalidRow" "index" E_InvalidRow) (EK_InvalidTexts : ErrK K mg bVE U_InputError "InvalidTexts" E_InvalidTexts) (EF_InvalidTexts : ErrF K "InvalidTexts" "index" E_InvalidTexts) (AC_law_right : AtC K mg "_law_right" s_law_right ps_law_right cc_law_right) (TB_law_right : LamX.TabB base mg cc_law_right PP_law_right) (T_KINDS : TupC K mg "KINDS" ["end", "start", "middle"]) (Ss : ShC K mg C) (Is : InitAt K C) (Xs : ShX K C)
    (A_is_integer : At K mg "is_integer" s_is_integer ps_is_integer) (A_is_tuple : At K mg "is_tuple" s_is_tuple ps_is_tuple) (A_is_text : At K mg "is_text" s_is_text ps_is_text) (A_check_mark : At K mg "check_mark" s_check_mark ps_check_mark) (A_check_texts : At K mg "check_texts" s_check_texts ps_check_texts) (A_check_row : At K mg "check_row" s_check_row ps_check_row) (A_shortened : At K mg "shortened" s_shortened ps_shortened) (A_shown_by : At K mg "shown_by" s_shown_by ps_shown_by) (A_check_kind : At K mg "check_kind" s_check_kind ps_check_kind) (A_is_seen : At K mg "is_seen" s_is_seen ps_is_seen) (A_check_seen : At K mg "check_seen" s_check_seen ps_check_seen) (A_widths_of : At K mg "widths_of" s_widths_of ps_widths_of) (A_member_of : At K mg "member_of" s_member_of ps_member_of) (A_separates : At K mg "separates" s_separates ps_separates) (A_has_shown : At K mg "has_shown" s_has_shown ps_has_shown) (A_member : At K mg "member" s_member ps_member) (A_groups : At K mg "groups" s_groups ps_groups) (A_tells_apart : At K mg "tells_apart" s_tells_apart ps_tells_apart) (A_widths : At K mg "widths" s_widths ps_widths) (A_narrowest : At K mg "narrowest" s_narrowest ps_narrowest) (A_fitting : At K mg "fitting" s_fitting ps_fitting) (A_law_pot : At K mg "_law_pot" s_law_pot ps_law_pot) (A_law_ladle : At K mg "_law_ladle" s_law_ladle ps_law_ladle) (A_law_one_of : At K mg "_law_one_of" s_law_one_of ps_law_one_of) (A_law_ended : At K mg "_law_ended" s_law_ended ps_law_ended) (A_law_bad_list : At K mg "_law_bad_list" s_law_bad_list ps_law_bad_list) (A_law_bad_pairs : At K mg "_law_bad_pairs" s_law_bad_pairs ps_law_bad_pairs)
    (F : Fun K "law" "law" s_law f fd) : FnG P w K mg base 11 f fd ps_law (spLawT [(PP_law_right, lamQ_law_right)] K) := by
  have c1 : Cal P w K mg base 1 "_law_ladle" ps_law_ladle spLadle := cal_ladle B A_law_ladle
  have c2 : Cal P w K mg base 2 "_law_one_of" ps_law_one_of (spOneOf K) := cal_oneOf B A_law_one_of c1
  have c5 : Cal P w K mg base 1 "is_integer" ps_is_integer (spIsInteger K) := cal_isInteger B A_is_integer
  have c6 : Cal P w K mg base 1 "is_text" ps_is_text (spIsText K) := cal_isText B A_is_text
  have cmk : Cal P w K mg base 2 "check_mark" ps_check_mark spCheckMark := cal_checkMark B A_check_mark c6
  have m1 : Mak P w K mg base 3 "Shortener" C (spInit C) := mak_sh B Ss Is c5 cmk
  have t1 : Cal P w K mg base 1 "is_tuple" ps_is_tuple (spIsTuple K) := cal_isTuple B A_is_tuple
  have d4 : Cal P w K mg base 1 "shortened" ps_shortened (spShortS C) := cal_shortS B Ss A_shortened
  have d5 : Cal P w K mg base 2 "shown_by" ps_shown_by (spShownBy C) := cal_shownBy B Ss A_shown_by d4
  have d9 : Cal P w K mg base 2 "check_row" ps_check_row (spCheckRow C) := cal_checkRow B Ss A_check_row t1
  have g1 : Cal P w K mg base 1 "check_kind" ps_check_kind spCheckKind := cal_checkKind B T_KINDS A_check_kind
  have g2 : Cal P w K mg base 2 "check_texts" ps_check_texts (spTexts K) := cal_texts B A_check_texts t1 c6
  have g3 : Cal P w K mg base 1 "widths_of" ps_widths_of spWidthsOf := cal_widthsOf B A_widths_of
  have g4 : Cal P w K mg base 5 "member_of" ps_member_of (spMemberOf C) := cal_memberOf B A_member_of m1
  have g5 : Cal P w K mg base 3 "separates" ps_separates (spSep K C) := cal_sep B A_separates d5
  have g6 : Cal P w K mg base 6 "widths" ps_widths (spWidths K) := cal_widths B A_widths g1 cmk g2 g3 g4 g5
  have g7 : Cal P w K mg base 6 "member" ps_member (spMember C) := cal_member B A_member g1 cmk c5 g4
  have g8 : Cal P w K mg base 3 "groups" ps_groups (spGroups K C) := cal_groups B A_groups d9 g2 d5
  have g9 : Cal P w K mg base 2 "is_seen" ps_is_seen spIsSeen := cal_isSeen B A_is_seen t1 c6
  have h1 : Cal P w K mg base 3 "check_seen" ps_check_seen spCheckSeen := cal_checkSeen B A_check_seen t1 g9
  have h2 : Cal P w K mg base 3 "has_shown" ps_has_shown (spHas C) := cal_has B A_has_shown d5
  have h3 : Cal P w K mg base 6 "fitting" ps_fitting spFitting := cal_fitting B T_KINDS A_fitting cmk h1 g3 g4 h2
  have x1 : CalX P w K mg base 2 "check_row" ps_check_row (spRowE K C E_InvalidRow) := cal_rowE B Ss A_check_row EK_InvalidRow EF_InvalidRow (tup_of t1)
  have x2 : CalX P w K mg base 1 "check_kind" ps_check_kind (spKindE K E_InvalidRule) := cal_kindE B T_KINDS A_check_kind EK_InvalidRule EF_InvalidRule
  have x3 : CalX P w K mg base 2 "check_mark" ps_check_mark (spMarkB K E_InvalidMark) := cal_markB B A_check_mark EK_InvalidMark EF_InvalidMark (txt_of c6)
  have x4 := cal_textsE B A_check_texts EK_InvalidTexts EF_InvalidTexts (tup_of t1) (txt_of c6)
  have x5 := cal_seensE B A_check_seen EK_InvalidTexts EF_InvalidTexts (tup_of t1) (cal_seenB B A_is_seen (tup_of t1) (txt_of c6))
  have y1 := cx_member B A_member EK_InvalidWidth EF_InvalidWidth (numL_of c5) x2 x3
  have y2 := cx_widths B A_widths x2 x3 x4
  have y3 := cx_narrowest B A_narrowest y2
  have y4 := cx_groups B A_groups x1 x4
  have y5 := cx_tells B A_tells_apart x1 x4
  have y6 := cx_fitting B A_fitting x3 x5
  have b1 : Cal P w K mg base 3 "_law_bad_list" ps_law_bad_list (sp_law_bad_list K) := cal_law_bad_list B A_law_bad_list c2
  have b2 : Cal P w K mg base 3 "_law_bad_pairs" ps_law_bad_pairs (sp_law_bad_pairs K) := cal_law_bad_pairs B A_law_bad_pairs c2
  have e7 : CalG P w K mg base 10 "_law_right" ps_law_right (spRightT [(PP_law_right, lamQ_law_right)]) := cal_right B Ss Xs AC_law_right TB_law_right A_law_ended UK_InputError EK_InvalidMark EF_InvalidMark EK_InvalidRow EF_InvalidRow EK_InvalidRule EF_InvalidRule EK_InvalidTexts EF_InvalidTexts EK_InvalidWidth EF_InvalidWidth c2 b1 b2 m1 y1 y6 (y2.ask (by decide)) (y3.ask (by decide)) (y4.ask (by decide)) (y5.ask (by decide)) g7 h3 g8 g6
  exact cal_lawT B F (by decide) (cal_pot B A_law_pot) e7
end Gu
namespace Gu
open PySem PySem.Spec PyProof.Rows L2
set_option maxHeartbeats 0 in
theorem all_mk {l : PySem.W.OpenLaw} {q : Program} {w : World} {K : PySem.W.Frag} {h : Heap} {mg : Str → Option Value} {fa : Addr} {f_is_integer : Addr} {oc_is_integer kV_is_integer dc_is_integer pm_is_integer cd_is_integer ct_is_integer : Value} {od_is_integer an_is_integer : Option Addr} {sl_is_integer : Array (Option Value)} {f_is_tuple : Addr} {oc_is_tuple kV_is_tuple dc_is_tuple pm_is_tuple cd_is_tuple ct_is_tuple : Value} {od_is_tuple an_is_tuple : Option Addr} {sl_is_tuple : Array (Option Value)} {f_is_text : Addr} {oc_is_text kV_is_text dc_is_text pm_is_text cd_is_text ct_is_text : Value} {od_is_text an_is_text : Option Addr} {sl_is_text : Array (Option Value)} {f_check_mark : Addr} {oc_check_mark kV_check_mark dc_check_mark pm_check_mark cd_check_mark ct_check_mark : Value} {od_check_mark an_check_mark : Option Addr} {sl_check_mark : Array (Option Value)} {f_check_texts : Addr} {oc_check_texts kV_check_texts dc_check_texts pm_check_texts cd_check_texts ct_check_texts : Value} {od_check_texts an_check_texts : Option Addr} {sl_check_texts : Array (Option Value)} {f_check_row : Addr} {oc_check_row kV_check_row dc_check_row pm_check_row cd_check_row ct_check_row : Value} {od_check_row an_check_row : Option Addr} {sl_check_row : Array (Option Value)} {f_shortened : Addr} {oc_shortened kV_shortened dc_shortened pm_shortened cd_shortened ct_shortened : Value} {od_shortened an_shortened : Option Addr} {sl_shortened : Array (Option Value)} {f_shown_by : Addr} {oc_shown_by kV_shown_by dc_shown_by pm_shown_by cd_shown_by ct_shown_by : Value} {od_shown_by an_shown_by : Option Addr} {sl_shown_by : Array (Option Value)} {f_check_kind : Addr} {oc_check_kind kV_check_kind dc_check_kind pm_check_kind cd_check_kind ct_check_kind : Value} {od_check_kind an_check_kind : Option Addr} {sl_check_kind : Array (Option Value)} {f_is_seen : Addr} {oc_is_seen kV_is_seen dc_is_seen pm_is_seen cd_is_seen ct_is_seen : Value} {od_is_seen an_is_seen : Option Addr} {sl_is_seen : Array (Option Value)} {f_check_seen : Addr} {oc_check_seen kV_check_seen dc_check_seen pm_check_seen cd_check_seen ct_check_seen : Value} {od_check_seen an_check_seen : Option Addr} {sl_check_seen : Array (Option Value)} {f_widths_of : Addr} {oc_widths_of kV_widths_of dc_widths_of pm_widths_of cd_widths_of ct_widths_of : Value} {od_widths_of an_widths_of : Option Addr} {sl_widths_of : Array (Option Value)} {f_member_of : Addr} {oc_member_of kV_member_of dc_member_of pm_member_of cd_member_of ct_member_of : Value} {od_member_of an_member_of : Option Addr} {sl_member_of : Array (Option Value)} {f_separates : Addr} {oc_separates kV_separates dc_separates pm_separates cd_separates ct_separates : Value} {od_separates an_separates : Option Addr} {sl_separates : Array (Option Value)} {f_has_shown : Addr} {oc_has_shown kV_has_shown dc_has_shown pm_has_shown cd_has_shown ct_has_shown : Value} {od_has_shown an_has_shown : Option Addr} {sl_has_shown : Array (Option Value)} {f_member : Addr} {oc_member kV_member dc_member pm_member cd_member ct_member : Value} {od_member an_member : Option Addr} {sl_member : Array (Option Value)} {f_groups : Addr} {oc_groups kV_groups dc_groups pm_groups cd_groups ct_groups : Value} {od_groups an_groups : Option Addr} {sl_groups : Array (Option Value)} {f_tells_apart : Addr} {oc_tells_apart kV_tells_apart dc_tells_apart pm_tells_apart cd_tells_apart ct_tells_apart : Value} {od_tells_apart an_tells_apart : Option Addr} {sl_tells_apart : Array (Option Value)} {f_widths : Addr} {oc_widths kV_widths dc_widths pm_widths cd_widths ct_widths : Value} {od_widths an_widths : Option Addr} {sl_widths : Array (Option Value)} {f_narrowest : Addr} {oc_narrowest kV_narrowest dc_narrowest pm_narrowest cd_narrowest ct_narrowest : Value} {od_narrowest an_narrowest : Option Addr} {sl_narrowest : Array (Option Value)} {f_fitting : Addr} {oc_fitting kV_fitting dc_fitting pm_fitting cd_fitting ct_fitting : Value} {od_fitting an_fitting : Option Addr} {sl_fitting : Array (Option Value)} {f_law_pot : Addr} {oc_law_pot kV_law_pot dc_law_pot pm_law_pot cd_law_pot ct_law_pot : Value} {od_law_pot an_law_pot : Option Addr} {sl_law_pot : Array (Option Value)} {f_law_ladle : Addr} {oc_law_ladle kV_law_ladle dc_law_ladle pm_law_ladle cd_law_ladle ct_law_ladle : Value} {od_law_ladle an_law_ladle : Option Addr} {sl_law_ladle : Array (Option Value)} {f_law_one_of : Addr} {oc_law_one_of kV_law_one_of dc_law_one_of pm_law_one_of cd_law_one_of ct_law_one_of : Value} {od_law_one_of an_law_one_of : Option Addr} {sl_law_one_of : Array (Option Value)} {f_law_ended : Addr} {oc_law_ended kV_law_ended dc_law_ended pm_law_ended cd_law_ended ct_law_ended : Value} {od_law_ended an_law_ended : Option Addr} {sl_law_ended : Array (Option Value)} {f_law_bad_list : Addr} {oc_law_bad_list kV_law_bad_list dc_law_bad_list pm_law_bad_list cd_law_bad_list ct_law_bad_list : Value} {od_law_bad_list an_law_bad_list : Option Addr} {sl_law_bad_list : Array (Option Value)} {f_law_bad_pairs : Addr} {oc_law_bad_pairs kV_law_bad_pairs dc_law_bad_pairs pm_law_bad_pairs cd_law_bad_pairs ct_law_bad_pairs : Value} {od_law_bad_pairs an_law_bad_pairs : Option Addr} {sl_law_bad_pairs : Array (Option Value)} {f_law_right : Addr} {oc_law_right kV_law_right dc_law_right pm_law_right cd_law_right ct_law_right : Value} {od_law_right an_law_right : Option Addr} {sl_law_right : Array (Option Value)} {f_law : Addr} {oc_law kV_law dc_law pm_law cd_law ct_law : Value} {od_law an_law : Option Addr} {sl_law : Array (Option Value)} {C : Addr} {f_is : Addr} {oc_is kV_is dc_is pm_is cd_is ct_is : Value} {od_is an_is : Option Addr} {sl_is : Array (Option Value)} {U_InputError M_InputError : Addr} {q_InputError : Str} {bs_InputError sub_InputError : List Value} {sn_InputError : List Str} {ab_InputError : Bool} {col_InputError : Option Bool} {dd_InputError : Option Addr} {m0_InputError m1_InputError m2_InputError m3_InputError m5_InputError : Option Value} {E_InvalidMark M_InvalidMark : Addr} {q_InvalidMark : Str} {bs_InvalidMark sub_InvalidMark : List Value} {sn_InvalidMark : List Str} {ab_InvalidMark : Bool} {col_InvalidMark : Option Bool} {dd_InvalidMark : Option Addr} {m0_InvalidMark m1_InvalidMark m2_InvalidMark m3_InvalidMark m5_InvalidMark : Option Value} {f_xInvalidMark : Addr} {oc_xInvalidMark kV_xInvalidMark dc_xInvalidMark pm_xInvalidMark cd_xInvalidMark ct_xInvalidMark : Value} {od_xInvalidMark an_xInvalidMark : Option Addr} {sl_xInvalidMark : Array (Option Value)} {E_InvalidRule M_InvalidRule : Addr} {q_InvalidRule : Str} {bs_InvalidRule sub_InvalidRule : List Value} {sn_InvalidRule : List Str} {ab_InvalidRule : Bool} {col_InvalidRule : Option Bool} {dd_InvalidRule : Option Addr} {m0_InvalidRule m1_InvalidRule m2_InvalidRule m3_InvalidRule m5_InvalidRule : Option Value} {f_xInvalidRule : Addr} {oc_xInvalidRule kV_xInvalidRule dc_xInvalidRule pm_xInvalidRule cd_xInvalidRule ct_xInvalidRule : Value} {od_xInvalidRule an_xInvalidRule : Option Addr} {sl_xInvalidRule : Array (Option Value)} {E_InvalidWidth M_InvalidWidth : Addr} {q_InvalidWidth : Str} {bs_InvalidWidth sub_InvalidWidth : List Value} {sn_InvalidWidth : List Str} {ab_InvalidWidth : Bool} {col_InvalidWidth : Option Bool} {dd_InvalidWidth : Option Addr} {m0_InvalidWidth m1_InvalidWidth m2_InvalidWidth m3_InvalidWidth m5_InvalidWidth : Option Value} {f_xInvalidWidth : Addr} {oc_xInvalidWidth kV_xInvalidWidth dc_xInvalidWidth pm_xInvalidWidth cd_xInvalidWidth ct_xInvalidWidth : Value} {od_xInvalidWidth an_xInvalidWidth : Option Addr} {sl_xInvalidWidth : Array (Option Value)} {E_InvalidRow M_InvalidRow : Addr} {q_InvalidRow : Str} {bs_InvalidRow sub_InvalidRow : List Value} {sn_InvalidRow : List Str} {ab_InvalidRow : Bool} {col_InvalidRow : Option Bool} {dd_InvalidRow : Option Addr} {m0_InvalidRow m1_InvalidRow m2_InvalidRow m3_InvalidRow m5_InvalidRow : Option Value} {f_xInvalidRow : Addr} {oc_xInvalidRow kV_xInvalidRow dc_xInvalidRow pm_xInvalidRow cd_xInvalidRow ct_xInvalidRow : Value} {od_xInvalidRow an_xInvalidRow : Option Addr} {sl_xInvalidRow : Array (Option Value)} {E_InvalidTexts M_InvalidTexts : Addr} {q_InvalidTexts : Str} {bs_InvalidTexts sub_InvalidTexts : List Value} {sn_InvalidTexts : List Str} {ab_InvalidTexts : Bool} {col_InvalidTexts : Option Bool} {dd_InvalidTexts : Option Addr} {m0_InvalidTexts m1_InvalidTexts m2_InvalidTexts m3_InvalidTexts m5_InvalidTexts : Option Value} {f_xInvalidTexts : Addr} {oc_xInvalidTexts kV_xInvalidTexts dc_xInvalidTexts pm_xInvalidTexts cd_xInvalidTexts ct_xInvalidTexts : Value} {od_xInvalidTexts an_xInvalidTexts : Option Addr} {sl_xInvalidTexts : Array (Option Value)} {cc_law_right PP_law_right : Addr} {rd_law_right : DefRec} {u_MOST_SIGNS : Tok} {u_MOST_MARK : Tok} {u_MOST_ROW : Tok} {u_MOST_TEXT : Tok} {u_SIGNS : Tok} {T_KINDS : Addr} {td_KINDS : Option Addr} {ts_KINDS : Array (Option Value)} {tn_KINDS : Nat} {e_KINDS_0 e_KINDS_1 e_KINDS_2 : Tok} {u_MOST_TEXTS : Tok}
    (X : K.In h) (G : h.Ns mainGlobals mg) (TO : TabsOf q K h) (hfa : mg "law" = some (.ref fa))
    (a_is_integer : PySem.W.nsIn K mainGlobals "is_integer" = some (some (.ref f_is_integer)))
    (l_is_integer : K.lookup f_is_integer = some ⟨oc_is_integer, od_is_integer, .func (PySem.W.fnOf "is_integer" "is_integer" (defArgs s_is_integer) (defBody s_is_integer) (defScope s_is_integer) .none kV_is_integer dc_is_integer pm_is_integer an_is_integer cd_is_integer ct_is_integer), sl_is_integer⟩)
    (c_is_integer : PySem.W.codeIn K cd_is_integer "is_integer" = true)
    (k_is_integer : PySem.W.keepIn K (.ref f_is_integer) = true)
    (a_is_tuple : PySem.W.nsIn K mainGlobals "is_tuple" = some (some (.ref f_is_tuple)))
    (l_is_tuple : K.lookup f_is_tuple = some ⟨oc_is_tuple, od_is_tuple, .func (PySem.W.fnOf "is_tuple" "is_tuple" (defArgs s_is_tuple) (defBody s_is_tuple) (defScope s_is_tuple) .none kV_is_tuple dc_is_tuple pm_is_tuple an_is_tuple cd_is_tuple ct_is_tuple), sl_is_tuple⟩)
    (c_is_tuple : PySem.W.codeIn K cd_is_tuple "is_tuple" = true)
    (k_is_tuple : PySem.W.keepIn K (.ref f_is_tuple) = true)
    (a_is_text : PySem.W.nsIn K mainGlobals "is_text" = some (some (.ref f_is_text)))
    (l_is_text : K.lookup f_is_text = some ⟨oc_is_text, od_is_text, .func (PySem.W.fnOf "is_text" "is_text" (defArgs s_is_text) (defBody s_is_text) (defScope s_is_text) .none kV_is_text dc_is_text pm_is_text an_is_text cd_is_text ct_is_text), sl_is_text⟩)
    (c_is_text : PySem.W.codeIn K cd_is_text "is_text" = true)
    (k_is_text : PySem.W.keepIn K (.ref f_is_text) = true)
    (a_check_mark : PySem.W.nsIn K mainGlobals "check_mark" = some (some (.ref f_check_mark)))
    (l_check_mark : K.lookup f_check_mark = some ⟨oc_check_mark, od_check_mark, .func (PySem.W.fnOf "check_mark" "check_mark" (defArgs s_check_mark) (defBody s_check_mark) (defScope s_check_mark) .none kV_check_mark dc_check_mark pm_check_mark an_check_mark cd_check_mark ct_check_mark), sl_check_mark⟩)
    (c_check_mark : PySem.W.codeIn K cd_check_mark "check_mark" = true)
    (k_check_mark : PySem.W.keepIn K (.ref f_check_mark) = true)
    (a_check_texts : PySem.W.nsIn K mainGlobals "check_texts" = some (some (.ref f_check_texts)))
    (l_check_texts : K.lookup f_check_texts = some ⟨oc_check_texts, od_check_texts, .func (PySem.W.fnOf "check_texts" "check_texts" (defArgs s_check_texts) (defBody s_check_texts) (defScope s_check_texts) .none kV_check_texts dc_check_texts pm_check_texts an_check_texts cd_check_texts ct_check_texts), sl_check_texts⟩)
    (c_check_texts : PySem.W.codeIn K cd_check_texts "check_texts" = true)
    (k_check_texts : PySem.W.keepIn K (.ref f_check_texts) = true)
    (a_check_row : PySem.W.nsIn K mainGlobals "check_row" = some (some (.ref f_check_row)))
    (l_check_row : K.lookup f_check_row = some ⟨oc_check_row, od_check_row, .func (PySem.W.fnOf "check_row" "check_row" (defArgs s_check_row) (defBody s_check_row) (defScope s_check_row) .none kV_check_row dc_check_row pm_check_row an_check_row cd_check_row ct_check_row), sl_check_row⟩)
    (c_check_row : PySem.W.codeIn K cd_check_row "check_row" = true)
    (k_check_row : PySem.W.keepIn K (.ref f_check_row) = true)
    (a_shortened : PySem.W.nsIn K mainGlobals "shortened" = some (some (.ref f_shortened)))
    (l_shortened : K.lookup f_shortened = some ⟨oc_shortened, od_shortened, .func (PySem.W.fnOf "shortened" "shortened" (defArgs s_shortened) (defBody s_shortened) (defScope s_shortened) .none kV_shortened dc_shortened pm_shortened an_shortened cd_shortened ct_shortened), sl_shortened⟩)
    (c_shortened : PySem.W.codeIn K cd_shortened "shortened" = true)
    (k_shortened : PySem.W.keepIn K (.ref f_shortened) = true)
    (a_shown_by : PySem.W.nsIn K mainGlobals "shown_by" = some (some (.ref f_shown_by)))
    (l_shown_by : K.lookup f_shown_by = some ⟨oc_shown_by, od_shown_by, .func (PySem.W.fnOf "shown_by" "shown_by" (defArgs s_shown_by) (defBody s_shown_by) (defScope s_shown_by) .none kV_shown_by dc_shown_by pm_shown_by an_shown_by cd_shown_by ct_shown_by), sl_shown_by⟩)
    (c_shown_by : PySem.W.codeIn K cd_shown_by "shown_by" = true)
    (k_shown_by : PySem.W.keepIn K (.ref f_shown_by) = true)
    (a_check_kind : PySem.W.nsIn K mainGlobals "check_kind" = some (some (.ref f_check_kind)))
    (l_check_kind : K.lookup f_check_kind = some ⟨oc_check_kind, od_check_kind, .func (PySem.W.fnOf "check_kind" "check_kind" (defArgs s_check_kind) (defBody s_check_kind) (defScope s_check_kind) .none kV_check_kind dc_check_kind pm_check_kind an_check_kind cd_check_kind ct_check_kind), sl_check_kind⟩)
    (c_check_kind : PySem.W.codeIn K cd_check_kind "check_kind" = true)
    (k_check_kind : PySem.W.keepIn K (.ref f_check_kind) = true)
    (a_is_seen : PySem.W.nsIn K mainGlobals "is_seen" = some (some (.ref f_is_seen)))
    (l_is_seen : K.lookup f_is_seen = some ⟨oc_is_seen, od_is_seen, .func (PySem.W.fnOf "is_seen" "is_seen" (defArgs s_is_seen) (defBody s_is_seen) (defScope s_is_seen) .none kV_is_seen dc_is_seen pm_is_seen an_is_seen cd_is_seen ct_is_seen), sl_is_seen⟩)
    (c_is_seen : PySem.W.codeIn K cd_is_seen "is_seen" = true)
    (k_is_seen : PySem.W.keepIn K (.ref f_is_seen) = true)
    (a_check_seen : PySem.W.nsIn K mainGlobals "check_seen" = some (some (.ref f_check_seen)))
    (l_check_seen : K.lookup f_check_seen = some ⟨oc_check_seen, od_check_seen, .func (PySem.W.fnOf "check_seen" "check_seen" (defArgs s_check_seen) (defBody s_check_seen) (defScope s_check_seen) .none kV_check_seen dc_check_seen pm_check_seen an_check_seen cd_check_seen ct_check_seen), sl_check_seen⟩)
    (c_check_seen : PySem.W.codeIn K cd_check_seen "check_seen" = true)
    (k_check_seen : PySem.W.keepIn K (.ref f_check_seen) = true)
    (a_widths_of : PySem.W.nsIn K mainGlobals "widths_of" = some (some (.ref f_widths_of)))
    (l_widths_of : K.lookup f_widths_of = some ⟨oc_widths_of, od_widths_of, .func (PySem.W.fnOf "widths_of" "widths_of" (defArgs s_widths_of) (defBody s_widths_of) (defScope s_widths_of) .none kV_widths_of dc_widths_of pm_widths_of an_widths_of cd_widths_of ct_widths_of), sl_widths_of⟩)
    (c_widths_of : PySem.W.codeIn K cd_widths_of "widths_of" = true)
    (k_widths_of : PySem.W.keepIn K (.ref f_widths_of) = true)
    (a_member_of : PySem.W.nsIn K mainGlobals "member_of" = some (some (.ref f_member_of)))
    (l_member_of : K.lookup f_member_of = some ⟨oc_member_of, od_member_of, .func (PySem.W.fnOf "member_of" "member_of" (defArgs s_member_of) (defBody s_member_of) (defScope s_member_of) .none kV_member_of dc_member_of pm_member_of an_member_of cd_member_of ct_member_of), sl_member_of⟩)
    (c_member_of : PySem.W.codeIn K cd_member_of "member_of" = true)
    (k_member_of : PySem.W.keepIn K (.ref f_member_of) = true)
    (a_separates : PySem.W.nsIn K mainGlobals "separates" = some (some (.ref f_separates)))
    (l_separates : K.lookup f_separates = some ⟨oc_separates, od_separates, .func (PySem.W.fnOf "separates" "separates" (defArgs s_separates) (defBody s_separates) (defScope s_separates) .none kV_separates dc_separates pm_separates an_separates cd_separates ct_separates), sl_separates⟩)
    (c_separates : PySem.W.codeIn K cd_separates "separates" = true)
    (k_separates : PySem.W.keepIn K (.ref f_separates) = true)
    (a_has_shown : PySem.W.nsIn K mainGlobals "has_shown" = some (some (.ref f_has_shown)))
    (l_has_shown : K.lookup f_has_shown = some ⟨oc_has_shown, od_has_shown, .func (PySem.W.fnOf "has_shown" "has_shown" (defArgs s_has_shown) (defBody s_has_shown) (defScope s_has_shown) .none kV_has_shown dc_has_shown pm_has_shown an_has_shown cd_has_shown ct_has_shown), sl_has_shown⟩)
    (c_has_shown : PySem.W.codeIn K cd_has_shown "has_shown" = true)
    (k_has_shown : PySem.W.keepIn K (.ref f_has_shown) = true)
    (a_member : PySem.W.nsIn K mainGlobals "member" = some (some (.ref f_member)))
    (l_member : K.lookup f_member = some ⟨oc_member, od_member, .func (PySem.W.fnOf "member" "member" (defArgs s_member) (defBody s_member) (defScope s_member) .none kV_member dc_member pm_member an_member cd_member ct_member), sl_member⟩)
    (c_member : PySem.W.codeIn K cd_member "member" = true)
    (k_member : PySem.W.keepIn K (.ref f_member) = true)
    (a_groups : PySem.W.nsIn K mainGlobals "groups" = some (some (.ref f_groups)))
    (l_groups : K.lookup f_groups = some ⟨oc_groups, od_groups, .func (PySem.W.fnOf "groups" "groups" (defArgs s_groups) (defBody s_groups) (defScope s_groups) .none kV_groups dc_groups pm_groups an_groups cd_groups ct_groups), sl_groups⟩)
    (c_groups : PySem.W.codeIn K cd_groups "groups" = true)
    (k_groups : PySem.W.keepIn K (.ref f_groups) = true)
    (a_tells_apart : PySem.W.nsIn K mainGlobals "tells_apart" = some (some (.ref f_tells_apart)))
    (l_tells_apart : K.lookup f_tells_apart = some ⟨oc_tells_apart, od_tells_apart, .func (PySem.W.fnOf "tells_apart" "tells_apart" (defArgs s_tells_apart) (defBody s_tells_apart) (defScope s_tells_apart) .none kV_tells_apart dc_tells_apart pm_tells_apart an_tells_apart cd_tells_apart ct_tells_apart), sl_tells_apart⟩)
    (c_tells_apart : PySem.W.codeIn K cd_tells_apart "tells_apart" = true)
    (k_tells_apart : PySem.W.keepIn K (.ref f_tells_apart) = true)
    (a_widths : PySem.W.nsIn K mainGlobals "widths" = some (some (.ref f_widths)))
    (l_widths : K.lookup f_widths = some ⟨oc_widths, od_widths, .func (PySem.W.fnOf "widths" "widths" (defArgs s_widths) (defBody s_widths) (defScope s_widths) .none kV_widths dc_widths pm_widths an_widths cd_widths ct_widths), sl_widths⟩)
    (c_widths : PySem.W.codeIn K cd_widths "widths" = true)
    (k_widths : PySem.W.keepIn K (.ref f_widths) = true)
    (a_narrowest : PySem.W.nsIn K mainGlobals "narrowest" = some (some (.ref f_narrowest)))
    (l_narrowest : K.lookup f_narrowest = some ⟨oc_narrowest, od_narrowest, .func (PySem.W.fnOf "narrowest" "narrowest" (defArgs s_narrowest) (defBody s_narrowest) (defScope s_narrowest) .none kV_narrowest dc_narrowest pm_narrowest an_narrowest cd_narrowest ct_narrowest), sl_narrowest⟩)
    (c_narrowest : PySem.W.codeIn K cd_narrowest "narrowest" = true)
    (k_narrowest : PySem.W.keepIn K (.ref f_narrowest) = true)
    (a_fitting : PySem.W.nsIn K mainGlobals "fitting" = some (some (.ref f_fitting)))
    (l_fitting : K.lookup f_fitting = some ⟨oc_fitting, od_fitting, .func (PySem.W.fnOf "fitting" "fitting" (defArgs s_fitting) (defBody s_fitting) (defScope s_fitting) .none kV_fitting dc_fitting pm_fitting an_fitting cd_fitting ct_fitting), sl_fitting⟩)
    (c_fitting : PySem.W.codeIn K cd_fitting "fitting" = true)
    (k_fitting : PySem.W.keepIn K (.ref f_fitting) = true)
    (a_law_pot : PySem.W.nsIn K mainGlobals "_law_pot" = some (some (.ref f_law_pot)))
    (l_law_pot : K.lookup f_law_pot = some ⟨oc_law_pot, od_law_pot, .func (PySem.W.fnOf "_law_pot" "_law_pot" (defArgs s_law_pot) (defBody s_law_pot) (defScope s_law_pot) .none kV_law_pot dc_law_pot pm_law_pot an_law_pot cd_law_pot ct_law_pot), sl_law_pot⟩)
    (c_law_pot : PySem.W.codeIn K cd_law_pot "_law_pot" = true)
    (k_law_pot : PySem.W.keepIn K (.ref f_law_pot) = true)
    (a_law_ladle : PySem.W.nsIn K mainGlobals "_law_ladle" = some (some (.ref f_law_ladle)))
    (l_law_ladle : K.lookup f_law_ladle = some ⟨oc_law_ladle, od_law_ladle, .func (PySem.W.fnOf "_law_ladle" "_law_ladle" (defArgs s_law_ladle) (defBody s_law_ladle) (defScope s_law_ladle) .none kV_law_ladle dc_law_ladle pm_law_ladle an_law_ladle cd_law_ladle ct_law_ladle), sl_law_ladle⟩)
    (c_law_ladle : PySem.W.codeIn K cd_law_ladle "_law_ladle" = true)
    (k_law_ladle : PySem.W.keepIn K (.ref f_law_ladle) = true)
    (a_law_one_of : PySem.W.nsIn K mainGlobals "_law_one_of" = some (some (.ref f_law_one_of)))
    (l_law_one_of : K.lookup f_law_one_of = some ⟨oc_law_one_of, od_law_one_of, .func (PySem.W.fnOf "_law_one_of" "_law_one_of" (defArgs s_law_one_of) (defBody s_law_one_of) (defScope s_law_one_of) .none kV_law_one_of dc_law_one_of pm_law_one_of an_law_one_of cd_law_one_of ct_law_one_of), sl_law_one_of⟩)
    (c_law_one_of : PySem.W.codeIn K cd_law_one_of "_law_one_of" = true)
    (k_law_one_of : PySem.W.keepIn K (.ref f_law_one_of) = true)
    (a_law_ended : PySem.W.nsIn K mainGlobals "_law_ended" = some (some (.ref f_law_ended)))
    (l_law_ended : K.lookup f_law_ended = some ⟨oc_law_ended, od_law_ended, .func (PySem.W.fnOf "_law_ended" "_law_ended" (defArgs s_law_ended) (defBody s_law_ended) (defScope s_law_ended) .none kV_law_ended dc_law_ended pm_law_ended an_law_ended cd_law_ended ct_law_ended), sl_law_ended⟩)
    (c_law_ended : PySem.W.codeIn K cd_law_ended "_law_ended" = true)
    (k_law_ended : PySem.W.keepIn K (.ref f_law_ended) = true)
    (a_law_bad_list : PySem.W.nsIn K mainGlobals "_law_bad_list" = some (some (.ref f_law_bad_list)))
    (l_law_bad_list : K.lookup f_law_bad_list = some ⟨oc_law_bad_list, od_law_bad_list, .func (PySem.W.fnOf "_law_bad_list" "_law_bad_list" (defArgs s_law_bad_list) (defBody s_law_bad_list) (defScope s_law_bad_list) .none kV_law_bad_list dc_law_bad_list pm_law_bad_list an_law_bad_list cd_law_bad_list ct_law_bad_list), sl_law_bad_list⟩)
    (c_law_bad_list : PySem.W.codeIn K cd_law_bad_list "_law_bad_list" = true)
    (k_law_bad_list : PySem.W.keepIn K (.ref f_law_bad_list) = true)
    (a_law_bad_pairs : PySem.W.nsIn K mainGlobals "_law_bad_pairs" = some (some (.ref f_law_bad_pairs)))
    (l_law_bad_pairs : K.lookup f_law_bad_pairs = some ⟨oc_law_bad_pairs, od_law_bad_pairs, .func (PySem.W.fnOf "_law_bad_pairs" "_law_bad_pairs" (defArgs s_law_bad_pairs) (defBody s_law_bad_pairs) (defScope s_law_bad_pairs) .none kV_law_bad_pairs dc_law_bad_pairs pm_law_bad_pairs an_law_bad_pairs cd_law_bad_pairs ct_law_bad_pairs), sl_law_bad_pairs⟩)
    (c_law_bad_pairs : PySem.W.codeIn K cd_law_bad_pairs "_law_bad_pairs" = true)
    (k_law_bad_pairs : PySem.W.keepIn K (.ref f_law_bad_pairs) = true)
    (a_law_right : PySem.W.nsIn K mainGlobals "_law_right" = some (some (.ref f_law_right)))
    (l_law_right : K.lookup f_law_right = some ⟨oc_law_right, od_law_right, .func (PySem.W.fnOf "_law_right" "_law_right" (defArgs s_law_right) (defBody s_law_right) (defScope s_law_right) .none kV_law_right dc_law_right pm_law_right an_law_right cd_law_right ct_law_right), sl_law_right⟩)
    (c_law_right : PySem.W.codeIn K cd_law_right "_law_right" = true)
    (k_law_right : PySem.W.keepIn K (.ref f_law_right) = true)
    (a_law : PySem.W.nsIn K mainGlobals "law" = some (some (.ref f_law)))
    (l_law : K.lookup f_law = some ⟨oc_law, od_law, .func (PySem.W.fnOf "law" "law" (defArgs s_law) (defBody s_law) (defScope s_law) .none kV_law dc_law pm_law an_law cd_law ct_law), sl_law⟩)
    (c_law : PySem.W.codeIn K cd_law "law" = true)
    (k_law : PySem.W.keepIn K (.ref f_law) = true)
    (qn : PySem.W.specialIn K (.builtin "object.__class__") "__get__" = some (some (.builtin "getset_descriptor.__get__")))
    (qt : PySem.W.takesIn K (.builtin "object.__class__") = some true)
    (asC : PySem.W.nsIn K mainGlobals "Shortener" = some (some (.ref C)))
    (a_is : PySem.W.findIn K (.ref C) "__init__" = some (some (.ref f_is)))
    (l_is : K.lookup f_is = some ⟨oc_is, od_is, .func (PySem.W.fnOf "__init__" "Shortener.__init__" (defArgs s_Shortener_init) (defBody s_Shortener_init) (defScope s_Shortener_init) .none kV_is dc_is pm_is an_is cd_is ct_is), sl_is⟩)
    (c_is : PySem.W.codeIn K cd_is "Shortener.__init__" = true)
    (k_is : PySem.W.keepIn K (.ref f_is) = true)
    (i_is : PySem.W.isFn K (.ref f_is) = true)
    (pgs : PySem.W.plainGet K C Str.empty = true)
    (hds : PySem.W.hasDictIn K C = true)
    (pos : PySem.W.plainOver K C = true)
    (sas : PySem.W.findIn K (.ref C) "__setattr__" = some (some (.builtin "object.__setattr__")))
    (mksC : PySem.W.makesIn K C = true)
    (ksC : PySem.W.keepIn K (.ref C) = true)
    (ns_limit : PySem.W.findIn K (.ref C) "limit" = some none)
    (ns_head : PySem.W.findIn K (.ref C) "head" = some none)
    (ns_tail : PySem.W.findIn K (.ref C) "tail" = some none)
    (ns_mark : PySem.W.findIn K (.ref C) "mark" = some none)
    (ns_told : PySem.W.findIn K (.ref C) "told" = some none)
    (qas : PySem.W.findIn K (.ref C) "__class__" = some (some (.builtin "object.__class__")))
    (qms : PySem.W.mroIn K C (.type "object") = some true)
    (xts : PySem.W.typeIn K (.ref C) = some (.type "type"))
    (xns : PySem.W.mroIn K C (.type "tuple") = some false)
    (xss : PySem.W.mroIn K C (.type "str") = some false)
    (ea_InputError : PySem.W.nsIn K mainGlobals "InputError" = some (some (.ref U_InputError)))
    (ex_InputError : K.lookup U_InputError = some (excClassObj "InputError" q_InputError U_InputError M_InputError bs_InputError [.type "ValueError", .type "Exception", .type "BaseException", .type "object"] true sn_InputError sub_InputError ab_InputError col_InputError dd_InputError m0_InputError m1_InputError m2_InputError m3_InputError m5_InputError "ValueError.__new__"))
    (et_InputError : PySem.W.typeIn K (.ref U_InputError) = some (.type "type"))
    (ea_InvalidMark : PySem.W.nsIn K mainGlobals "InvalidMark" = some (some (.ref E_InvalidMark)))
    (ex_InvalidMark : K.lookup E_InvalidMark = some (excClassObj "InvalidMark" q_InvalidMark E_InvalidMark M_InvalidMark bs_InvalidMark (.ref U_InputError :: [.type "ValueError", .type "Exception", .type "BaseException", .type "object"]) true sn_InvalidMark sub_InvalidMark ab_InvalidMark col_InvalidMark dd_InvalidMark m0_InvalidMark m1_InvalidMark m2_InvalidMark m3_InvalidMark m5_InvalidMark "ValueError.__new__"))
    (et_InvalidMark : PySem.W.typeIn K (.ref E_InvalidMark) = some (.type "type"))
    (eset_InvalidMark : PySem.W.findIn K (.ref E_InvalidMark) "__setattr__" = some (some (.builtin "object.__setattr__")))
    (eget_InvalidMark : PySem.W.findIn K (.ref E_InvalidMark) "__getattribute__" = some (some (.builtin "BaseException.__getattribute__")))
    (ecla_InvalidMark : PySem.W.findIn K (.ref E_InvalidMark) "__class__" = some (some (.builtin "object.__class__")))
    (egg_InvalidMark : PySem.W.findIn K (.ref E_InvalidMark) "__getattr__" = some none)
    (ek_InvalidMark : PySem.W.keepIn K (.ref E_InvalidMark) = true)
    (en_InvalidMark : PySem.W.findIn K (.ref E_InvalidMark) "value" = some none)
    (a_xInvalidMark : PySem.W.findIn K (.ref E_InvalidMark) "__init__" = some (some (.ref f_xInvalidMark)))
    (l_xInvalidMark : K.lookup f_xInvalidMark = some ⟨oc_xInvalidMark, od_xInvalidMark, .func (PySem.W.fnOf "__init__" "InvalidMark.__init__" (defArgs s_InvalidMark_init) (defBody s_InvalidMark_init) (defScope s_InvalidMark_init) .none kV_xInvalidMark dc_xInvalidMark pm_xInvalidMark an_xInvalidMark cd_xInvalidMark ct_xInvalidMark), sl_xInvalidMark⟩)
    (c_xInvalidMark : PySem.W.codeIn K cd_xInvalidMark "InvalidMark.__init__" = true)
    (k_xInvalidMark : PySem.W.keepIn K (.ref f_xInvalidMark) = true)
    (ei_InvalidMark : PySem.W.typeIn K (.ref f_xInvalidMark) = some (.type "function"))
    (ea_InvalidRule : PySem.W.nsIn K mainGlobals "InvalidRule" = some (some (.ref E_InvalidRule)))
    (ex_InvalidRule : K.lookup E_InvalidRule = some (excClassObj "InvalidRule" q_InvalidRule E_InvalidRule M_InvalidRule bs_InvalidRule (.ref U_InputError :: [.type "ValueError", .type "Exception", .type "BaseException", .type "object"]) true sn_InvalidRule sub_InvalidRule ab_InvalidRule col_InvalidRule dd_InvalidRule m0_InvalidRule m1_InvalidRule m2_InvalidRule m3_InvalidRule m5_InvalidRule "ValueError.__new__"))
    (et_InvalidRule : PySem.W.typeIn K (.ref E_InvalidRule) = some (.type "type"))
    (eset_InvalidRule : PySem.W.findIn K (.ref E_InvalidRule) "__setattr__" = some (some (.builtin "object.__setattr__")))
    (eget_InvalidRule : PySem.W.findIn K (.ref E_InvalidRule) "__getattribute__" = some (some (.builtin "BaseException.__getattribute__")))
    (ecla_InvalidRule : PySem.W.findIn K (.ref E_InvalidRule) "__class__" = some (some (.builtin "object.__class__")))
    (egg_InvalidRule : PySem.W.findIn K (.ref E_InvalidRule) "__getattr__" = some none)
    (ek_InvalidRule : PySem.W.keepIn K (.ref E_InvalidRule) = true)
    (en_InvalidRule : PySem.W.findIn K (.ref E_InvalidRule) "value" = some none)
    (a_xInvalidRule : PySem.W.findIn K (.ref E_InvalidRule) "__init__" = some (some (.ref f_xInvalidRule)))
    (l_xInvalidRule : K.lookup f_xInvalidRule = some ⟨oc_xInvalidRule, od_xInvalidRule, .func (PySem.W.fnOf "__init__" "InvalidRule.__init__" (defArgs s_InvalidRule_init) (defBody s_InvalidRule_init) (defScope s_InvalidRule_init) .none kV_xInvalidRule dc_xInvalidRule pm_xInvalidRule an_xInvalidRule cd_xInvalidRule ct_xInvalidRule), sl_xInvalidRule⟩)
    (c_xInvalidRule : PySem.W.codeIn K cd_xInvalidRule "InvalidRule.__init__" = true)
    (k_xInvalidRule : PySem.W.keepIn K (.ref f_xInvalidRule) = true)
    (ei_InvalidRule : PySem.W.typeIn K (.ref f_xInvalidRule) = some (.type "function"))
    (ea_InvalidWidth : PySem.W.nsIn K mainGlobals "InvalidWidth" = some (some (.ref E_InvalidWidth)))
    (ex_InvalidWidth : K.lookup E_InvalidWidth = some (excClassObj "InvalidWidth" q_InvalidWidth E_InvalidWidth M_InvalidWidth bs_InvalidWidth (.ref U_InputError :: [.type "ValueError", .type "Exception", .type "BaseException", .type "object"]) true sn_InvalidWidth sub_InvalidWidth ab_InvalidWidth col_InvalidWidth dd_InvalidWidth m0_InvalidWidth m1_InvalidWidth m2_InvalidWidth m3_InvalidWidth m5_InvalidWidth "ValueError.__new__"))
    (et_InvalidWidth : PySem.W.typeIn K (.ref E_InvalidWidth) = some (.type "type"))
    (eset_InvalidWidth : PySem.W.findIn K (.ref E_InvalidWidth) "__setattr__" = some (some (.builtin "object.__setattr__")))
    (eget_InvalidWidth : PySem.W.findIn K (.ref E_InvalidWidth) "__getattribute__" = some (some (.builtin "BaseException.__getattribute__")))
    (ecla_InvalidWidth : PySem.W.findIn K (.ref E_InvalidWidth) "__class__" = some (some (.builtin "object.__class__")))
    (egg_InvalidWidth : PySem.W.findIn K (.ref E_InvalidWidth) "__getattr__" = some none)
    (ek_InvalidWidth : PySem.W.keepIn K (.ref E_InvalidWidth) = true)
    (en_InvalidWidth : PySem.W.findIn K (.ref E_InvalidWidth) "value" = some none)
    (a_xInvalidWidth : PySem.W.findIn K (.ref E_InvalidWidth) "__init__" = some (some (.ref f_xInvalidWidth)))
    (l_xInvalidWidth : K.lookup f_xInvalidWidth = some ⟨oc_xInvalidWidth, od_xInvalidWidth, .func (PySem.W.fnOf "__init__" "InvalidWidth.__init__" (defArgs s_InvalidWidth_init) (defBody s_InvalidWidth_init) (defScope s_InvalidWidth_init) .none kV_xInvalidWidth dc_xInvalidWidth pm_xInvalidWidth an_xInvalidWidth cd_xInvalidWidth ct_xInvalidWidth), sl_xInvalidWidth⟩)
    (c_xInvalidWidth : PySem.W.codeIn K cd_xInvalidWidth "InvalidWidth.__init__" = true)
    (k_xInvalidWidth : PySem.W.keepIn K (.ref f_xInvalidWidth) = true)
    (ei_InvalidWidth : PySem.W.typeIn K (.ref f_xInvalidWidth) = some (.type "function"))
    (ea_InvalidRow : PySem.W.nsIn K mainGlobals "InvalidRow" = some (some (.ref E_InvalidRow)))
    (ex_InvalidRow : K.lookup E_InvalidRow = some (excClassObj "InvalidRow" q_InvalidRow E_InvalidRow M_InvalidRow bs_InvalidRow (.ref U_InputError :: [.type "ValueError", .type "Exception", .type "BaseException", .type "object"]) true sn_InvalidRow sub_InvalidRow ab_InvalidRow col_InvalidRow dd_InvalidRow m0_InvalidRow m1_InvalidRow m2_InvalidRow m3_InvalidRow m5_InvalidRow "ValueError.__new__"))
    (et_InvalidRow : PySem.W.typeIn K (.ref E_InvalidRow) = some (.type "type"))
    (eset_InvalidRow : PySem.W.findIn K (.ref E_InvalidRow) "__setattr__" = some (some (.builtin "object.__setattr__")))
    (eget_InvalidRow : PySem.W.findIn K (.ref E_InvalidRow) "__getattribute__" = some (some (.builtin "BaseException.__getattribute__")))
    (ecla_InvalidRow : PySem.W.findIn K (.ref E_InvalidRow) "__class__" = some (some (.builtin "object.__class__")))
    (egg_InvalidRow : PySem.W.findIn K (.ref E_InvalidRow) "__getattr__" = some none)
    (ek_InvalidRow : PySem.W.keepIn K (.ref E_InvalidRow) = true)
    (en_InvalidRow : PySem.W.findIn K (.ref E_InvalidRow) "index" = some none)
    (a_xInvalidRow : PySem.W.findIn K (.ref E_InvalidRow) "__init__" = some (some (.ref f_xInvalidRow)))
    (l_xInvalidRow : K.lookup f_xInvalidRow = some ⟨oc_xInvalidRow, od_xInvalidRow, .func (PySem.W.fnOf "__init__" "InvalidRow.__init__" (defArgs s_InvalidRow_init) (defBody s_InvalidRow_init) (defScope s_InvalidRow_init) .none kV_xInvalidRow dc_xInvalidRow pm_xInvalidRow an_xInvalidRow cd_xInvalidRow ct_xInvalidRow), sl_xInvalidRow⟩)
    (c_xInvalidRow : PySem.W.codeIn K cd_xInvalidRow "InvalidRow.__init__" = true)
    (k_xInvalidRow : PySem.W.keepIn K (.ref f_xInvalidRow) = true)
    (ei_InvalidRow : PySem.W.typeIn K (.ref f_xInvalidRow) = some (.type "function"))
    (ea_InvalidTexts : PySem.W.nsIn K mainGlobals "InvalidTexts" = some (some (.ref E_InvalidTexts)))
    (ex_InvalidTexts : K.lookup E_InvalidTexts = some (excClassObj "InvalidTexts" q_InvalidTexts E_InvalidTexts M_InvalidTexts bs_InvalidTexts (.ref U_InputError :: [.type "ValueError", .type "Exception", .type "BaseException", .type "object"]) true sn_InvalidTexts sub_InvalidTexts ab_InvalidTexts col_InvalidTexts dd_InvalidTexts m0_InvalidTexts m1_InvalidTexts m2_InvalidTexts m3_InvalidTexts m5_InvalidTexts "ValueError.__new__"))
    (et_InvalidTexts : PySem.W.typeIn K (.ref E_InvalidTexts) = some (.type "type"))
    (eset_InvalidTexts : PySem.W.findIn K (.ref E_InvalidTexts) "__setattr__" = some (some (.builtin "object.__setattr__")))
    (eget_InvalidTexts : PySem.W.findIn K (.ref E_InvalidTexts) "__getattribute__" = some (some (.builtin "BaseException.__getattribute__")))
    (ecla_InvalidTexts : PySem.W.findIn K (.ref E_InvalidTexts) "__class__" = some (some (.builtin "object.__class__")))
    (egg_InvalidTexts : PySem.W.findIn K (.ref E_InvalidTexts) "__getattr__" = some none)
    (ek_InvalidTexts : PySem.W.keepIn K (.ref E_InvalidTexts) = true)
    (en_InvalidTexts : PySem.W.findIn K (.ref E_InvalidTexts) "index" = some none)
    (a_xInvalidTexts : PySem.W.findIn K (.ref E_InvalidTexts) "__init__" = some (some (.ref f_xInvalidTexts)))
    (l_xInvalidTexts : K.lookup f_xInvalidTexts = some ⟨oc_xInvalidTexts, od_xInvalidTexts, .func (PySem.W.fnOf "__init__" "InvalidTexts.__init__" (defArgs s_InvalidTexts_init) (defBody s_InvalidTexts_init) (defScope s_InvalidTexts_init) .none kV_xInvalidTexts dc_xInvalidTexts pm_xInvalidTexts an_xInvalidTexts cd_xInvalidTexts ct_xInvalidTexts), sl_xInvalidTexts⟩)
    (c_xInvalidTexts : PySem.W.codeIn K cd_xInvalidTexts "InvalidTexts.__init__" = true)
    (k_xInvalidTexts : PySem.W.keepIn K (.ref f_xInvalidTexts) = true)
    (ei_InvalidTexts : PySem.W.typeIn K (.ref f_xInvalidTexts) = some (.type "function"))
    (tab_law_right : PySem.W.tabIn K "_law_right" = some (cc_law_right, PP_law_right))
    (cde_law_right : cd_law_right = .ref cc_law_right)
    (notab_law_right : K.lookup PP_law_right = none)
    (rec_law_right : (recsOf q).find? (fun e => e.name == ("_law_right" : Str)) = some rd_law_right)
    (z_ValueError : PySem.W.nsIn K mainGlobals "ValueError" = some none)
    (z_abs : PySem.W.nsIn K mainGlobals "abs" = some none)
    (z_all : PySem.W.nsIn K mainGlobals "all" = some none)
    (z_bool : PySem.W.nsIn K mainGlobals "bool" = some none)
    (z_divmod : PySem.W.nsIn K mainGlobals "divmod" = some none)
    (z_enumerate : PySem.W.nsIn K mainGlobals "enumerate" = some none)
    (z_int : PySem.W.nsIn K mainGlobals "int" = some none)
    (z_isinstance : PySem.W.nsIn K mainGlobals "isinstance" = some none)
    (z_len : PySem.W.nsIn K mainGlobals "len" = some none)
    (z_list : PySem.W.nsIn K mainGlobals "list" = some none)
    (z_max : PySem.W.nsIn K mainGlobals "max" = some none)
    (z_min : PySem.W.nsIn K mainGlobals "min" = some none)
    (z_range : PySem.W.nsIn K mainGlobals "range" = some none)
    (z_repr : PySem.W.nsIn K mainGlobals "repr" = some none)
    (z_set : PySem.W.nsIn K mainGlobals "set" = some none)
    (z_str : PySem.W.nsIn K mainGlobals "str" = some none)
    (z_tuple : PySem.W.nsIn K mainGlobals "tuple" = some none)
    (z_MOST_SIGNS : PySem.W.nsIn K mainGlobals "MOST_SIGNS" = some (some (.int 40 u_MOST_SIGNS)))
    (z_MOST_MARK : PySem.W.nsIn K mainGlobals "MOST_MARK" = some (some (.int 3 u_MOST_MARK)))
    (z_MOST_ROW : PySem.W.nsIn K mainGlobals "MOST_ROW" = some (some (.int 4 u_MOST_ROW)))
    (z_MOST_TEXT : PySem.W.nsIn K mainGlobals "MOST_TEXT" = some (some (.int 200 u_MOST_TEXT)))
    (z_SIGNS : PySem.W.nsIn K mainGlobals "SIGNS" = some (some (.str ".0123456789abcdefghijklmnopqrstuvwxyz~" u_SIGNS)))
    (z_KINDS : PySem.W.nsIn K mainGlobals "KINDS" = some (some (.ref T_KINDS)))
    (zl_KINDS : K.lookup T_KINDS = some ⟨.type "tuple", td_KINDS, .seq #[.str "end" e_KINDS_0, .str "start" e_KINDS_1, .str "middle" e_KINDS_2] tn_KINDS, ts_KINDS⟩)
    (z_MOST_TEXTS : PySem.W.nsIn K mainGlobals "MOST_TEXTS" = some (some (.int 20 u_MOST_TEXTS))) :
    ∃ (fd : FuncData) (cs : List (Addr × Addr)) (sp : Sp), (∀ p ∈ cs, PySem.W.CodeHd h p.1 p.2 ∧ h.get? p.2 = some tabNil ∧ K.lookup p.2 = none) ∧ (∀ (s : Shared) (u : Value), BindsTo s fd ⟨[u], []⟩ [("_law_script", u)]) ∧ (∀ (H : Hp) (a : Addr) (ns : List Int), ns.length ≤ 63 → (∀ p ∈ cs, H p.2 = some (.tbl #[])) → Sys H → SqL K H a (ns.map V.int) → sp [.ref a] H (fun v _ => v = .bl true) fun _ _ _ => False) ∧ ∀ base : Heap, K.In base → base.Ns mainGlobals mg → (∀ p ∈ cs, LamX.TabB base mg p.1 p.2) → FnG l.prog w K mg base 11 fa fd ["_law_script"] sp := by
  have e := hfa.symm.trans (PySem.W.mg_of X G a_law)
  cases e
  have B : Bi mg := ⟨PySem.W.mg_none_of X G z_ValueError, PySem.W.mg_none_of X G z_abs, PySem.W.mg_none_of X G z_all, PySem.W.mg_none_of X G z_bool, PySem.W.mg_none_of X G z_divmod, PySem.W.mg_none_of X G z_enumerate, PySem.W.mg_none_of X G z_int, PySem.W.mg_none_of X G z_isinstance, PySem.W.mg_none_of X G z_len, PySem.W.mg_none_of X G z_list, PySem.W.mg_none_of X G z_max, PySem.W.mg_none_of X G z_min, PySem.W.mg_none_of X G z_range, PySem.W.mg_none_of X G z_repr, PySem.W.mg_none_of X G z_set, PySem.W.mg_none_of X G z_str, PySem.W.mg_none_of X G z_tuple, cst_mk X G ⟨_, rfl⟩ z_MOST_SIGNS, cst_mk X G ⟨_, rfl⟩ z_MOST_MARK, cst_mk X G ⟨_, rfl⟩ z_MOST_ROW, cst_mk X G ⟨_, rfl⟩ z_MOST_TEXT, cst_mk X G ⟨_, rfl⟩ z_SIGNS, cst_mk X G ⟨_, rfl⟩ z_MOST_TEXTS⟩
  have T_KINDS : TupC K mg "KINDS" ["end", "start", "middle"] := ⟨⟨T_KINDS, PySem.W.mg_of X G z_KINDS, fun H => .inr ⟨_, _, _, zl_KINDS, rfl, rfl, by show 3 ≤ sizeLine; decide, (.cons ⟨_, rfl⟩ (.cons ⟨_, rfl⟩ (.cons ⟨_, rfl⟩ .nil)))⟩⟩⟩
  have Ss : ShC K mg C := ⟨⟨pgs, hds, pos, sas⟩, ns_limit, ns_head, ns_tail, ns_mark, ns_told, PySem.W.mg_of X G asC, qas, qn, qt, qms, if_pos (beq_self_eq_true _)⟩
  have Xs : ShX K C := ⟨xts, xns, xss, cls_of_mro qms⟩
  have Is : InitAt K C := ⟨f_is, _, ⟨mksC, a_is, i_is, ksC⟩, fun_mk l_is c_is k_is, (fun_mk l_is c_is k_is).binds fun _ _ _ _ _ _ us hl => match us, hl with | [_, _, _, _, _], _ => rfl⟩
  have UK_InputError : UpK K mg bVE "InputError" U_InputError := ⟨PySem.W.mg_of X G ea_InputError, ⟨_, _, _, _, _, _, _, _, _, _, _, _, _, ex_InputError⟩, et_InputError⟩
  have EK_InvalidMark : ErrK K mg bVE U_InputError "InvalidMark" E_InvalidMark := ⟨bVE_ok, PySem.W.mg_of X G ea_InvalidMark, ⟨_, _, _, _, _, _, _, _, _, _, _, _, _, ex_InvalidMark⟩, eset_InvalidMark, eget_InvalidMark, egg_InvalidMark, ek_InvalidMark, et_InvalidMark, ecla_InvalidMark, qn, qt⟩
  have EF_InvalidMark : ErrF K "InvalidMark" "value" E_InvalidMark := ⟨.inl rfl, en_InvalidMark, f_xInvalidMark, s_InvalidMark_init, ⟨_, _, _, _, _, _⟩, _, a_xInvalidMark, ei_InvalidMark, by rw [show (("InvalidMark" : Str) ++ ".__init__" : Str) = "InvalidMark.__init__" by decide +kernel]; exact fun_mk l_xInvalidMark c_xInvalidMark k_xInvalidMark, rfl, rfl, rfl⟩
  have EK_InvalidRule : ErrK K mg bVE U_InputError "InvalidRule" E_InvalidRule := ⟨bVE_ok, PySem.W.mg_of X G ea_InvalidRule, ⟨_, _, _, _, _, _, _, _, _, _, _, _, _, ex_InvalidRule⟩, eset_InvalidRule, eget_InvalidRule, egg_InvalidRule, ek_InvalidRule, et_InvalidRule, ecla_InvalidRule, qn, qt⟩
  have EF_InvalidRule : ErrF K "InvalidRule" "value" E_InvalidRule := ⟨.inl rfl, en_InvalidRule, f_xInvalidRule, s_InvalidRule_init, ⟨_, _, _, _, _, _⟩, _, a_xInvalidRule, ei_InvalidRule, by rw [show (("InvalidRule" : Str) ++ ".__init__" : Str) = "InvalidRule.__init__" by decide +kernel]; exact fun_mk l_xInvalidRule c_xInvalidRule k_xInvalidRule, rfl, rfl, rfl⟩
  have EK_InvalidWidth : ErrK K mg bVE U_InputError "InvalidWidth" E_InvalidWidth := ⟨bVE_ok, PySem.W.mg_of X G ea_InvalidWidth, ⟨_, _, _, _, _, _, _, _, _, _, _, _, _, ex_InvalidWidth⟩, eset_InvalidWidth, eget_InvalidWidth, egg_InvalidWidth, ek_InvalidWidth, et_InvalidWidth, ecla_InvalidWidth, qn, qt⟩
  have EF_InvalidWidth : ErrF K "InvalidWidth" "value" E_InvalidWidth := ⟨.inl rfl, en_InvalidWidth, f_xInvalidWidth, s_InvalidWidth_init, ⟨_, _, _, _, _, _⟩, _, a_xInvalidWidth, ei_InvalidWidth, by rw [show (("InvalidWidth" : Str) ++ ".__init__" : Str) = "InvalidWidth.__init__" by decide +kernel]; exact fun_mk l_xInvalidWidth c_xInvalidWidth k_xInvalidWidth, rfl, rfl, rfl⟩
  have EK_InvalidRow : ErrK K mg bVE U_InputError "InvalidRow" E_InvalidRow := ⟨bVE_ok, PySem.W.mg_of X G ea_InvalidRow, ⟨_, _, _, _, _, _, _, _, _, _, _, _, _, ex_InvalidRow⟩, eset_InvalidRow, eget_InvalidRow, egg_InvalidRow, ek_InvalidRow, et_InvalidRow, ecla_InvalidRow, qn, qt⟩
  have EF_InvalidRow : ErrF K "InvalidRow" "index" E_InvalidRow := ⟨.inr (.inl rfl), en_InvalidRow, f_xInvalidRow, s_InvalidRow_init, ⟨_, _, _, _, _, _⟩, _, a_xInvalidRow, ei_InvalidRow, by rw [show (("InvalidRow" : Str) ++ ".__init__" : Str) = "InvalidRow.__init__" by decide +kernel]; exact fun_mk l_xInvalidRow c_xInvalidRow k_xInvalidRow, rfl, rfl, rfl⟩
  have EK_InvalidTexts : ErrK K mg bVE U_InputError "InvalidTexts" E_InvalidTexts := ⟨bVE_ok, PySem.W.mg_of X G ea_InvalidTexts, ⟨_, _, _, _, _, _, _, _, _, _, _, _, _, ex_InvalidTexts⟩, eset_InvalidTexts, eget_InvalidTexts, egg_InvalidTexts, ek_InvalidTexts, et_InvalidTexts, ecla_InvalidTexts, qn, qt⟩
  have EF_InvalidTexts : ErrF K "InvalidTexts" "index" E_InvalidTexts := ⟨.inr (.inl rfl), en_InvalidTexts, f_xInvalidTexts, s_InvalidTexts_init, ⟨_, _, _, _, _, _⟩, _, a_xInvalidTexts, ei_InvalidTexts, by rw [show (("InvalidTexts" : Str) ++ ".__init__" : Str) = "InvalidTexts.__init__" by decide +kernel]; exact fun_mk l_xInvalidTexts c_xInvalidTexts k_xInvalidTexts, rfl, rfl, rfl⟩
  have AC_law_right : AtC K mg "_law_right" s_law_right ps_law_right cc_law_right := ⟨f_law_right, _, fun_mk l_law_right c_law_right k_law_right, (fun_mk l_law_right c_law_right k_law_right).binds (fun _ _ _ _ _ _ us hl => match us, hl with | [_], _ => rfl), PySem.W.mg_of X G a_law_right, cde_law_right⟩
  have TO_law_right := TO "_law_right" rd_law_right cc_law_right PP_law_right rec_law_right tab_law_right
  have A_is_integer : At K mg "is_integer" s_is_integer ps_is_integer := at_mk X G (fun _ _ _ _ _ _ us hl => match us, hl with | [_, _, _], _ => rfl) a_is_integer l_is_integer c_is_integer k_is_integer
  have A_is_tuple : At K mg "is_tuple" s_is_tuple ps_is_tuple := at_mk X G (fun _ _ _ _ _ _ us hl => match us, hl with | [_, _, _], _ => rfl) a_is_tuple l_is_tuple c_is_tuple k_is_tuple
  have A_is_text : At K mg "is_text" s_is_text ps_is_text := at_mk X G (fun _ _ _ _ _ _ us hl => match us, hl with | [_, _], _ => rfl) a_is_text l_is_text c_is_text k_is_text
  have A_check_mark : At K mg "check_mark" s_check_mark ps_check_mark := at_mk X G (fun _ _ _ _ _ _ us hl => match us, hl with | [_], _ => rfl) a_check_mark l_check_mark c_check_mark k_check_mark
  have A_check_texts : At K mg "check_texts" s_check_texts ps_check_texts := at_mk X G (fun _ _ _ _ _ _ us hl => match us, hl with | [_, _], _ => rfl) a_check_texts l_check_texts c_check_texts k_check_texts
  have A_check_row : At K mg "check_row" s_check_row ps_check_row := at_mk X G (fun _ _ _ _ _ _ us hl => match us, hl with | [_], _ => rfl) a_check_row l_check_row c_check_row k_check_row
  have A_shortened : At K mg "shortened" s_shortened ps_shortened := at_mk X G (fun _ _ _ _ _ _ us hl => match us, hl with | [_, _, _], _ => rfl) a_shortened l_shortened c_shortened k_shortened
  have A_shown_by : At K mg "shown_by" s_shown_by ps_shown_by := at_mk X G (fun _ _ _ _ _ _ us hl => match us, hl with | [_, _], _ => rfl) a_shown_by l_shown_by c_shown_by k_shown_by
  have A_check_kind : At K mg "check_kind" s_check_kind ps_check_kind := at_mk X G (fun _ _ _ _ _ _ us hl => match us, hl with | [_], _ => rfl) a_check_kind l_check_kind c_check_kind k_check_kind
  have A_is_seen : At K mg "is_seen" s_is_seen ps_is_seen := at_mk X G (fun _ _ _ _ _ _ us hl => match us, hl with | [_], _ => rfl) a_is_seen l_is_seen c_is_seen k_is_seen
  have A_check_seen : At K mg "check_seen" s_check_seen ps_check_seen := at_mk X G (fun _ _ _ _ _ _ us hl => match us, hl with | [_], _ => rfl) a_check_seen l_check_seen c_check_seen k_check_seen
  have A_widths_of : At K mg "widths_of" s_widths_of ps_widths_of := at_mk X G (fun _ _ _ _ _ _ us hl => match us, hl with | [_], _ => rfl) a_widths_of l_widths_of c_widths_of k_widths_of
  have A_member_of : At K mg "member_of" s_member_of ps_member_of := at_mk X G (fun _ _ _ _ _ _ us hl => match us, hl with | [_, _, _], _ => rfl) a_member_of l_member_of c_member_of k_member_of
  have A_separates : At K mg "separates" s_separates ps_separates := at_mk X G (fun _ _ _ _ _ _ us hl => match us, hl with | [_, _], _ => rfl) a_separates l_separates c_separates k_separates
  have A_has_shown : At K mg "has_shown" s_has_shown ps_has_shown := at_mk X G (fun _ _ _ _ _ _ us hl => match us, hl with | [_, _], _ => rfl) a_has_shown l_has_shown c_has_shown k_has_shown
  have A_member : At K mg "member" s_member ps_member := at_mk X G (fun _ _ _ _ _ _ us hl => match us, hl with | [_, _, _], _ => rfl) a_member l_member c_member k_member
  have A_groups : At K mg "groups" s_groups ps_groups := at_mk X G (fun _ _ _ _ _ _ us hl => match us, hl with | [_, _], _ => rfl) a_groups l_groups c_groups k_groups
  have A_tells_apart : At K mg "tells_apart" s_tells_apart ps_tells_apart := at_mk X G (fun _ _ _ _ _ _ us hl => match us, hl with | [_, _], _ => rfl) a_tells_apart l_tells_apart c_tells_apart k_tells_apart
  have A_widths : At K mg "widths" s_widths ps_widths := at_mk X G (fun _ _ _ _ _ _ us hl => match us, hl with | [_, _, _], _ => rfl) a_widths l_widths c_widths k_widths
  have A_narrowest : At K mg "narrowest" s_narrowest ps_narrowest := at_mk X G (fun _ _ _ _ _ _ us hl => match us, hl with | [_, _, _], _ => rfl) a_narrowest l_narrowest c_narrowest k_narrowest
  have A_fitting : At K mg "fitting" s_fitting ps_fitting := at_mk X G (fun _ _ _ _ _ _ us hl => match us, hl with | [_, _], _ => rfl) a_fitting l_fitting c_fitting k_fitting
  have A_law_pot : At K mg "_law_pot" s_law_pot ps_law_pot := at_mk X G (fun _ _ _ _ _ _ us hl => match us, hl with | [_, _], _ => rfl) a_law_pot l_law_pot c_law_pot k_law_pot
  have A_law_ladle : At K mg "_law_ladle" s_law_ladle ps_law_ladle := at_mk X G (fun _ _ _ _ _ _ us hl => match us, hl with | [_, _], _ => rfl) a_law_ladle l_law_ladle c_law_ladle k_law_ladle
  have A_law_one_of : At K mg "_law_one_of" s_law_one_of ps_law_one_of := at_mk X G (fun _ _ _ _ _ _ us hl => match us, hl with | [_, _], _ => rfl) a_law_one_of l_law_one_of c_law_one_of k_law_one_of
  have A_law_ended : At K mg "_law_ended" s_law_ended ps_law_ended := at_mk X G (fun _ _ _ _ _ _ us hl => match us, hl with | [_], _ => rfl) a_law_ended l_law_ended c_law_ended k_law_ended
  have A_law_bad_list : At K mg "_law_bad_list" s_law_bad_list ps_law_bad_list := at_mk X G (fun _ _ _ _ _ _ us hl => match us, hl with | [_], _ => rfl) a_law_bad_list l_law_bad_list c_law_bad_list k_law_bad_list
  have A_law_bad_pairs : At K mg "_law_bad_pairs" s_law_bad_pairs ps_law_bad_pairs := at_mk X G (fun _ _ _ _ _ _ us hl => match us, hl with | [_], _ => rfl) a_law_bad_pairs l_law_bad_pairs c_law_bad_pairs k_law_bad_pairs
  refine ⟨PySem.W.fnOf "law" "law" (defArgs s_law) (defBody s_law) (defScope s_law) .none kV_law dc_law pm_law an_law cd_law ct_law, [(cc_law_right, PP_law_right)], spLawT [(PP_law_right, lamQ_law_right)] K, fun p hp => by
      simp only [List.mem_cons, List.not_mem_nil, or_false] at hp
      subst hp
      exact ⟨TO_law_right.1, TO_law_right.2, notab_law_right⟩
, fun s v => .of_eq rfl, fun H a ns hl hT hY hS => ⟨a, ns, rfl, hS, hl, fun p hp => ?_, hY, fun _ => rfl⟩, fun base _ _ tb => ?_⟩
  · simp only [List.mem_cons, List.not_mem_nil, or_false] at hp
    subst hp
    exact LamX.TabS.nil (hT (cc_law_right, PP_law_right) (by simp))
  · exact fin B UK_InputError EK_InvalidMark EF_InvalidMark EK_InvalidRule EF_InvalidRule EK_InvalidWidth EF_InvalidWidth EK_InvalidRow EF_InvalidRow EK_InvalidTexts EF_InvalidTexts AC_law_right (tb (cc_law_right, PP_law_right) (by simp)) T_KINDS Ss Is Xs A_is_integer A_is_tuple A_is_text A_check_mark A_check_texts A_check_row A_shortened A_shown_by A_check_kind A_is_seen A_check_seen A_widths_of A_member_of A_separates A_has_shown A_member A_groups A_tells_apart A_widths A_narrowest A_fitting A_law_pot A_law_ladle A_law_one_of A_law_ended A_law_bad_list A_law_bad_pairs (fun_mk l_law c_law k_law)
end Gu
open PySem PySem.W PyProof.Rows
set_option maxHeartbeats 0 in
theorem PySem.Challenge.cw_shownshort_k30_lists_refused_holds : PySem.Challenge.rw_shownshort_k30_lists_refused.Holds := by
  w_on; o_law; k_head; (case hw => w_witness2)
  k_fill
  refine Gu.walkGT (l := PySem.Challenge.rw_shownshort_k30_lists_refused) (n := 63) (k := 11) (x := "_law_script") rfl (by decide) rfl ⟨rfl, by decide, by decide⟩ ?alone ?noSys (fun w h Y => PySem.W.km_in_of Y) ?F
  case alone => first | rfl | decide +kernel
  case noSys => first | (intro w; rfl) | (intro w; k_is)
  case F =>
    intro w mg fa h KX G TO hmg
    refine' Gu.all_mk KX G TO hmg ?a_is_integer ?l_is_integer ?c_is_integer ?k_is_integer ?a_is_tuple ?l_is_tuple ?c_is_tuple ?k_is_tuple ?a_is_text ?l_is_text ?c_is_text ?k_is_text ?a_check_mark ?l_check_mark ?c_check_mark ?k_check_mark ?a_check_texts ?l_check_texts ?c_check_texts ?k_check_texts ?a_check_row ?l_check_row ?c_check_row ?k_check_row ?a_shortened ?l_shortened ?c_shortened ?k_shortened ?a_shown_by ?l_shown_by ?c_shown_by ?k_shown_by ?a_check_kind ?l_check_kind ?c_check_kind ?k_check_kind ?a_is_seen ?l_is_seen ?c_is_seen ?k_is_seen ?a_check_seen ?l_check_seen ?c_check_seen ?k_check_seen ?a_widths_of ?l_widths_of ?c_widths_of ?k_widths_of ?a_member_of ?l_member_of ?c_member_of ?k_member_of ?a_separates ?l_separates ?c_separates ?k_separates ?a_has_shown ?l_has_shown ?c_has_shown ?k_has_shown ?a_member ?l_member ?c_member ?k_member ?a_groups ?l_groups ?c_groups ?k_groups ?a_tells_apart ?l_tells_apart ?c_tells_apart ?k_tells_apart ?a_widths ?l_widths ?c_widths ?k_widths ?a_narrowest ?l_narrowest ?c_narrowest ?k_narrowest ?a_fitting ?l_fitting ?c_fitting ?k_fitting ?a_law_pot ?l_law_pot ?c_law_pot ?k_law_pot ?a_law_ladle ?l_law_ladle ?c_law_ladle ?k_law_ladle ?a_law_one_of ?l_law_one_of ?c_law_one_of ?k_law_one_of ?a_law_ended ?l_law_ended ?c_law_ended ?k_law_ended ?a_law_bad_list ?l_law_bad_list ?c_law_bad_list ?k_law_bad_list ?a_law_bad_pairs ?l_law_bad_pairs ?c_law_bad_pairs ?k_law_bad_pairs ?a_law_right ?l_law_right ?c_law_right ?k_law_right ?a_law ?l_law ?c_law ?k_law ?qn ?qt ?asC ?a_is ?l_is ?c_is ?k_is ?i_is ?pgs ?hds ?pos ?sas ?mksC ?ksC ?ns_limit ?ns_head ?ns_tail ?ns_mark ?ns_told ?qas ?qms ?xts ?xns ?xss ?ea_InputError ?ex_InputError ?et_InputError ?ea_InvalidMark ?ex_InvalidMark ?et_InvalidMark ?eset_InvalidMark ?eget_InvalidMark ?ecla_InvalidMark ?egg_InvalidMark ?ek_InvalidMark ?en_InvalidMark ?a_xInvalidMark ?l_xInvalidMark ?c_xInvalidMark ?k_xInvalidMark ?ei_InvalidMark ?ea_InvalidRule ?ex_InvalidRule ?et_InvalidRule ?eset_InvalidRule ?eget_InvalidRule ?ecla_InvalidRule ?egg_InvalidRule ?ek_InvalidRule ?en_InvalidRule ?a_xInvalidRule ?l_xInvalidRule ?c_xInvalidRule ?k_xInvalidRule ?ei_InvalidRule ?ea_InvalidWidth ?ex_InvalidWidth ?et_InvalidWidth ?eset_InvalidWidth ?eget_InvalidWidth ?ecla_InvalidWidth ?egg_InvalidWidth ?ek_InvalidWidth ?en_InvalidWidth ?a_xInvalidWidth ?l_xInvalidWidth ?c_xInvalidWidth ?k_xInvalidWidth ?ei_InvalidWidth ?ea_InvalidRow ?ex_InvalidRow ?et_InvalidRow ?eset_InvalidRow ?eget_InvalidRow ?ecla_InvalidRow ?egg_InvalidRow ?ek_InvalidRow ?en_InvalidRow ?a_xInvalidRow ?l_xInvalidRow ?c_xInvalidRow ?k_xInvalidRow ?ei_InvalidRow ?ea_InvalidTexts ?ex_InvalidTexts ?et_InvalidTexts ?eset_InvalidTexts ?eget_InvalidTexts ?ecla_InvalidTexts ?egg_InvalidTexts ?ek_InvalidTexts ?en_InvalidTexts ?a_xInvalidTexts ?l_xInvalidTexts ?c_xInvalidTexts ?k_xInvalidTexts ?ei_InvalidTexts ?tab_law_right ?cde_law_right ?notab_law_right ?rec_law_right ?z_ValueError ?z_abs ?z_all ?z_bool ?z_divmod ?z_enumerate ?z_int ?z_isinstance ?z_len ?z_list ?z_max ?z_min ?z_range ?z_repr ?z_set ?z_str ?z_tuple ?z_MOST_SIGNS ?z_MOST_MARK ?z_MOST_ROW ?z_MOST_TEXT ?z_SIGNS ?z_KINDS ?zl_KINDS ?z_MOST_TEXTS
    (case a_is_integer => k_is)
    (case l_is_integer => k_is)
    (case c_is_integer => k_is)
    (case k_is_integer => k_is)
    (case a_is_tuple => k_is)
    (case l_is_tuple => k_is)
    (case c_is_tuple => k_is)
    (case k_is_tuple => k_is)
    (case a_is_text => k_is)
    (case l_is_text => k_is)
    (case c_is_text => k_is)
    (case k_is_text => k_is)
    (case a_check_mark => k_is)
    (case l_check_mark => k_is)
    (case c_check_mark => k_is)
    (case k_check_mark => k_is)
    (case a_check_texts => k_is)
    (case l_check_texts => k_is)
    (case c_check_texts => k_is)
    (case k_check_texts => k_is)
    (case a_check_row => k_is)
    (case l_check_row => k_is)
    (case c_check_row => k_is)
    (case k_check_row => k_is)
    (case a_shortened => k_is)
    (case l_shortened => k_is)
    (case c_shortened => k_is)
    (case k_shortened => k_is)
    (case a_shown_by => k_is)
    (case l_shown_by => k_is)
    (case c_shown_by => k_is)
    (case k_shown_by => k_is)
    (case a_check_kind => k_is)
    (case l_check_kind => k_is)
    (case c_check_kind => k_is)
    (case k_check_kind => k_is)
    (case a_is_seen => k_is)
    (case l_is_seen => k_is)
    (case c_is_seen => k_is)
    (case k_is_seen => k_is)
    (case a_check_seen => k_is)
    (case l_check_seen => k_is)
    (case c_check_seen => k_is)
    (case k_check_seen => k_is)
    (case a_widths_of => k_is)
    (case l_widths_of => k_is)
    (case c_widths_of => k_is)
    (case k_widths_of => k_is)
    (case a_member_of => k_is)
    (case l_member_of => k_is)
    (case c_member_of => k_is)
    (case k_member_of => k_is)
    (case a_separates => k_is)
    (case l_separates => k_is)
    (case c_separates => k_is)
    (case k_separates => k_is)
    (case a_has_shown => k_is)
    (case l_has_shown => k_is)
    (case c_has_shown => k_is)
    (case k_has_shown => k_is)
    (case a_member => k_is)
    (case l_member => k_is)
    (case c_member => k_is)
    (case k_member => k_is)
    (case a_groups => k_is)
    (case l_groups => k_is)
    (case c_groups => k_is)
    (case k_groups => k_is)
    (case a_tells_apart => k_is)
    (case l_tells_apart => k_is)
    (case c_tells_apart => k_is)
    (case k_tells_apart => k_is)
    (case a_widths => k_is)
    (case l_widths => k_is)
    (case c_widths => k_is)
    (case k_widths => k_is)
    (case a_narrowest => k_is)
    (case l_narrowest => k_is)
    (case c_narrowest => k_is)
    (case k_narrowest => k_is)
    (case a_fitting => k_is)
    (case l_fitting => k_is)
    (case c_fitting => k_is)
    (case k_fitting => k_is)
    (case a_law_pot => k_is)
    (case l_law_pot => k_is)
    (case c_law_pot => k_is)
    (case k_law_pot => k_is)
    (case a_law_ladle => k_is)
    (case l_law_ladle => k_is)
    (case c_law_ladle => k_is)
    (case k_law_ladle => k_is)
    (case a_law_one_of => k_is)
    (case l_law_one_of => k_is)
    (case c_law_one_of => k_is)
    (case k_law_one_of => k_is)
    (case a_law_ended => k_is)
    (case l_law_ended => k_is)
    (case c_law_ended => k_is)
    (case k_law_ended => k_is)
    (case a_law_bad_list => k_is)
    (case l_law_bad_list => k_is)
    (case c_law_bad_list => k_is)
    (case k_law_bad_list => k_is)
    (case a_law_bad_pairs => k_is)
    (case l_law_bad_pairs => k_is)
    (case c_law_bad_pairs => k_is)
    (case k_law_bad_pairs => k_is)
    (case a_law_right => k_is)
    (case l_law_right => k_is)
    (case c_law_right => k_is)
    (case k_law_right => k_is)
    (case a_law => k_is)
    (case l_law => k_is)
    (case c_law => k_is)
    (case k_law => k_is)
    (case qn => k_is)
    (case qt => k_is)
    (case asC => k_is)
    (case a_is => k_is)
    (case l_is => k_is)
    (case c_is => k_is)
    (case k_is => k_is)
    (case i_is => k_is)
    (case pgs => k_is)
    (case hds => k_is)
    (case pos => k_is)
    (case sas => k_is)
    (case mksC => k_is)
    (case ksC => k_is)
    (case ns_limit => k_is)
    (case ns_head => k_is)
    (case ns_tail => k_is)
    (case ns_mark => k_is)
    (case ns_told => k_is)
    (case qas => k_is)
    (case qms => k_is)
    (case xts => k_is)
    (case xns => k_is)
    (case xss => k_is)
    (case ea_InputError => k_is)
    (case ex_InputError => k_is)
    (case et_InputError => k_is)
    (case ea_InvalidMark => k_is)
    (case ex_InvalidMark => k_is)
    (case et_InvalidMark => k_is)
    (case eset_InvalidMark => k_is)
    (case eget_InvalidMark => k_is)
    (case ecla_InvalidMark => k_is)
    (case egg_InvalidMark => k_is)
    (case ek_InvalidMark => k_is)
    (case en_InvalidMark => k_is)
    (case a_xInvalidMark => k_is)
    (case l_xInvalidMark => k_is)
    (case c_xInvalidMark => k_is)
    (case k_xInvalidMark => k_is)
    (case ei_InvalidMark => k_is)
    (case ea_InvalidRule => k_is)
    (case ex_InvalidRule => k_is)
    (case et_InvalidRule => k_is)
    (case eset_InvalidRule => k_is)
    (case eget_InvalidRule => k_is)
    (case ecla_InvalidRule => k_is)
    (case egg_InvalidRule => k_is)
    (case ek_InvalidRule => k_is)
    (case en_InvalidRule => k_is)
    (case a_xInvalidRule => k_is)
    (case l_xInvalidRule => k_is)
    (case c_xInvalidRule => k_is)
    (case k_xInvalidRule => k_is)
    (case ei_InvalidRule => k_is)
    (case ea_InvalidWidth => k_is)
    (case ex_InvalidWidth => k_is)
    (case et_InvalidWidth => k_is)
    (case eset_InvalidWidth => k_is)
    (case eget_InvalidWidth => k_is)
    (case ecla_InvalidWidth => k_is)
    (case egg_InvalidWidth => k_is)
    (case ek_InvalidWidth => k_is)
    (case en_InvalidWidth => k_is)
    (case a_xInvalidWidth => k_is)
    (case l_xInvalidWidth => k_is)
    (case c_xInvalidWidth => k_is)
    (case k_xInvalidWidth => k_is)
    (case ei_InvalidWidth => k_is)
    (case ea_InvalidRow => k_is)
    (case ex_InvalidRow => k_is)
    (case et_InvalidRow => k_is)
    (case eset_InvalidRow => k_is)
    (case eget_InvalidRow => k_is)
    (case ecla_InvalidRow => k_is)
    (case egg_InvalidRow => k_is)
    (case ek_InvalidRow => k_is)
    (case en_InvalidRow => k_is)
    (case a_xInvalidRow => k_is)
    (case l_xInvalidRow => k_is)
    (case c_xInvalidRow => k_is)
    (case k_xInvalidRow => k_is)
    (case ei_InvalidRow => k_is)
    (case ea_InvalidTexts => k_is)
    (case ex_InvalidTexts => k_is)
    (case et_InvalidTexts => k_is)
    (case eset_InvalidTexts => k_is)
    (case eget_InvalidTexts => k_is)
    (case ecla_InvalidTexts => k_is)
    (case egg_InvalidTexts => k_is)
    (case ek_InvalidTexts => k_is)
    (case en_InvalidTexts => k_is)
    (case a_xInvalidTexts => k_is)
    (case l_xInvalidTexts => k_is)
    (case c_xInvalidTexts => k_is)
    (case k_xInvalidTexts => k_is)
    (case ei_InvalidTexts => k_is)
    (case tab_law_right => first | rfl | decide +kernel | k_is)
    (case cde_law_right => rfl)
    (case notab_law_right => first | rfl | decide +kernel | k_is)
    (case rec_law_right => first | rfl | decide +kernel | k_is)
    (case z_ValueError => k_is)
    (case z_abs => k_is)
    (case z_all => k_is)
    (case z_bool => k_is)
    (case z_divmod => k_is)
    (case z_enumerate => k_is)
    (case z_int => k_is)
    (case z_isinstance => k_is)
    (case z_len => k_is)
    (case z_list => k_is)
    (case z_max => k_is)
    (case z_min => k_is)
    (case z_range => k_is)
    (case z_repr => k_is)
    (case z_set => k_is)
    (case z_str => k_is)
    (case z_tuple => k_is)
    (case z_MOST_SIGNS => k_is)
    (case z_MOST_MARK => k_is)
    (case z_MOST_ROW => k_is)
    (case z_MOST_TEXT => k_is)
    (case z_SIGNS => k_is)
    (case z_KINDS => k_is)
    (case zl_KINDS => k_is)
    (case z_MOST_TEXTS => k_is)
