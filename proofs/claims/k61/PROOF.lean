import PyProof.Rows.All
import Wide.All
import OpenK.AllK
import Wide.FinOn
import HandS.Base
import HandS.Call
import HandS.List
import HandS.Comp
import HandS.Ends
import HandS.Dict
import HandS.Iter
import HandS.Text
import HandS.Words
import HandS.WordsList
import HandS.WordsDict
import HandS.Conv
import HandS.Walk
import HandS.IsInst
import HandS.MakeKw
import HandS.MakeKwOnly
import HandS.Flow
import HandS.TupAny
import HandS.TupMul
import HandS.FStr
import HandS.Zip
import HandS.Style
import HandS.Codes
import HandS.TupLe
import HandS.SetKeys
import HandS.Strs
import HandS.SetFor
import HandS.Deep
import HandS.SortInts
import HandS.More
import HandS.CallLocal
import HandS.HeadHook3
import HandS.Exc
import HandS.TryOnly
import HandS.TryMany
import HandS.WordsExc
import HandS.ExcField
import HandS.ExcIs
import HandS.ExcInit
import HandS.Lambda
import HandS.Set
import PyProof.Rows.SortStr
import KE.KExcInit
import KE.KExcIs
import PyProof.ExcBaseAll.LookupError
import PyProof.ExcBaseAll.ArithmeticError
import KE.GoesMore
import KE.GoesZip
import KE.KUnpack
import PyProof.TupleOfStr
import PySem.Challenge.RW_shownshort_k61_namers_and_shelves_as_val
set_option Elab.async false
set_option linter.all false
set_option maxRecDepth 100000
namespace Gu
open PySem PySem.Spec PyProof.Rows L2
/-! the text, by places -/
def topS (i : Nat) : Stmt := PySem.Challenge.pw_shownshort_k61_namers_and_shelves_as_val.main.body.getD i (.Pass ⟨0, 0, 0, 0⟩)
abbrev s_wall : Stmt := topS 0
abbrev ps_wall : List Str := ["k"]
theorem sc_wall : FnScope ["k"] ps_wall (defScope s_wall) := ⟨rfl, rfl, rfl, by decide +kernel, rfl, by decide +kernel, by decide +kernel⟩
abbrev s_InvalidText_init : Stmt := inClass (topS 3) 0
abbrev ps_InvalidText_init : List Str := ["self", "value"]
theorem sc_InvalidText_init : FnScope ["self", "value"] ps_InvalidText_init (defScope s_InvalidText_init) := ⟨rfl, rfl, rfl, by decide +kernel, rfl, by decide +kernel, by decide +kernel⟩
abbrev s_InvalidRule_init : Stmt := inClass (topS 4) 0
abbrev ps_InvalidRule_init : List Str := ["self", "value"]
theorem sc_InvalidRule_init : FnScope ["self", "value"] ps_InvalidRule_init (defScope s_InvalidRule_init) := ⟨rfl, rfl, rfl, by decide +kernel, rfl, by decide +kernel, by decide +kernel⟩
abbrev s_InvalidWidth_init : Stmt := inClass (topS 5) 0
abbrev ps_InvalidWidth_init : List Str := ["self", "value"]
theorem sc_InvalidWidth_init : FnScope ["self", "value"] ps_InvalidWidth_init (defScope s_InvalidWidth_init) := ⟨rfl, rfl, rfl, by decide +kernel, rfl, by decide +kernel, by decide +kernel⟩
abbrev s_InvalidPlace_init : Stmt := inClass (topS 6) 0
abbrev ps_InvalidPlace_init : List Str := ["self", "value"]
theorem sc_InvalidPlace_init : FnScope ["self", "value"] ps_InvalidPlace_init (defScope s_InvalidPlace_init) := ⟨rfl, rfl, rfl, by decide +kernel, rfl, by decide +kernel, by decide +kernel⟩
abbrev s_NotANamer_init : Stmt := inClass (topS 7) 0
abbrev ps_NotANamer_init : List Str := ["self", "value"]
theorem sc_NotANamer_init : FnScope ["self", "value"] ps_NotANamer_init (defScope s_NotANamer_init) := ⟨rfl, rfl, rfl, by decide +kernel, rfl, by decide +kernel, by decide +kernel⟩
abbrev s_InvalidTexts_init : Stmt := inClass (topS 8) 0
abbrev ps_InvalidTexts_init : List Str := ["self", "index"]
theorem sc_InvalidTexts_init : FnScope ["self", "index"] ps_InvalidTexts_init (defScope s_InvalidTexts_init) := ⟨rfl, rfl, rfl, by decide +kernel, rfl, by decide +kernel, by decide +kernel⟩
abbrev s_InvalidDeeds_init : Stmt := inClass (topS 9) 0
abbrev ps_InvalidDeeds_init : List Str := ["self", "index"]
theorem sc_InvalidDeeds_init : FnScope ["self", "index"] ps_InvalidDeeds_init (defScope s_InvalidDeeds_init) := ⟨rfl, rfl, rfl, by decide +kernel, rfl, by decide +kernel, by decide +kernel⟩
abbrev s_UnknownName_init : Stmt := inClass (topS 12) 0
abbrev ps_UnknownName_init : List Str := ["self", "value"]
theorem sc_UnknownName_init : FnScope ["self", "value"] ps_UnknownName_init (defScope s_UnknownName_init) := ⟨rfl, rfl, rfl, by decide +kernel, rfl, by decide +kernel, by decide +kernel⟩
abbrev s_TooMany_init : Stmt := inClass (topS 14) 0
abbrev ps_TooMany_init : List Str := ["self", "limit"]
theorem sc_TooMany_init : FnScope ["self", "limit"] ps_TooMany_init (defScope s_TooMany_init) := ⟨rfl, rfl, rfl, by decide +kernel, rfl, by decide +kernel, by decide +kernel⟩
abbrev s_is_integer : Stmt := topS 21
abbrev ps_is_integer : List Str := ["value", "least", "most"]
theorem sc_is_integer : FnScope ["value", "least", "most"] ps_is_integer (defScope s_is_integer) := ⟨rfl, rfl, rfl, by decide +kernel, rfl, by decide +kernel, by decide +kernel⟩
abbrev s_is_tuple : Stmt := topS 22
abbrev ps_is_tuple : List Str := ["value", "least", "most"]
theorem sc_is_tuple : FnScope ["value", "least", "most"] ps_is_tuple (defScope s_is_tuple) := ⟨rfl, rfl, rfl, by decide +kernel, rfl, by decide +kernel, by decide +kernel⟩
abbrev s_is_text : Stmt := topS 23
abbrev ps_is_text : List Str := ["value", "most"]
theorem sc_is_text : FnScope ["value", "most", "character"] ps_is_text (defScope s_is_text) := ⟨rfl, rfl, rfl, by decide +kernel, rfl, by decide +kernel, by decide +kernel⟩
abbrev s_check_text : Stmt := topS 24
abbrev ps_check_text : List Str := ["text"]
theorem sc_check_text : FnScope ["text"] ps_check_text (defScope s_check_text) := ⟨rfl, rfl, rfl, by decide +kernel, rfl, by decide +kernel, by decide +kernel⟩
abbrev s_check_texts : Stmt := topS 25
abbrev ps_check_texts : List Str := ["texts", "most"]
theorem sc_check_texts : FnScope ["texts", "most", "place", "text"] ps_check_texts (defScope s_check_texts) := ⟨rfl, rfl, rfl, by decide +kernel, rfl, by decide +kernel, by decide +kernel⟩
abbrev s_Namer_init : Stmt := inClass (topS 29) 0
abbrev ps_Namer_init : List Str := ["self", "rule", "width"]
theorem sc_Namer_init : FnScope ["self", "rule", "width"] ps_Namer_init (defScope s_Namer_init) := ⟨rfl, rfl, rfl, by decide +kernel, rfl, by decide +kernel, by decide +kernel⟩
abbrev s_Namer_eq : Stmt := inClass (topS 29) 1
abbrev ps_Namer_eq : List Str := ["self", "other"]
theorem sc_Namer_eq : FnScope ["self", "other"] ps_Namer_eq (defScope s_Namer_eq) := ⟨rfl, rfl, rfl, by decide +kernel, rfl, by decide +kernel, by decide +kernel⟩
abbrev s_Namer_repr : Stmt := inClass (topS 29) 2
abbrev ps_Namer_repr : List Str := ["self"]
theorem sc_Namer_repr : FnScope ["self"] ps_Namer_repr (defScope s_Namer_repr) := ⟨rfl, rfl, rfl, by decide +kernel, rfl, by decide +kernel, by decide +kernel⟩
abbrev s_check_namer : Stmt := topS 30
abbrev ps_check_namer : List Str := ["namer"]
theorem sc_check_namer : FnScope ["namer"] ps_check_namer (defScope s_check_namer) := ⟨rfl, rfl, rfl, by decide +kernel, rfl, by decide +kernel, by decide +kernel⟩
abbrev s_base_of : Stmt := topS 31
abbrev ps_base_of : List Str := ["namer", "text"]
theorem sc_base_of : FnScope ["namer", "text"] ps_base_of (defScope s_base_of) := ⟨rfl, rfl, rfl, by decide +kernel, rfl, by decide +kernel, by decide +kernel⟩
abbrev s_numbered : Stmt := topS 32
abbrev ps_numbered : List Str := ["namer", "base", "number"]
theorem sc_numbered : FnScope ["namer", "base", "number", "ending"] ps_numbered (defScope s_numbered) := ⟨rfl, rfl, rfl, by decide +kernel, rfl, by decide +kernel, by decide +kernel⟩
abbrev s_counted_name : Stmt := topS 33
abbrev ps_counted_name : List Str := ["namer", "base", "texts"]
theorem sc_counted_name : FnScope ["namer", "base", "texts", "number", "text"] ps_counted_name (defScope s_counted_name) := ⟨rfl, rfl, rfl, by decide +kernel, rfl, by decide +kernel, by decide +kernel⟩
abbrev s_free_name : Stmt := topS 34
abbrev ps_free_name : List Str := ["namer", "base", "taken"]
theorem sc_free_name : FnScope ["namer", "base", "taken", "name", "number"] ps_free_name (defScope s_free_name) := ⟨rfl, rfl, rfl, by decide +kernel, rfl, by decide +kernel, by decide +kernel⟩
abbrev s_name_of_next : Stmt := topS 35
abbrev ps_name_of_next : List Str := ["namer", "text", "texts", "taken"]
theorem sc_name_of_next : FnScope ["namer", "text", "texts", "taken", "base"] ps_name_of_next (defScope s_name_of_next) := ⟨rfl, rfl, rfl, by decide +kernel, rfl, by decide +kernel, by decide +kernel⟩
abbrev s_named : Stmt := topS 36
abbrev ps_named : List Str := ["namer", "texts"]
theorem sc_named : FnScope ["namer", "texts", "given", "place", "text"] ps_named (defScope s_named) := ⟨rfl, rfl, rfl, by decide +kernel, rfl, by decide +kernel, by decide +kernel⟩
abbrev s_orders : Stmt := topS 37
abbrev ps_orders : List Str := ["many"]
theorem sc_orders : FnScope ["many", "found", "size", "order", "place"] ps_orders (defScope s_orders) := ⟨rfl, rfl, rfl, by decide +kernel, rfl, by decide +kernel, by decide +kernel⟩
abbrev s_named_in_order : Stmt := topS 38
abbrev ps_named_in_order : List Str := ["namer", "texts", "order"]
theorem sc_named_in_order : FnScope ["namer", "texts", "order", "place"] ps_named_in_order (defScope s_named_in_order) := ⟨rfl, rfl, rfl, by decide +kernel, rfl, by decide +kernel, by decide +kernel⟩
abbrev s_names : Stmt := topS 39
abbrev ps_names : List Str := ["namer", "texts"]
theorem sc_names : FnScope ["namer", "texts"] ps_names (defScope s_names) := ⟨rfl, rfl, rfl, by decide +kernel, rfl, by decide +kernel, by decide +kernel⟩
abbrev s_meeting : Stmt := topS 40
abbrev ps_meeting : List Str := ["namer", "texts"]
theorem sc_meeting : FnScope ["namer", "texts", "order"] ps_meeting (defScope s_meeting) := ⟨rfl, rfl, rfl, by decide +kernel, rfl, by decide +kernel, by decide +kernel⟩
abbrev s_possible_names : Stmt := topS 41
abbrev ps_possible_names : List Str := ["namer", "texts", "place"]
theorem sc_possible_names : FnScope ["namer", "texts", "place", "found", "order"] ps_possible_names (defScope s_possible_names) := ⟨rfl, rfl, rfl, by decide +kernel, rfl, by decide +kernel, by decide +kernel⟩
abbrev s_is_deed : Stmt := topS 44
abbrev ps_is_deed : List Str := ["value"]
theorem sc_is_deed : FnScope ["value"] ps_is_deed (defScope s_is_deed) := ⟨rfl, rfl, rfl, by decide +kernel, rfl, by decide +kernel, by decide +kernel⟩
abbrev s_check_deeds : Stmt := topS 45
abbrev ps_check_deeds : List Str := ["deeds"]
theorem sc_check_deeds : FnScope ["deeds", "place", "deed"] ps_check_deeds (defScope s_check_deeds) := ⟨rfl, rfl, rfl, by decide +kernel, rfl, by decide +kernel, by decide +kernel⟩
abbrev s_Shelf_init : Stmt := inClass (topS 46) 0
abbrev ps_Shelf_init : List Str := ["self", "namer"]
theorem sc_Shelf_init : FnScope ["self", "namer"] ps_Shelf_init (defScope s_Shelf_init) := ⟨rfl, rfl, rfl, by decide +kernel, rfl, by decide +kernel, by decide +kernel⟩
abbrev s_Shelf_len : Stmt := inClass (topS 46) 1
abbrev ps_Shelf_len : List Str := ["self"]
theorem sc_Shelf_len : FnScope ["self"] ps_Shelf_len (defScope s_Shelf_len) := ⟨rfl, rfl, rfl, by decide +kernel, rfl, by decide +kernel, by decide +kernel⟩
abbrev s_Shelf_repr : Stmt := inClass (topS 46) 2
abbrev ps_Shelf_repr : List Str := ["self"]
theorem sc_Shelf_repr : FnScope ["self"] ps_Shelf_repr (defScope s_Shelf_repr) := ⟨rfl, rfl, rfl, by decide +kernel, rfl, by decide +kernel, by decide +kernel⟩
abbrev s_Shelf_check_not_busy : Stmt := inClass (topS 46) 3
abbrev ps_Shelf_check_not_busy : List Str := ["self"]
theorem sc_Shelf_check_not_busy : FnScope ["self"] ps_Shelf_check_not_busy (defScope s_Shelf_check_not_busy) := ⟨rfl, rfl, rfl, by decide +kernel, rfl, by decide +kernel, by decide +kernel⟩
abbrev s_Shelf_become : Stmt := inClass (topS 46) 4
abbrev ps_Shelf_become : List Str := ["self", "texts", "names"]
theorem sc_Shelf_become : FnScope ["self", "texts", "names"] ps_Shelf_become (defScope s_Shelf_become) := ⟨rfl, rfl, rfl, by decide +kernel, rfl, by decide +kernel, by decide +kernel⟩
abbrev s_Shelf_let_come : Stmt := inClass (topS 46) 5
abbrev ps_Shelf_let_come : List Str := ["self", "text"]
theorem sc_Shelf_let_come : FnScope ["self", "text", "name"] ps_Shelf_let_come (defScope s_Shelf_let_come) := ⟨rfl, rfl, rfl, by decide +kernel, rfl, by decide +kernel, by decide +kernel⟩
abbrev s_Shelf_let_go : Stmt := inClass (topS 46) 6
abbrev ps_Shelf_let_go : List Str := ["self", "name"]
theorem sc_Shelf_let_go : FnScope ["self", "name", "place", "text"] ps_Shelf_let_go (defScope s_Shelf_let_go) := ⟨rfl, rfl, rfl, by decide +kernel, rfl, by decide +kernel, by decide +kernel⟩
abbrev s_Shelf_do_deed : Stmt := inClass (topS 46) 7
abbrev ps_Shelf_do_deed : List Str := ["self", "deed"]
theorem sc_Shelf_do_deed : FnScope ["self", "deed", "word", "told"] ps_Shelf_do_deed (defScope s_Shelf_do_deed) := ⟨rfl, rfl, rfl, by decide +kernel, rfl, by decide +kernel, by decide +kernel⟩
abbrev s_Shelf_add : Stmt := inClass (topS 46) 8
abbrev ps_Shelf_add : List Str := ["self", "text"]
theorem sc_Shelf_add : FnScope ["self", "text"] ps_Shelf_add (defScope s_Shelf_add) := ⟨rfl, rfl, rfl, by decide +kernel, rfl, by decide +kernel, by decide +kernel⟩
abbrev s_Shelf_remove : Stmt := inClass (topS 46) 9
abbrev ps_Shelf_remove : List Str := ["self", "name"]
theorem sc_Shelf_remove : FnScope ["self", "name"] ps_Shelf_remove (defScope s_Shelf_remove) := ⟨rfl, rfl, rfl, by decide +kernel, rfl, by decide +kernel, by decide +kernel⟩
abbrev s_Shelf_do_all : Stmt := inClass (topS 46) 10
abbrev ps_Shelf_do_all : List Str := ["self", "watch", "deeds"]
theorem sc_Shelf_do_all : FnScope ["self", "watch", "deeds", "texts", "names", "past", "place", "deed"] ps_Shelf_do_all (defScope s_Shelf_do_all) := ⟨rfl, rfl, rfl, by decide +kernel, rfl, by decide +kernel, by decide +kernel⟩
abbrev s_Shelf_undo : Stmt := inClass (topS 46) 11
abbrev ps_Shelf_undo : List Str := ["self"]
theorem sc_Shelf_undo : FnScope ["self"] ps_Shelf_undo (defScope s_Shelf_undo) := ⟨rfl, rfl, rfl, by decide +kernel, rfl, by decide +kernel, by decide +kernel⟩
abbrev s_Shelf_trial : Stmt := inClass (topS 46) 12
abbrev ps_Shelf_trial : List Str := ["self"]
theorem sc_Shelf_trial : FnScope ["self"] ps_Shelf_trial (defScope s_Shelf_trial) := ⟨rfl, rfl, rfl, by decide +kernel, rfl, by decide +kernel, by decide +kernel⟩
abbrev s_law_source : Stmt := topS 48
abbrev ps_law_source : List Str := ["_law_cells", "_law_turn"]
theorem sc_law_source : FnScope ["_law_cells", "_law_turn", "_law_mixed", "_law_cell", "_law_own"] ps_law_source (defScope s_law_source) := ⟨rfl, rfl, rfl, by decide +kernel, rfl, by decide +kernel, by decide +kernel⟩
abbrev s_law_draw : Stmt := topS 49
abbrev ps_law_draw : List Str := ["_law_source_here", "_law_size"]
theorem sc_law_draw : FnScope ["_law_source_here", "_law_size", "_law_digit", "_law_state", "_law_factor"] ps_law_draw (defScope s_law_draw) := ⟨rfl, rfl, rfl, by decide +kernel, rfl, by decide +kernel, by decide +kernel⟩
abbrev s_law_one : Stmt := topS 50
abbrev ps_law_one : List Str := ["_law_source_here", "_law_some"]
theorem sc_law_one : FnScope ["_law_source_here", "_law_some"] ps_law_one (defScope s_law_one) := ⟨rfl, rfl, rfl, by decide +kernel, rfl, by decide +kernel, by decide +kernel⟩
abbrev s_law_stem : Stmt := topS 51
abbrev ps_law_stem : List Str := ["_law_source_here", "_law_size"]
theorem sc_law_stem : FnScope ["_law_source_here", "_law_size", "_law_abc", "_law_k"] ps_law_stem (defScope s_law_stem) := ⟨rfl, rfl, rfl, by decide +kernel, rfl, by decide +kernel, by decide +kernel⟩
abbrev s_law_word : Stmt := topS 52
abbrev ps_law_word : List Str := ["_law_source_here", "_law_stems"]
theorem sc_law_word : FnScope ["_law_source_here", "_law_stems", "_law_way", "_law_stem_here"] ps_law_word (defScope s_law_word) := ⟨rfl, rfl, rfl, by decide +kernel, rfl, by decide +kernel, by decide +kernel⟩
abbrev s_law_asked : Stmt := topS 53
abbrev ps_law_asked : List Str := ["_law_mine"]
theorem sc_law_asked : FnScope ["_law_mine"] ps_law_asked (defScope s_law_asked) := ⟨rfl, rfl, rfl, by decide +kernel, rfl, by decide +kernel, by decide +kernel⟩
abbrev s_law_right : Stmt := topS 54
abbrev ps_law_right : List Str := ["_law_source_here"]
theorem sc_law_right : FnScope ["_law_source_here", "_law_sort", "_law_size", "_law_space", "_law_twin", "_law_stems", "_law_mine", "_law_mate", "_law_first", "_law_told", "_law_line", "_law_text_here", "_law_before", "_law_seen", "_law_turn", "_law_k", "_law_pair"] ps_law_right (defScope s_law_right) := ⟨rfl, rfl, rfl, by decide +kernel, rfl, by decide +kernel, by decide +kernel⟩
abbrev s_law : Stmt := topS 55
abbrev ps_law : List Str := ["_law_script"]
theorem sc_law : FnScope ["_law_script", "_law_k"] ps_law (defScope s_law) := ⟨rfl, rfl, rfl, by decide +kernel, rfl, by decide +kernel, by decide +kernel⟩
/-- names that the module leaves to Python -/
structure Bi (mg : Str → Option Value) : Prop where
  ArithmeticError : mg "ArithmeticError" = none
  LookupError : mg "LookupError" = none
  ValueError : mg "ValueError" = none
  abs : mg "abs" = none
  all : mg "all" = none
  bool : mg "bool" = none
  divmod : mg "divmod" = none
  enumerate : mg "enumerate" = none
  int : mg "int" = none
  isinstance : mg "isinstance" = none
  len : mg "len" = none
  max : mg "max" = none
  min : mg "min" = none
  range : mg "range" = none
  repr : mg "repr" = none
  set : mg "set" = none
  sorted : mg "sorted" = none
  str : mg "str" = none
  tuple : mg "tuple" = none
  MOST_SIGNS : ∃ u, mg "MOST_SIGNS" = some u ∧ RelV (.int 40) u
  MOST_TEXT : ∃ u, mg "MOST_TEXT" = some u ∧ RelV (.int 200) u
  MOST_LISTED : ∃ u, mg "MOST_LISTED" = some u ∧ RelV (.int 6) u
  MOST_SHELVED : ∃ u, mg "MOST_SHELVED" = some u ∧ RelV (.int 20) u
  SIGNS : ∃ u, mg "SIGNS" = some u ∧ RelV (.str ".0123456789abcdefghijklmnopqrstuvwxyz~") u
  LEAST_WIDTH : ∃ u, mg "LEAST_WIDTH" = some u ∧ RelV (.int 6) u
end Gu
namespace Gu
open PySem PySem.Spec PyProof.Rows L2
/-! cuts -/
/-- from a middle state on -/
def tHalt (t u : TS) : TS := fun D σ H => ∃ M : L2.St → Hp → Prop, t { D with nx := M } σ H ∧ ∀ σ1 H1, M σ1 H1 → u D σ1 H1
/-! defs as they stand behind the top -/
structure At (K : PySem.W.Frag) (mg : Str → Option Value) (x : Str) (st : Stmt) (ps : List Str) : Prop where
  ex : ∃ (f : Addr) (fd : FuncData), Fun K x x st f fd ∧ Binds K fd ps [] ∧ mg x = some (.ref f)
structure Cal (P : Program) (w : World) (K : PySem.W.Frag) (mg : Str → Option Value) (base : Heap) (k : Nat) (x : Str) (ps : List Str) (sp : Sp) : Prop where
  ex : ∃ (f : Addr) (fd : FuncData), FnOk P w K mg base CX0 k f fd ps sp ∧ mg x = some (.ref f) ∧ PySem.W.keepIn K (.ref f) = true ∧ Binds K fd ps [] ∧ ∃ oc od sl, K.lookup f = some ⟨oc, od, .func fd, sl⟩
theorem At.cal {P : Program} {w : World} {K : PySem.W.Frag} {mg : Str → Option Value} {base : Heap} {x : Str} {st : Stmt} {N ps : List Str} {k : Nat} {sp : Sp} (D : At K mg x st ps) (S : FnScope N ps (defScope st)) (len : ∀ vs H Q E, sp vs H Q E → vs.length = ps.length)
    (body : ∀ (f : Addr) (cdv : Value) (A : Around) (outer : List Env) (s : Shared) (H : Hp) (vs : List V) (Q : VK) (E : XK), Room k (A.deeper (envOfC x (defScope st) s.heap.objs.size f cdv)) → sp vs H Q E →
      ∃ t, PSs (cxOf CX0 P w K mg base N x (defScope st) f cdv A outer s H E).nox (defBody st) t ∧ t { nx := fun _ H' => Q .non H', rt := Q } (start N vs) H) : Cal P w K mg base (k + 1) x ps sp := by
  obtain ⟨f, fd, F, b, g⟩ := D.ex
  obtain ⟨oc, od, kV, doc, pm, an, cdv, ct, osl, e, lk, hcd⟩ := F.ex
  exact ⟨f, fd, F.ok S len (body f), g, F.kp, b, oc, od, osl, lk⟩
section
variable {X : Cx} {k j : Nat} {x : Str} {ps : List Str} {sp : Sp} {p pos : Pos} {e : Expr} {es : List Expr} {t : TA}
theorem pe_own (c : Cal X.prog X.w X.K X.mg X.base k x ps sp) (hr : Room j X.A) (hk : k ≤ j) (hg : Gl X x) (ha : PA X (e :: es) t)
    (hdb : (x == ("__debug__" : Str)) = false := by decide) (he : starEach (e :: es) X.env = (false, eval e X.env) :: starEach es X.env := by rfl) (hpl : (backTo pos (starEach es X.env)).any (·.1) = false := by rfl) :
    PE X (.Call (.Name x p) (e :: es) [] pos) (tCall sp [] E0 t) := by
  obtain ⟨f, fd, F, hm, kp, b, _⟩ := c.ex
  exact pe_call F (hr.mono hk) hg hm kp b .nil pass0 ha hdb he hpl
theorem pe_cst {v : V} (h : ∃ u, X.mg x = some u ∧ RelV v u) (hg : Gl X x) (hdb : (x == ("__debug__" : Str)) = false := by decide) : PE X (.Name x pos) (tC v) := by
  obtain ⟨u, hm, r⟩ := h
  exact pe_glob hg hm r hdb
end
def tMid (t : TE) : TE := fun σ H Q => ∃ M : VK, t σ H M ∧ ∀ v G, M v G → Q v G
theorem pe_mid {X : Cx} {e : Expr} {t : TE} (d : PE X e t) : PE X e (tMid t) := ⟨fun pins s σ H Q I ⟨M, m, k⟩ => thn (d.run pins s σ H M I m) fun u s1 ⟨v, G, I1, r1, m1⟩ => ⟨v, G, I1, r1, k v G m1⟩⟩
/-! ### heaps -/
theorem same_new {H : Hp} {p : Addr} {o : HO} (h : H p = none) : Same H (upd H p o) := fun b x e => by
  rw [upd_ne (ne_of_none e h)]
  exact e
/-- a pot of three ints stands at p -/
def Pot (H : Hp) (p : Addr) : Prop := ∃ x y z : Int, H p = some (.lst [.int x, .int y, .int z])
/-- from H to G the pot at p may have changed, the rest stands -/
structure Ladled (p : Addr) (H G : Hp) : Prop where
  pot : Pot G p
  keep : ∀ b o, H b = some o → b ≠ p → G b = some o
theorem Pot.some {H : Hp} {p : Addr} (h : Pot H p) : ∃ o, H p = some o := by
  obtain ⟨x, y, z, e⟩ := h
  exact ⟨_, e⟩
theorem Pot.same {H G : Hp} {p : Addr} (s : Same H G) (h : Pot H p) : Pot G p := by
  obtain ⟨x, y, z, e⟩ := h
  exact ⟨x, y, z, s _ _ e⟩
theorem Ladled.refl {H : Hp} {p : Addr} (h : Pot H p) : Ladled p H H := ⟨h, fun _ _ e _ => e⟩
theorem Ladled.trans {H G J : Hp} {p : Addr} (a : Ladled p H G) (b : Ladled p G J) : Ladled p H J := ⟨b.pot, fun c o e n => b.keep c o (a.keep c o e n) n⟩
theorem Ladled.same {H G J : Hp} {p : Addr} (a : Ladled p H G) (b : Same G J) : Ladled p H J := ⟨a.pot.same b, fun c o e n => b _ _ (a.keep c o e n)⟩
theorem Ladled.ofSame {H G : Hp} {p : Addr} (h : Pot H p) (b : Same H G) : Ladled p H G := ⟨h.same b, fun c o e _ => b _ _ e⟩
theorem Ladled.new {H G : Hp} {p q : Addr} {o : HO} (a : Ladled p H G) (h : G q = none) : Ladled p H (upd G q o) := a.same (same_new h)
theorem Ladled.free {H G : Hp} {p l : Addr} (a : Ladled p H G) (h : G l = none) : H l = none := by
  cases q : H l with
  | none => rfl
  | some o =>
    by_cases e : l = p
    · subst e
      obtain ⟨u, hu⟩ := a.pot.some
      rw [hu] at h
      cases h
    · rw [a.keep l o q e] at h
      cases h
/-- what is not known at first may change -/
theorem Ladled.mut {H G : Hp} {p q : Addr} {o : HO} (a : Ladled p H G) (h : H q = none) (n : q ≠ p) : Ladled p H (upd G q o) := by
  refine ⟨?_, fun b u e nb => ?_⟩
  · obtain ⟨x, y, z, e⟩ := a.pot
    exact ⟨x, y, z, by rw [upd_ne (Ne.symm n)]; exact e⟩
  · rw [upd_ne (ne_of_none e h)]
    exact a.keep b u e nb
end Gu
namespace Gu
open PySem PySem.Spec PyProof.Rows L2
section
variable {P : Program} {w : World} {K : PySem.W.Frag} {mg : Str → Option Value} {base : Heap}
/-! ### _law_draw -/
def spLadle : Sp := fun vs H Q _ => ∃ (p : Addr) (m : Int), vs = [.ref p, .int m] ∧ Pot H p ∧ 0 < m ∧ m < 1000000 ∧ ∀ d G, 0 ≤ d → d < m → Ladled p H G → Q (.int d) G
theorem cal_draw (B : Bi mg) (D : At K mg "_law_draw" s_law_draw ps_law_draw) : Cal P w K mg base 1 "_law_draw" ps_law_draw spLadle := by
  refine D.cal sc_law_draw (fun vs H Q E h => ?_) (fun f cdv A outer s H vs Q E hr h => ?_)
  · obtain ⟨p, m, rfl, _⟩ := h
    rfl
  · obtain ⟨p, m, rfl, ⟨x, y, z, hp⟩, m0, m1, k⟩ := h
    refine ⟨_, (pss_cons (ps_asg (pe_op op_add (pe_ix ix_list (pv 0) pe_int (fun _ _ => rfl)) pe_int) (pg_sub (pv 0) pe_int set_list))
      (pss_cons (ps_if (pt_cmpR op_gt (pe_ix ix_list (pv 0) pe_int (fun _ _ => rfl)) pe_int (nomark _)) (pss_cons (ps_asg (pe_callB call_divmod (by rfl) B.divmod (by decide +kernel) (pa_cons (pe_ix ix_list (pv 0) pe_int (fun _ _ => rfl)) (pa_cons (pv 1) pa_nil))) (pg_tup rfl (pgs_cons (pg_sub (pv 0) pe_int set_list) (pgs_cons (pg_name (i := 2) sc_law_draw.nd rfl (.inl rfl)) pgs_nil))))
      (pss_one (ps_ret (pv 2)))) pss_nil)
      (pss_cons (ps_set (i := 3) sc_law_draw.nd rfl (.inl rfl) (pe_callTy call_int1 (by rfl) B.int (by decide +kernel) (pa_cons (pe_ix ix_list (pv 0) pe_int (fun _ _ => rfl)) pa_nil)))
      (pss_cons (ps_set (i := 4) sc_law_draw.nd rfl (.inl rfl) (pe_op op_add (pe_op op_mod (pe_callTy call_int1 (by rfl) B.int (by decide +kernel) (pa_cons (pv 3) pa_nil)) pe_int) pe_int))
      (pss_cons (ps_asg (pe_op op_mod (pe_callTy call_int1 (by rfl) B.int (by decide +kernel) (pa_cons (pe_op op_add (pe_op op_add (pe_op op_mul (pv 3) (pv 4)) (pe_op op_mul pe_int (pe_ix ix_list (pv 0) pe_int (fun _ _ => rfl)))) pe_int) pa_nil)) pe_int) (pg_sub (pv 0) pe_int set_list))
      (pss_one (ps_ret (pe_op op_mod (pe_op op_fdiv (pe_callTy call_int1 (by rfl) B.int (by decide +kernel) (pa_cons (pe_ix ix_list (pv 0) pe_int (fun _ _ => rfl)) pa_nil)) pe_int) (pv 1))))))))), ?_⟩
    refine ⟨_, rfl, p, _, _, _, rfl, rfl, .inl (.inl hp), (rfl : atI [V.int x, V.int y, V.int z] 2 = some (V.int z)), _, _, rfl, rfl, _, rfl, p, _, _, 2, rfl, rfl, hp, rfl, ?_⟩
    have h1 : upd H p (.lst ([V.int x, V.int y, V.int z].set 2 (.int (z + 1)))) p = some (.lst [.int x, .int y, .int (z + 1)]) := upd_same
    refine ⟨_, rfl, p, _, _, _, rfl, rfl, .inl (.inl h1), (rfl : atI [V.int x, V.int y, V.int (z + 1)] 0 = some (V.int x)), _, _, rfl, rfl, _, rfl, ite2 (fun _ => ?_) (fun _ => ?_)⟩
    · refine ⟨_, rfl, p, _, _, _, rfl, rfl, .inl (.inl h1), (rfl : atI [V.int x, V.int y, V.int (z + 1)] 0 = some (V.int x)), _, rfl, _, _, rfl, ⟨m0, by omega⟩, fun q hq => ?_⟩
      have npq : p ≠ q := ne_of_none h1 hq
      refine ⟨q, _, rfl, .inl (.inl upd_same), rfl, _, _, rfl, ⟨_, rfl, p, _, _, 0, rfl, rfl, (by rw [upd_ne npq]; exact h1), rfl, _, _, rfl, rfl, ?_⟩⟩
      refine ⟨_, rfl, ?_⟩
      refine k (x % m) _ (Int.emod_nonneg _ (by omega)) (Int.emod_lt_of_pos _ m0) ⟨⟨_, _, _, upd_same⟩, fun b o e n => ?_⟩
      have hb : upd H p (.lst ([V.int x, V.int y, V.int z].set 2 (.int (z + 1)))) b = some o := by rw [upd_ne n]; exact e
      rw [upd_ne n, upd_ne (ne_of_none hb hq), upd_ne n]
      exact e
    · have f0 : 0 ≤ y % 9973 := Int.emod_nonneg _ (by decide)
      have f1 : y % 9973 < 9973 := Int.emod_lt_of_pos _ (by decide)
      refine ⟨_, rfl, p, _, _, _, rfl, rfl, .inl (.inl h1), (rfl : atI [V.int x, V.int y, V.int (z + 1)] 1 = some (V.int y)), .inl ⟨_, rfl, ?_⟩⟩
      refine ⟨_, rfl, .inl ⟨_, rfl, _, _, rfl, rfl, (by decide : (0 : Int) < 9973), _, _, rfl, rfl, ?_⟩⟩
      refine ⟨_, rfl, _, rfl, _, _, rfl, rfl, .inr ⟨by omega, by omega⟩, _, rfl, p, _, _, _, rfl, rfl, .inl (.inl h1), (rfl : atI [V.int x, V.int y, V.int (z + 1)] 2 = some (V.int (z + 1))), _, _, rfl, rfl, .inl ⟨by decide, by decide⟩, _, _, rfl, rfl, _, _, rfl, rfl, .inl ⟨_, rfl, _, _, rfl, rfl, (by decide : (0 : Int) < 2147483587), ?_⟩⟩
      refine ⟨_, rfl, p, _, _, 1, rfl, rfl, h1, rfl, ?_⟩
      refine ⟨_, rfl, p, _, _, _, rfl, rfl, .inl (.inl upd_same), rfl, .inl ⟨_, rfl, _, _, rfl, rfl, ⟨by decide, by decide⟩, _, rfl, _, _, rfl, rfl, m0, ?_⟩⟩
      refine k _ _ (Int.emod_nonneg _ (by omega)) (Int.emod_lt_of_pos _ m0) ⟨⟨_, _, _, upd_same⟩, fun b o e n => ?_⟩
      rw [upd_ne n, upd_ne n]
      exact e
/-! ### _law_one: of a list -/
def spOneOf (K : PySem.W.Frag) : Sp := fun vs H Q _ => ∃ (p : Addr), Pot H p ∧
  (∃ (l : Addr) (xs : List V), vs = [.ref p, .ref l] ∧ SqL K H l xs ∧ l ≠ p ∧ 0 < xs.length ∧ xs.length < 1000 ∧ ∀ v G, v ∈ xs → Ladled p H G → Q v G)
theorem Ladled.seq {K : PySem.W.Frag} {H G : Hp} {p l : Addr} {xs : List V} (a : Ladled p H G) (n : l ≠ p) (h : SqL K H l xs) : SqL K G l xs := by
  rcases h with (h | ⟨o, h⟩) | h
  · exact .inl (.inl (a.keep _ _ h n))
  · exact .inl (.inr ⟨o, a.keep _ _ h n⟩)
  · exact .inr h
theorem at_in {α : Type} {xs : List α} {d : Int} (h0 : 0 ≤ d) (h1 : d < (xs.length : Int)) : ∃ v, v ∈ xs ∧ atI xs d = some v := by
  obtain ⟨j, rfl⟩ := Int.eq_ofNat_of_zero_le h0
  have hj : j < xs.length := by omega
  exact ⟨xs[j], List.getElem_mem hj, atI_nat (List.getElem?_eq_getElem hj)⟩
theorem cal_one (B : Bi mg) (D : At K mg "_law_one" s_law_one ps_law_one) (C_law_draw : Cal P w K mg base 1 "_law_draw" ps_law_draw spLadle) : Cal P w K mg base 2 "_law_one" ps_law_one (spOneOf K) := by
  refine D.cal sc_law_one (fun vs H Q E h => ?_) (fun f cdv A outer s H vs Q E hr h => ?_)
  · obtain ⟨p, _, l, xs, rfl, _⟩ := h
    rfl
  · refine ⟨_, (pss_one (ps_ret (pe_ix ix_list (pv 1) (pe_own C_law_draw hr (by decide) (by rfl) (pa_cons (pv 0) (pa_cons (pe_callB call_len (by rfl) B.len (by decide +kernel) (pa_cons (pv 1) pa_nil)) pa_nil))) (fun _ _ => rfl)))), ?_⟩
    obtain ⟨p, hp, l, xs, rfl, hl, np, l0, l1, k⟩ := h
    refine ⟨_, rfl, _, rfl, _, rfl, _, _, rfl, .inl ⟨_, hl, rfl⟩, p, _, rfl, hp, by omega, by omega, fun d G d0 d1 L => ?_⟩
    obtain ⟨v, hv, ha⟩ := at_in (xs := xs) d0 d1
    exact ⟨l, xs, d, v, rfl, rfl, L.seq np hl, ha, k v G hv L⟩
/-! ### _law_source -/
theorem sq_same {K : PySem.W.Frag} {H G : Hp} {l : Addr} {xs : List V} (a : Same H G) (h : SqL K H l xs) : SqL K G l xs := by
  rcases h with (h | ⟨o, h⟩) | h
  · exact .inl (.inl (a _ _ h))
  · exact .inl (.inr ⟨o, a _ _ h⟩)
  · exact .inr h
def spPot (K : PySem.W.Frag) : Sp := fun vs H Q _ => ∃ (a : Addr) (k : Nat) (ns : List Int), vs = [.ref a, .int (k : Int)] ∧ SqL K H a (ns.map V.int) ∧ k < 1000 ∧ ∀ p G, H p = none → Pot G p → Same H G → Q (.ref p) G
theorem cal_source (B : Bi mg) (D : At K mg "_law_source" s_law_source ps_law_source) : Cal P w K mg base 1 "_law_source" ps_law_source (spPot K) := by
  refine D.cal sc_law_source (fun vs H Q E h => ?_) (fun f cdv A outer s H vs Q E hr h => ?_)
  · obtain ⟨a, k, ns, rfl, _⟩ := h
    rfl
  · obtain ⟨a, k, ns, rfl, hS, hk, q⟩ := h
    refine ⟨_, (pss_cons (ps_set (i := 2) sc_law_source.nd rfl (.inl rfl) (pe_op op_add pe_int (pe_op op_mul pe_int (pv 1))))
      (pss_cons (ps_for PassesOwn.never rfl (pi_list (pe_slice sl_list (pv 0) po_none (po_some pe_int))) (pg_name (i := 3) sc_law_source.nd rfl (.inl rfl))
      (pss_one (ps_set (i := 2) sc_law_source.nd rfl (.inl rfl) (pe_op op_mod (pe_callTy call_int1 (by rfl) B.int (by decide +kernel) (pa_cons (pe_op op_add (pe_op op_mul (pv 2) pe_int) (pv 3)) pa_nil)) pe_int))))
      (pss_cons (ps_set (i := 4) sc_law_source.nd rfl (.inl rfl) (pe_mid (pe_ifExp (pt_cmpR op_lt (pv 1) (pe_callB call_len_seq (by rfl) B.len (by decide +kernel) (pa_cons (pv 0) pa_nil)) (nomark _)) (pe_ix ix_list (pv 0) (pv 1) (fun _ _ => rfl)) (pv 2))))
      (pss_cons (ps_set (i := 2) sc_law_source.nd rfl (.inl rfl) (pe_op op_mod (pe_callTy call_int1 (by rfl) B.int (by decide +kernel) (pa_cons (pe_op op_add (pe_op op_mul (pv 2) pe_int) (pv 4)) pa_nil)) pe_int))
      (pss_one (ps_ret (pe_lst (pa_cons (pe_mid (pe_ifExp (pt_cmpR op_ge (pe_callB call_abs (by rfl) B.abs (by decide +kernel) (pa_cons (pv 4) pa_nil)) (pe_op op_pow pe_int pe_int) (nomark _)) (pe_callB call_abs (by rfl) B.abs (by decide +kernel) (pa_cons (pv 4) pa_nil)) pe_int)) (pa_cons (pv 2) (pa_cons pe_int pa_nil)))))))))), ?_⟩
    refine ⟨_, rfl, _, _, rfl, rfl, .inl ⟨by decide, by decide⟩, _, _, rfl, rfl, ?_⟩
    refine ⟨_, rfl, 6, rfl, a, _, rfl, hS, fun c nc => ?_⟩
    have sc : Same H (upd H c (.lst (cutV (ns.map V.int) none (some 6)))) := same_new nc
    have hC : cutV (ns.map V.int) none (some 6) = (ns.take 6).map V.int := by
      unfold cutV
      rw [HT.sIx_none, show HT.sIx (ns.map V.int).length (ns.map V.int).length (some 6) = min 6 (ns.map V.int).length from HT.sIx_nat _ _ 6, List.drop_zero, Nat.sub_zero, List.map_take, List.take_eq_take_iff]
      omega
    refine ⟨c, rfl, ⟨_, .inl (.inl upd_same)⟩, for_list (K := K) (a := c) (xs := (ns.take 6).map V.int) (fun i σ J => ∃ (mx : Int) (u : Option V), σ = [some (.ref a), some (.int (k : Int)), some (.int mx), u, none] ∧ Same H J ∧ J c = some (.lst ((ns.take 6).map V.int)))
      ⟨_, none, rfl, sc, by rw [upd_same, hC]⟩ (fun i σ J _ ⟨_, _, _, _, e⟩ => .inl (.inl e)) ?_ ?_⟩
    · rintro i v σ J hi ⟨mx, u, rfl, sJ, eJ⟩
      obtain ⟨t, rfl⟩ : ∃ t, v = V.int t := by
        rw [List.getElem?_map] at hi
        cases e : (ns.take 6)[i]? with
        | none =>
          rw [e] at hi
          cases hi
        | some t =>
          rw [e] at hi
          exact ⟨t, (Option.some.inj hi).symm⟩
      refine ⟨_, rfl, _, _, rfl, rfl, .inr ⟨by decide, by decide⟩, _, rfl, _, _, rfl, rfl, .inl ⟨_, rfl, _, _, rfl, rfl, (by decide : (0 : Int) < 2147483629), ?_⟩⟩
      exact ⟨_, _, rfl, sJ, eJ⟩
    · rintro σ J ⟨mx, u, rfl, sJ, eJ⟩
      refine ⟨fun v J1 => (∃ i : Int, v = .int i) ∧ J1 = J, ?_, ?_⟩
      · refine ⟨_, rfl, _, rfl, a, _, rfl, .inl (sq_same sJ hS), _, _, rfl, rfl, _, rfl, ite2 (fun e => ?_) (fun _ => ?_)⟩
        · have hlt := of_decide_eq_true e
          have hj : k < ns.length := by
            rw [List.length_map] at hlt
            omega
          refine ⟨_, rfl, _, rfl, a, _, _, _, rfl, rfl, sq_same sJ hS, atI_nat (j := k) (v := .int ns[k]) (by rw [List.getElem?_map, List.getElem?_eq_getElem hj]; rfl), ⟨_, rfl⟩, rfl⟩
        · exact ⟨_, rfl, ⟨_, rfl⟩, rfl⟩
      · rintro _ _ ⟨⟨own, rfl⟩, rfl⟩
        refine ⟨_, rfl, _, _, rfl, rfl, .inr ⟨by decide, by decide⟩, _, rfl, _, _, rfl, rfl, .inl ⟨_, rfl, _, _, rfl, rfl, (by decide : (0 : Int) < 2147483629), ?_⟩⟩
        refine ⟨fun v J1 => (∃ i : Int, v = .int i) ∧ Same H J1, ?_, ?_⟩
        · refine ⟨_, rfl, _, rfl, _, _, rfl, rfl, ⟨by decide, by decide, by decide⟩, _, _, rfl, rfl, _, rfl, ite2 (fun _ => ⟨_, rfl, _, rfl, ⟨_, rfl⟩, sJ⟩) (fun _ => ⟨⟨_, rfl⟩, sJ⟩)⟩
        · rintro _ J1 ⟨⟨x, rfl⟩, s1⟩
          exact ⟨_, rfl, by show 3 ≤ sizeLine; decide, fun p np => q p _ (s1.free np) ⟨_, _, _, upd_same⟩ (s1.trans (same_new np))⟩
end
end Gu
namespace Gu
open PySem PySem.Spec PyProof.Rows L2
/-! ### texts of the laws about names -/
def abc : Str := ".0123456789abcdefghijklmnopqrstuvwxyz~"
/-- at most n signs -/
structure Wd (n : Nat) (y : Str) : Prop where
  len : y.cps.toList.length ≤ n
  sgn : ∀ c ∈ y.cps.toList, c ∈ abc.cps.toList
theorem Wd.mono {n m : Nat} {y : Str} (h : Wd n y) (k : n ≤ m) : Wd m y := ⟨Nat.le_trans h.len k, h.sgn⟩
theorem str_app (a b : Str) : (a ++ b).cps.toList = a.cps.toList ++ b.cps.toList := by
  show (a.cps ++ b.cps).toList = _
  rw [Array.toList_append]
theorem Wd.app {n m k : Nat} {y z : Str} (a : Wd n y) (b : Wd m z) (h : n + m ≤ k) : Wd k (y ++ z) := by
  have h1 := a.len
  have h2 := b.len
  refine ⟨?_, fun c hc => ?_⟩
  · rw [str_app, List.length_append]
    omega
  · rw [str_app] at hc
    rcases List.mem_append.mp hc with hc | hc
    · exact a.sgn c hc
    · exact b.sgn c hc
theorem Wd.cut {n : Nat} {y : Str} (a : Wd n y) (lo hi : Option Int) : Wd n (cutS y lo hi) :=
  ⟨Nat.le_trans (cutS_length y lo hi) a.len, fun c hc => a.sgn c (List.mem_of_mem_drop (List.mem_of_mem_take hc))⟩
theorem cutS_head (y : Str) {h : Int} (h0 : 0 ≤ h) : (cutS y none (some h)).cps.toList = y.cps.toList.take h.toNat := by
  obtain ⟨k, rfl⟩ := Int.eq_ofNat_of_zero_le h0
  unfold cutS
  rw [HT.sIx_none, HT.sIx_nat, List.drop_zero, Nat.sub_zero, Int.toNat_natCast]
  show y.cps.toList.take (min k y.cps.toList.length) = _
  rw [List.take_eq_take_iff]
  omega
theorem wd_head {y : Str} (a : ∀ c ∈ y.cps.toList, c ∈ abc.cps.toList) {h : Int} (h0 : 0 ≤ h) {m : Nat} (hm : h ≤ m) : Wd m (cutS y none (some h)) := by
  refine ⟨?_, fun c hc => ?_⟩
  · rw [cutS_head y h0, List.length_take]
    omega
  · rw [cutS_head y h0] at hc
    exact a c (List.mem_of_mem_take hc)
theorem wd_lit {z : Str} {n : Nat} (h : decide (z.cps.toList.length ≤ n ∧ ∀ c ∈ z.cps.toList, c ∈ abc.cps.toList) = true) : Wd n z := ⟨(of_decide_eq_true h).1, (of_decide_eq_true h).2⟩
theorem wd_digit {i : Int} (h0 : 0 ≤ i) (h1 : i < 10) : Wd 1 (toString i : String) := by
  obtain ⟨k, rfl⟩ := Int.eq_ofNat_of_zero_le h0
  have a : ∀ k ∈ List.range 10, ((toString (Int.ofNat k) : String) : Str).cps.toList.length ≤ 1 ∧ ∀ c ∈ ((toString (Int.ofNat k) : String) : Str).cps.toList, c ∈ abc.cps.toList := by decide +kernel
  have b := a k (List.mem_range.mpr (by omega))
  exact ⟨b.1, b.2⟩
theorem log_small {i : Int} (h0 : 0 ≤ i) (h1 : i < 1000) : i.natAbs.log2 < 1920 := by
  by_cases e : i.natAbs = 0
  · rw [e]
    decide
  · exact (Nat.log2_lt e).mpr (Nat.lt_of_lt_of_le (by omega : i.natAbs < 2 ^ 10) (Nat.pow_le_pow_right (by decide) (by decide)))
theorem Pot.off {H : Hp} {p q : Addr} (h : Pot H p) (n : H q = none) : q ≠ p := fun e => by
  subst e
  obtain ⟨o, ho⟩ := h.some
  rw [n] at ho
  cases ho
theorem yesT {σ : L2.St} {H : Hp} {Q : Bool → Hp → Prop} (h : Q true H) : tYes σ H Q := h
/-! single signs -/
def sg (c : Nat) : Str := ⟨#[c]⟩
theorem join_sgs : ∀ cs : List Nat, (Str.join ⟨#[]⟩ (cs.map sg)).cps.toList = cs
  | [] => rfl
  | c :: r => by
    rw [List.map_cons, join_nil_cons, str_app, join_sgs r]
    rfl
theorem tjoin_sgs (cs : List Nat) : (Txt.join "" (cs.map sg)).cps.toList = cs := by
  have e : (("" : String) : Str) = ⟨#[]⟩ := by decide +kernel
  show (Builtin.Str.glued _ _).cps.toList = cs
  rw [e, StrLaws.glued_eq_join]
  exact join_sgs cs
theorem sgs_len (cs : List Nat) : ((cs.map sg).map (·.length)).sum = cs.length := by
  induction cs with
  | nil => rfl
  | cons c r ih =>
    rw [List.map_cons, List.map_cons, List.sum_cons, ih]
    show 1 + r.length = r.length + 1
    omega
/-! text * int -/
def rRepS : R2 := fun x y H Q => ∃ z k, x = .str z ∧ y = .int k ∧ 2 ≤ k ∧ k ≤ 1000 ∧ 0 < z.length ∧ z.length ≤ 1000 ∧ ∀ y : Str, y.cps.toList = (List.replicate k.toNat z.cps.toList).flatten → Q (.str y) H
theorem fold_rep (z : Array Nat) : ∀ (k : Nat) (acc : Array Nat), ((List.replicate k z).foldl (· ++ ·) acc).toList = acc.toList ++ (List.replicate k z.toList).flatten
  | 0, acc => by simp
  | k + 1, acc => by
    rw [List.replicate_succ, List.foldl_cons, fold_rep z k, List.replicate_succ, List.flatten_cons, Array.toList_append, List.append_assoc]
theorem op_mul_str {X : Cx} : OpR X (binaryOp .Mult) rRepS := by
  intro pins s σ H x y v u Q I rx ry h
  obtain ⟨z, k, rfl, rfl, k0, k1, z0, z1, q⟩ := h
  obtain ⟨t, rfl⟩ := rx
  obtain ⟨t', rfl⟩ := ry
  have n1 : ¬ k < 1 := by omega
  have n2 : (k == 1 || z.length == 0) = false := by
    rw [Bool.or_eq_false_iff]
    exact ⟨beq_eq_false_iff_ne.mpr (by omega), beq_eq_false_iff_ne.mpr (by omega)⟩
  have m1 : (z.length : Int) * k ≤ 1000 * 1000 := Int.mul_le_mul (by omega) k1 (by omega) (by omega)
  have m2 : z.length * k.toNat ≤ 1000 * 1000 := Nat.mul_le_mul z1 (by omega)
  refine PySem.P.mul_str ?_ (fun _ _ => Int.not_lt.mpr ((Int.le_ediv_iff_mul_le (by omega)).mpr (by omega))) (fun _ _ => decide_eq_false (by rw [sizeLine_eq]; omega)) ?_
  · rw [Bool.or_eq_false_iff]
    exact ⟨decide_eq_false (by omega), decide_eq_false (by omega)⟩
  · rw [if_neg n1, n2, if_neg Bool.false_ne_true]
    have e : ((List.replicate k.toNat z.cps).foldl (· ++ ·) #[]).toList = (List.replicate k.toNat z.cps.toList).flatten := by
      rw [fold_rep]
      rfl
    refine ⟨?_, .str ⟨(List.replicate k.toNat z.cps).foldl (· ++ ·) #[]⟩, H, I.tok _, ⟨_, rfl⟩, q _ e⟩
    show ((List.replicate k.toNat z.cps).foldl (· ++ ·) #[]).size ≤ _
    rw [← Array.length_toList, e, PyProof.Rows.lm_len_rep_flat]
    show k.toNat * z.length ≤ sizeLine
    rw [Nat.mul_comm, sizeLine_eq]
    omega
end Gu
namespace Gu
open PySem PySem.Spec PyProof.Rows L2
theorem Pot.ne {H : Hp} {p q : Addr} (h : Pot H p) (n : H q = none) : q ≠ p := h.off n
end Gu
namespace Gu
open PySem PySem.Spec PyProof.Rows L2
section
variable {P : Program} {w : World} {K : PySem.W.Frag} {mg : Str → Option Value} {base : Heap}
/-! ### _law_stem -/
def spStem : Sp := fun vs H Q _ => ∃ (p : Addr) (m : Int), vs = [.ref p, .int m] ∧ Pot H p ∧ 0 < m ∧ m < 100 ∧ ∀ (y : Str) (G : Hp), Ladled p H G → 0 < y.cps.toList.length → Wd m.toNat y → Q (.str y) G
theorem cal_stem (B : Bi mg) (D : At K mg "_law_stem" s_law_stem ps_law_stem) (C_law_draw : Cal P w K mg base 1 "_law_draw" ps_law_draw spLadle) : Cal P w K mg base 2 "_law_stem" ps_law_stem spStem := by
  refine D.cal sc_law_stem (fun vs H Q E h => ?_) (fun f cdv A outer s H vs Q E hr h => ?_)
  · obtain ⟨p, m, rfl, _⟩ := h
    rfl
  · obtain ⟨p, m, rfl, hp, m0, m1, k⟩ := h
    refine ⟨_, (pss_cons (ps_set (i := 2) sc_law_stem.nd rfl (.inr rfl) pe_str)
      (pss_one (ps_ret (pe_join pe_str (pe_lc (own := [("_law_k", 3)]) (by rfl) sc_law_stem.nd (pi_range1 (by rfl) B.range (pa_cons (pe_op op_add pe_int (pe_own C_law_draw hr (by decide) (by rfl) (pa_cons (pv 0) (pa_cons (pv 1) pa_nil)))) pa_nil)) (blkOk_by (own := [("_law_k", 3)]) (N := ["_law_source_here", "_law_size", "_law_abc", "_law_k"]) (sc := defScope s_law_stem) (by decide +kernel)) (fun _ _ _ _ _ => pg_name (i := 3) sc_law_stem.nd rfl (.inl rfl)) (fun _ _ _ _ _ => pts_nil) (fun _ _ _ _ _ => (pe_ix ix_str (pv 2) (pe_own C_law_draw hr (by decide) (by rfl) (pa_cons (pv 0) (pa_cons pe_int pa_nil))) (fun _ _ => rfl)))))))), ?_⟩
    refine ⟨⟨_, rfl⟩, _, rfl, _, rfl, p, m, rfl, hp, m0, by omega, fun d G1 d0 d1 L1 => ?_⟩
    refine ⟨_, _, rfl, rfl, _, rfl, by omega, by omega, fun M nM => lc_range (lo := 0) (n := (1 + d).toNat) (fun i J => ∃ cs : List Nat, cs.length = i ∧ (∀ c ∈ cs, c ∈ abc.cps.toList) ∧ J M = some (.lst ((cs.map sg).map V.str)) ∧ Ladled p H J)
      ⟨[], rfl, (fun c hc => by cases hc), upd_same, L1.mut (L1.free nM) (L1.pot.off nM)⟩ ?_ ?_⟩
    · rintro i J hi ⟨cs, rfl, hc, eM, L⟩
      have hM : H M = none := L1.free nM
      refine ⟨rfl, yesT (iteT ⟨_, rfl, _, rfl, p, 38, rfl, L.pot, by decide, by decide, fun c G c0 c1 L2 => ?_⟩)⟩
      obtain ⟨v, hv, ha⟩ := at_in (xs := abc.cps.toList) c0 c1
      have gM := L2.keep _ _ eM (hp.off hM)
      refine ⟨abc, c, v, rfl, rfl, by decide +kernel, ha, _, gM, small1000 (by rw [List.length_map, List.length_map]; omega), cs ++ [v], by rw [List.length_append]; rfl, fun x hx => ?_, ?_, (L.trans L2).mut hM (hp.off hM)⟩
      · rcases List.mem_append.mp hx with hx | hx
        · exact hc x hx
        · rw [List.mem_singleton.mp hx]
          exact hv
      · rw [upd_same, List.map_append, List.map_append]
        rfl
    · rintro J ⟨cs, el, hc, eM, L⟩
      refine ⟨_, M, _, rfl, rfl, .inl (.inl (.inl eM)), ?_, k _ J L ?_ ⟨?_, ?_⟩⟩
      · rw [sgs_len, List.length_map]
        have e0 : (("" : String) : Str).length = 0 := by decide +kernel
        rw [e0]
        omega
      · rw [tjoin_sgs]
        omega
      · rw [tjoin_sgs]
        omega
      · rw [tjoin_sgs]
        exact hc
end
end Gu
namespace Gu
open PySem PySem.Spec PyProof.Rows L2
/-! ### _law_numbered -/
def ending (n : Int) : Str := (("~" : String) : Str) ++ ((toString n : String) : Str)
def nbase (w : Int) (t : Str) : Str := cutS t none (some w)
def numbered (so : Str) (w : Int) (t : Str) (n : Int) : Str :=
  if decide (so = ("tight" : String)) && decide (w < ((nbase w t).length : Int) + ((ending n).length : Int)) then cutS (nbase w t) none (some (w - (ending n).length)) ++ ending n else nbase w t ++ ending n
theorem ending_len {n : Int} (h0 : 0 ≤ n) (h1 : n < 10) : (ending n).length ≤ 2 := by
  have a := (wd_digit h0 h1).len
  have e : (ending n).length = 1 + ((toString n : String) : Str).length := by
    show (ending n).cps.toList.length = _
    unfold ending
    rw [str_app, List.length_append]
    rfl
  rw [e]
  show 1 + ((toString n : String) : Str).cps.toList.length ≤ 2
  omega
theorem str_eq_iff {a b : Str} : decide (V.str a = V.str b) = decide (a = b) := by
  by_cases e : a = b
  · rw [decide_eq_true e, decide_eq_true (by rw [e])]
  · rw [decide_eq_false e, decide_eq_false (fun h => e (V.str.inj h))]
end Gu
namespace Gu
open PySem PySem.Spec PyProof.Rows L2
/-! ### names, as the laws tell them -/
/-- the first of f a, f (a + 1), .. that is not taken, f (a + k) at the latest -/
def seek (f : Nat → Str) (ys : List Str) : Nat → Nat → Str
  | 0, a => f a
  | k + 1, a => if f a ∈ ys then seek f ys k (a + 1) else f a
theorem seek_at {f : Nat → Str} {ys : List Str} : ∀ (d k a : Nat), d ≤ k → (∀ j, j < d → f (a + j) ∈ ys) → f (a + d) ∉ ys → seek f ys k a = f (a + d)
  | 0, 0, a, _, _, _ => rfl
  | 0, k + 1, a, _, _, n => by
    unfold seek
    rw [if_neg (show f a ∉ ys from n)]
    rfl
  | d + 1, 0, _, h, _, _ => absurd h (by omega)
  | d + 1, k + 1, a, h, t, n => by
    unfold seek
    rw [if_pos (show f a ∈ ys from t 0 (by omega)), seek_at d k (a + 1) (by omega) (fun j hj => by
      have := t (j + 1) (by omega)
      rw [show a + 1 + j = a + (j + 1) by omega]
      exact this) (by
      rw [show a + 1 + d = a + (d + 1) by omega]
      exact n), show a + 1 + d = a + (d + 1) by omega]
theorem fewer : ∀ (xs ys : List Str), xs.Nodup → (∀ x ∈ xs, x ∈ ys) → xs.length ≤ ys.length
  | [], _, _, _ => Nat.zero_le _
  | x :: xs, ys, hn, h => by
    have hx := h x (List.mem_cons_self ..)
    have hc := List.nodup_cons.mp hn
    have ne : ∀ y ∈ xs, y ≠ x := fun y hy e => by
      subst e
      exact hc.1 hy
    have := fewer xs (ys.erase x) hc.2 fun y hy => (List.mem_erase_of_ne (ne y hy)).mpr (h y (List.mem_cons_of_mem _ hy))
    rw [List.length_erase_of_mem hx] at this
    have := List.length_pos_of_mem hx
    rw [List.length_cons]
    omega
def cand (so : Str) (w : Int) (t : Str) (i : Nat) : Str := numbered so w t (2 + (i : Int))
theorem last_of (a : Str) {n : Int} (h0 : 0 ≤ n) (h1 : n < 10) : (a ++ ending n).cps.toList.getLast? = some (48 + n.toNat) := by
  obtain ⟨k, rfl⟩ := Int.eq_ofNat_of_zero_le h0
  have e : ∀ k ∈ List.range 10, (ending (Int.ofNat k)).cps.toList.getLast? = some (48 + k) := by decide +kernel
  have b := e k (List.mem_range.mpr (by omega))
  rw [str_app, List.getLast?_append, show (Int.toNat ((k : Nat) : Int)) = k from rfl, show (ending ((k : Nat) : Int)).cps.toList.getLast? = some (48 + k) from b]
  rfl
theorem cand_last (so : Str) (w : Int) (t : Str) {i : Nat} (h : i < 8) : (cand so w t i).cps.toList.getLast? = some (50 + i) := by
  have e : 48 + (2 + (i : Int)).toNat = 50 + i := by omega
  unfold cand numbered
  split
  · rw [last_of _ (by omega) (by omega), e]
  · rw [last_of _ (by omega) (by omega), e]
theorem cands_nodup (so : Str) (w : Int) (t : Str) : ∀ n, n ≤ 8 → ((List.range n).map (cand so w t)).Nodup
  | 0, _ => List.nodup_nil
  | n + 1, h => by
    rw [List.range_succ, List.map_append]
    refine List.nodup_append.mpr ⟨cands_nodup so w t n (by omega), List.nodup_cons.mpr ⟨List.not_mem_nil, List.nodup_nil⟩, fun x hx y hy e => ?_⟩
    obtain ⟨i, hi, rfl⟩ := List.mem_map.mp hx
    have hi := List.mem_range.mp hi
    rw [List.mem_singleton.mp hy] at e
    have a := cand_last so w t (i := i) (by omega)
    rw [e, cand_last so w t (i := n) (by omega)] at a
    have := Option.some.inj a
    omega
/-- not all of them are taken -/
theorem some_free {so : Str} {w : Int} {t : Str} {ys : List Str} (h : ys.length ≤ 6) (a : ∀ j, j < ys.length + 1 → cand so w t j ∈ ys) : False := by
  have := fewer _ ys (cands_nodup so w t (ys.length + 1) (by omega)) fun x hx => by
    obtain ⟨i, hi, rfl⟩ := List.mem_map.mp hx
    exact a i (List.mem_range.mp hi)
  rw [List.length_map, List.length_range] at this
  omega
def mates (w : Int) (t : Str) (ps : List (Str × Str)) : List (Str × Str) := ps.filter fun q => decide (nbase w q.1 = nbase w t)
def nameOf (so : Str) (w : Int) (t : Str) (ps : List (Str × Str)) : Str :=
  if so = ("count" : String) then (if (mates w t ps).length = 0 then nbase w t else numbered so w t (((mates w t ps).length : Int) + 1))
  else if nbase w t ∈ ps.map (·.2) then seek (cand so w t) (ps.map (·.2)) (ps.map (·.2)).length 0 else nbase w t
theorem wd_base {n : Nat} {t : Str} (h : Wd n t) (w : Int) : Wd n (nbase w t) := h.cut _ _
theorem wd_numbered {n : Nat} {t : Str} {so : Str} {w k : Int} (h : Wd n t) (h0 : 0 ≤ k) (h1 : k < 10) : Wd (n + 2) (numbered so w t k) := by
  have a : Wd 2 (ending k) := (wd_lit (z := ("~" : String)) (n := 1) (by decide +kernel)).app (wd_digit h0 h1) (by decide)
  unfold numbered
  split
  · exact ((wd_base h w).cut _ _).app a (Nat.le_refl _)
  · exact (wd_base h w).app a (Nat.le_refl _)
theorem wd_seek {n : Nat} {so : Str} {w : Int} {t : Str} {ys : List Str} (h : Wd n t) : ∀ (k a : Nat), a + k < 8 → Wd (n + 2) (seek (cand so w t) ys k a)
  | 0, a, l => wd_numbered h (by omega) (by omega)
  | k + 1, a, l => by
    unfold seek
    split
    · exact wd_seek h k (a + 1) (by omega)
    · exact wd_numbered h (by omega) (by omega)
theorem wd_name {n : Nat} {so : Str} {w : Int} {t : Str} {ps : List (Str × Str)} (h : Wd n t) (l : ps.length ≤ 6) : Wd (n + 2) (nameOf so w t ps) := by
  have m : (mates w t ps).length ≤ ps.length := List.length_filter_le ..
  unfold nameOf
  split
  · split
    · exact (wd_base h w).mono (by omega)
    · exact wd_numbered h (by omega) (by omega)
  · split
    · exact wd_seek h _ _ (by rw [List.length_map]; omega)
    · exact (wd_base h w).mono (by omega)
/-! lists that == looks into -/
theorem shaped_of {ds : List PyData} (h : ∀ d ∈ ds, d.canLay0 = true ∧ d.depth ≤ 10) : SeqAt.shaped (.list ds) = true := by
  have a : ∀ ds : List PyData, (∀ d ∈ ds, d.canLay0 = true ∧ d.depth ≤ 10) → PyData.canLayAll0 ds = true ∧ PyData.depthAll ds ≤ 10 := by
    intro ds
    induction ds with
    | nil => exact fun _ => ⟨rfl, Nat.zero_le _⟩
    | cons d ds ih =>
      intro h
      have b := ih fun e he => h e (List.mem_cons_of_mem _ he)
      have c := h d (List.mem_cons_self ..)
      refine ⟨?_, Nat.max_le.mpr ⟨c.2, b.2⟩⟩
      show (d.canLay0 && PyData.canLayAll0 ds) = true
      rw [c.1, b.1]
      rfl
  have b := a ds h
  unfold SeqAt.shaped
  rw [Bool.and_eq_true]
  refine ⟨b.1, decide_eq_true ?_⟩
  show PyData.depthAll ds + 1 ≤ 64
  omega
theorem wd_lay {n : Nat} {y : Str} (h : Wd n y) : (PyData.str y).canLay0 = true := by
  have a : ∀ c ∈ abc.cps.toList, c < 0x110000 := by decide +kernel
  show y.cps.all _ = true
  rw [← Array.all_toList, List.all_eq_true]
  exact fun c hc => decide_eq_true (a c (h.sgn c hc))
def pdat (q : Str × Str) : PyData := .tuple [.str q.1, .str q.2]
theorem pdat_ok {n : Nat} {q : Str × Str} (a : Wd n q.1) (b : Wd n q.2) : (pdat q).canLay0 = true ∧ (pdat q).depth ≤ 10 := by
  refine ⟨?_, by show 1 ≤ 10; decide⟩
  show ((PyData.str q.1).canLay0 && ((PyData.str q.2).canLay0 && true)) = true
  rw [wd_lay a, wd_lay b]
  rfl
theorem eqv_nil (ds : List PyData) : PyData.eqv (.list ds) (.list []) = decide (ds.length = 0) := by
  cases ds with
  | nil => rfl
  | cons d ds => rfl
end Gu
namespace Gu
open PySem PySem.Spec PyProof.Rows L2
/-! ### _law_name -/
/-- a list of pairs of texts -/
structure PairsAt (H : Hp) (a : Addr) (qs : List (Addr × Str × Str)) : Prop where
  ls : H a = some (.lst (qs.map fun q => V.ref q.1))
  tp : ∀ q ∈ qs, H q.1 = some (.tup [.str q.2.1, .str q.2.2])
theorem PairsAt.same {H G : Hp} {a : Addr} {qs : List (Addr × Str × Str)} (s : Same H G) (h : PairsAt H a qs) : PairsAt G a qs := ⟨s _ _ h.ls, fun q hq => s _ _ (h.tp q hq)⟩
theorem ref_at {qs : List (Addr × Str × Str)} {i : Nat} {v : V} (hi : (qs.map fun q => V.ref q.1)[i]? = some v) : ∃ q, qs[i]? = some q ∧ v = .ref q.1 ∧ q ∈ qs := by
  rw [List.getElem?_map] at hi
  cases e : qs[i]? with
  | none =>
    rw [e] at hi
    cases hi
  | some q =>
    rw [e] at hi
    exact ⟨q, rfl, (Option.some.inj hi).symm, List.mem_of_getElem? e⟩
theorem same_off {H J : Hp} {M : Addr} {o : HO} (s : Same H J) (n : H M = none) : Same H (upd J M o) := fun b x e => by
  rw [upd_ne (ne_of_none e n)]
  exact s b x e
theorem dp_pairs {K : PySem.W.Frag} {H : Hp} : ∀ {qs : List (Addr × Str × Str)}, (∀ q ∈ qs, H q.1 = some (.tup [.str q.2.1, .str q.2.2])) → DpAll K H (qs.map fun q => V.ref q.1) (qs.map fun q => pdat q.2)
  | [], _ => .nil
  | q :: qs, h => .cons (.tup (.inl (.inl (h q (List.mem_cons_self ..)))) (.cons (.str _) (.cons (.str _) .nil))) (dp_pairs fun r hr => h r (List.mem_cons_of_mem _ hr))
theorem mates_len (w : Int) (t : Str) (qs : List (Addr × Str × Str)) : (mates w t (qs.map (·.2))).length = (qs.filter fun q => decide (nbase w q.2.1 = nbase w t)).length := by
  unfold mates
  rw [List.filter_map, List.length_map]
  rfl
theorem in_strs (x : Str) (ys : List Str) : inV (.str x) (ys.map V.str) = decide (x ∈ ys) := by
  unfold inV
  rw [List.any_map]
  by_cases e : x ∈ ys
  · rw [decide_eq_true e, List.any_eq_true]
    exact ⟨x, e, beq_self_eq_true x⟩
  · rw [decide_eq_false e, List.any_eq_false]
    intro y hy h
    have h := eq_of_beq (show (y == x) = true from h)
    exact e (h ▸ hy)
theorem flat_strs (ys : List Str) : (ys.map V.str).all flatV = true := by
  rw [List.all_map, List.all_eq_true]
  exact fun _ _ => rfl
theorem take_next {α : Type} {qs : List α} {i : Nat} {q : α} (h : qs[i]? = some q) : qs.take (i + 1) = qs.take i ++ [q] := by
  rw [List.take_add_one, h]
  rfl
end Gu
namespace Gu
open PySem PySem.Spec PyProof.Rows L2
/-! ### _law_names -/
def pairsOf (so : Str) (w : Int) (ts : List Str) : List (Str × Str) := ts.foldl (fun ps t => ps ++ [(t, nameOf so w t ps)]) []
def namesOf (so : Str) (w : Int) (ts : List Str) : List Str := (pairsOf so w ts).map (·.2)
theorem pairsOf_snoc (so : Str) (w : Int) (ts : List Str) (t : Str) : pairsOf so w (ts ++ [t]) = pairsOf so w ts ++ [(t, nameOf so w t (pairsOf so w ts))] := by
  unfold pairsOf
  rw [List.foldl_append]
  rfl
theorem pairsOf_len (so : Str) (w : Int) (ts : List Str) : (pairsOf so w ts).length = ts.length := by
  have a : ∀ (ts : List Str) (acc : List (Str × Str)), (ts.foldl (fun ps t => ps ++ [(t, nameOf so w t ps)]) acc).length = acc.length + ts.length := by
    intro ts
    induction ts with
    | nil => exact fun _ => rfl
    | cons t ts ih =>
      intro acc
      rw [List.foldl_cons, ih, List.length_append, List.length_cons]
      show acc.length + 1 + ts.length = acc.length + (ts.length + 1)
      omega
  have b := a ts []
  rw [List.length_nil, Nat.zero_add] at b
  exact b
theorem st_same {K : PySem.W.Frag} {H G : Hp} {l : Addr} {xs : List V} (a : Same H G) (h : SqT K H l xs) : SqT K G l xs := by
  rcases h with (h | ⟨o, h⟩) | h
  · exact .inl (.inl (a _ _ h))
  · exact .inl (.inr ⟨o, a _ _ h⟩)
  · exact .inr h
theorem pairs_wd {so : Str} {w : Int} (ts : List Str) (l : ts.length ≤ 7) (h : ∀ t ∈ ts, Wd 200 t) : ∀ q ∈ pairsOf so w ts, Wd 200 q.1 ∧ Wd 202 q.2 := by
  have a : ∀ (ts : List Str) (acc : List (Str × Str)), acc.length + ts.length ≤ 7 → (∀ t ∈ ts, Wd 200 t) → (∀ q ∈ acc, Wd 200 q.1 ∧ Wd 202 q.2) → ∀ q ∈ ts.foldl (fun ps t => ps ++ [(t, nameOf so w t ps)]) acc, Wd 200 q.1 ∧ Wd 202 q.2 := by
    intro ts
    induction ts with
    | nil => exact fun _ _ _ h => h
    | cons t ts ih =>
      intro acc l ht ha
      rw [List.length_cons] at l
      rw [List.foldl_cons]
      refine ih _ (by rw [List.length_append, List.length_singleton]; omega) (fun x hx => ht x (List.mem_cons_of_mem _ hx)) fun q hq => ?_
      rcases List.mem_append.mp hq with hq | hq
      · exact ha q hq
      · rw [List.mem_singleton.mp hq]
        exact ⟨ht t (List.mem_cons_self ..), wd_name (ht t (List.mem_cons_self ..)) (by omega)⟩
  exact a ts [] (by rw [List.length_nil]; omega) h fun q hq => by cases hq
end Gu
namespace Gu
open PySem PySem.Spec PyProof.Rows L2
/-! ### things made by their class -/
structure Mak (P : Program) (w : World) (K : PySem.W.Frag) (mg : Str → Option Value) (base : Heap) (k : Nat) (x : Str) (C : Addr) (sp : Sp) : Prop where
  ex : ∃ (f : Addr) (fd : FuncData) (ps : List Str), Mk K C f ∧ FnOk P w K mg base CX0 k f fd ps sp ∧ mg x = some (.ref C) ∧ Binds K fd ps []
section
variable {X : Cx} {k j : Nat} {x : Str} {C : Addr} {sp : Sp} {p pos : Pos} {e : Expr} {es : List Expr} {t : TA}
theorem pe_new (c : Mak X.prog X.w X.K X.mg X.base k x C sp) (hr : Room j X.A) (hk : k + 1 ≤ j) (hg : Gl X x) (ha : PA X (e :: es) t)
    (hdb : (x == ("__debug__" : Str)) = false := by decide) (he : starEach (e :: es) X.env = (false, eval e X.env) :: starEach es X.env := by rfl) (hpl : (backTo pos (starEach es X.env)).any (·.1) = false := by rfl) :
    PE X (.Call (.Name x p) (e :: es) [] pos) (tMake C sp [] E0 t) := by
  obtain ⟨f, fd, ps, M, F, hm, b⟩ := c.ex
  exact pe_make M F (hr.mono hk) hg hm b .nil pass0 ha hdb he hpl
end
end Gu
namespace Gu
open PySem PySem.Spec PyProof.Rows L2
/-! ### calls by keywords alone -/
structure CalK (P : Program) (w : World) (K : PySem.W.Frag) (mg : Str → Option Value) (base : Heap) (k : Nat) (x : Str) (ks : List Str) (gV : List V → List V) (sp : Sp) : Prop where
  ex : ∃ (f : Addr) (fd : FuncData) (ps : List Str) (g : List Value → List Value), FnOk P w K mg base CX0 k f fd ps sp ∧ mg x = some (.ref f) ∧ PySem.W.keepIn K (.ref f) = true ∧ KBn K fd ps 0 ks (fun _ ws => g ws) (fun _ zs => gV zs)
theorem Cal.kw {P : Program} {w : World} {K : PySem.W.Frag} {mg : Str → Option Value} {base : Heap} {k : Nat} {x : Str} {st : Stmt} {ps ks : List Str} {sp : Sp} (g : {α : Type} → List α → List α) (c : Cal P w K mg base k x ps sp) (D : At K mg x st ps)
    (hv : ∀ {zs : List V} {ws : List Value}, Vals zs ws → Vals (g zs) (g ws))
    (hb : ∀ (kV doc pm : Value) (an : Option Addr) (cdv ct : Value) (ws : List Value), ws.length = ks.length → bindArgs (PySem.W.fnOf x x (defArgs st) (defBody st) (defScope st) .none kV doc pm an cdv ct) ⟨[], ks.zip ws⟩ = pure (ps.zip (g ws))) : CalK P w K mg base k x ks g sp := by
  obtain ⟨f, fd, F, hm, kp, b, oc, od, sl, lk⟩ := c.ex
  obtain ⟨f2, fd2, F2, b2, hm2⟩ := D.ex
  cases hm.symm.trans hm2
  obtain ⟨oc2, od2, kV, doc, pm, an, cdv, ct, sl2, e, lk2, hcd⟩ := F2.ex
  cases lk.symm.trans lk2
  refine ⟨f, fd, ps, g, F, hm, kp, ⟨fun s us ws I l1 l2 => ?_, fun _ r => hv r⟩⟩
  cases us with
  | nil =>
    rw [e]
    exact BindsTo.of_eq (hb kV doc pm an cdv ct ws l2)
  | cons u r => cases l1
def tKw (m : Nat) (gV : List V → List V) (sp : Sp) (tk : TA) : TE := fun σ H Q => tk σ H fun zs G => zs.length = m ∧ sp (gV zs) G Q E0
section
variable {X : Cx} {k j : Nat} {x : Str} {ks : List Str} {gV : List V → List V} {sp : Sp} {p pos : Pos} {kws : List Keyword} {tk : TA}
theorem pe_kw (c : CalK X.prog X.w X.K X.mg X.base k x ks gV sp) (hr : Room j X.A) (hk : k ≤ j) (hg : Gl X x) (hkw : PK X kws tk) (hall : (backToKw pos (keywordEach kws X.env)).all (·.1.isSome) = true := by rfl)
    (hks : (backToKw pos (keywordEach kws X.env)).filterMap (·.1) = ks := by rfl) (hdb : (x == ("__debug__" : Str)) = false := by decide)
    (hpl : ((backTo pos (starEach [] X.env)).any (·.1) || (backToKw pos (keywordEach kws X.env)).any (·.1.isNone)) = false := by rfl) : PE X (.Call (.Name x p) [] kws pos) (tKw ks.length gV sp tk) := by
  obtain ⟨f, fd, ps, g, F, hm, kp, b⟩ := c.ex
  refine ⟨fun pins s σ H Q I h => ?_⟩
  refine wpAny_Call_Name_kw (ld_glob I hg hm ?_ hdb)
  refine PySem.W.callWith_KW0 (h₀ := X.base) I.ok.mod.kin kp hall ?_ hpl
  refine thn (hkw.run pos pins s σ H _ I h) fun ws s2 ⟨zs, G, I2, rz, l2, q2⟩ => ⟨I2.kIn, ?_⟩
  rw [hks]
  exact run_fnN (us := []) (vs := []) F (hr.mono hk) b pass0 I2 .nil rz rfl l2 q2
end
def swap2 {α : Type} : List α → List α
  | [a, b] => [b, a]
  | l => l
theorem swap2_vals {zs : List V} {ws : List Value} (r : Vals zs ws) : Vals (swap2 zs) (swap2 ws) := by
  cases r with
  | nil => exact .nil
  | cons a r =>
    cases r with
    | nil => exact .cons a .nil
    | cons b r =>
      cases r with
      | nil => exact .cons b (.cons a .nil)
      | cons c r => exact .cons a (.cons b (.cons c r))
theorem str_ext {a b : Str} (h : a.cps.toList = b.cps.toList) : a = b := by
  cases a
  cases b
  exact congrArg Str.mk (Array.ext' h)
end Gu
namespace Gu
open PySem PySem.Spec PyProof.Rows L2
/-! ### defs that are called where no container is being written out -/
structure FnG (P : Program) (w : World) (K : PySem.W.Frag) (mg : Str → Option Value) (base : Heap) (k : Nat) (f : Addr) (fd : FuncData) (ps : List Str) (sp : Sp) : Prop where
  len : ∀ vs H Q E, sp vs H Q E → vs.length = ps.length
  run : ∀ (A : Around) (outer : List Env) (s : Shared) (H : Hp) (args : Args) (us : List Value) (vs : List V) (Q : VK) (E : XK), Room k A → A.guards = some [] → Env0 P w K mg base A outer s H → BindsTo s fd args (ps.zip us) → Vals vs us → sp vs H Q E →
    codeAny (model P w) A (.call (.ref f) args) (CR CX0 outer P w H s Q E) s
section
variable {P : Program} {w : World} {K : PySem.W.Frag} {mg : Str → Option Value} {base : Heap}
theorem okG {x qual : Str} {st : Stmt} {f : Addr} {fd : FuncData} {N ps : List Str} {k : Nat} {sp : Sp} (F : Fun K x qual st f fd) (S : FnScope N ps (defScope st)) (len : ∀ vs H Q E, sp vs H Q E → vs.length = ps.length)
    (body : ∀ (cdv : Value) (A : Around) (outer : List Env) (s : Shared) (H : Hp) (vs : List V) (Q : VK) (E : XK), Room k (A.deeper (envOfC qual (defScope st) s.heap.objs.size f cdv)) → A.guards = some [] → sp vs H Q E →
      ∃ t, PSs (cxOf CX0 P w K mg base N qual (defScope st) f cdv A outer s H E).nox (defBody st) t ∧ t { nx := fun _ G => Q .non G, rt := Q } (start N vs) H) : FnG P w K mg base (k + 1) f fd ps sp := by
  obtain ⟨oc, od, kV, doc, pm, an, cdv, ct, osl, rfl, lk, hcd⟩ := F.ex
  refine ⟨len, fun A outer s H args us vs Q E room quiet env binds rel want => ?_⟩
  have stays : ∀ b o, base.get? b = some o → s.heap.get? b = some o := fun b o e => (env.bs b o e).1
  have inK : K.In s.heap := env.mod.kin.keeps stays
  have free : s.heap.NoLimit := env.mod.nolimit.keeps stays
  refine codeAny_call_function room.depth (inK _ _ lk) rfl S.co S.gen rfl (PySem.W.codeRec_of inK hcd) (binds _ _ _ _ ?_)
  refine wpAny_newFunctionEnv_cells S.kind (fun ⟨n, v⟩ hy => (S.par n (List.of_mem_zip hy).1).imp id fun q => ⟨q, PySem.W.cellsFrom_some _ _ _ (.inl q)⟩) fun env1 e1 s1 c1 => ?_
  subst e1
  refine ⟨free.keeps c1.toInCall.keep, codeAny_func ?_⟩
  obtain ⟨t, d, q⟩ := body cdv A outer s H vs Q E (room.deeper _) quiet want
  refine wpAny_mono (d.nox.run [] s1 (start N vs) H _ (inv_start S room.hd env (len _ _ _ _ want) rel c1) q) (fun fl s2 h2 => ?_) fun e s2 h2 => h2
  cases fl with
  | ret u =>
    obtain ⟨v, σ2, G, J, rv, r⟩ := h2
    exact ⟨v, G, J.os, J.bare, J.base, J.hok, rv, r⟩
  | next =>
    obtain ⟨σ2, G, J, r⟩ := h2
    exact ⟨V.non, G, J.os, J.bare, J.base, J.hok, rfl, r⟩
  | brk => exact (h2.choose_spec.choose_spec.2 : False).elim
  | cont => exact (h2.choose_spec.choose_spec.2 : False).elim
structure CalG (P : Program) (w : World) (K : PySem.W.Frag) (mg : Str → Option Value) (base : Heap) (k : Nat) (x : Str) (ps : List Str) (sp : Sp) : Prop where
  ex : ∃ (f : Addr) (fd : FuncData), FnG P w K mg base k f fd ps sp ∧ mg x = some (.ref f) ∧ PySem.W.keepIn K (.ref f) = true ∧ Binds K fd ps []
theorem At.calG {x : Str} {st : Stmt} {N ps : List Str} {k : Nat} {sp : Sp} (D : At K mg x st ps) (S : FnScope N ps (defScope st)) (len : ∀ vs H Q E, sp vs H Q E → vs.length = ps.length)
    (body : ∀ (f : Addr) (cdv : Value) (A : Around) (outer : List Env) (s : Shared) (H : Hp) (vs : List V) (Q : VK) (E : XK), Room k (A.deeper (envOfC x (defScope st) s.heap.objs.size f cdv)) → A.guards = some [] → sp vs H Q E →
      ∃ t, PSs (cxOf CX0 P w K mg base N x (defScope st) f cdv A outer s H E).nox (defBody st) t ∧ t { nx := fun _ G => Q .non G, rt := Q } (start N vs) H) : CalG P w K mg base (k + 1) x ps sp := by
  obtain ⟨f, fd, F, b, g⟩ := D.ex
  exact ⟨f, fd, okG F S len (body f), g, F.kp, b⟩
end
def tCallG (sp : Sp) (t : TA) : TE := fun σ H Q => t σ H fun vs G => sp vs G Q E0
section
variable {X : Cx} {k j : Nat} {x : Str} {ps : List Str} {sp : Sp} {p pos : Pos} {e : Expr} {es : List Expr} {t : TA}
theorem pe_ownG (c : CalG X.prog X.w X.K X.mg X.base k x ps sp) (hr : Room j X.A) (hk : k ≤ j) (quiet : X.A.guards = some []) (hg : Gl X x) (ha : PA X (e :: es) t)
    (hdb : (x == ("__debug__" : Str)) = false := by decide) (he : starEach (e :: es) X.env = (false, eval e X.env) :: starEach es X.env := by rfl) (hpl : (backTo pos (starEach es X.env)).any (·.1) = false := by rfl) :
    PE X (.Call (.Name x p) (e :: es) [] pos) (tCallG sp t) := by
  obtain ⟨f, fd, F, hm, kp, b⟩ := c.ex
  refine ⟨fun pins s σ H Q I h => wpAny_Call_Name_kw (ld_glob I hg hm (PySem.W.callWith_K (h₀ := X.base) I.ok.mod.kin kp (thn (ha.run pos pins s σ H _ I h) fun us s1 ⟨vs, G, I1, r, q⟩ => ⟨I1.kIn, ?_⟩) he hpl) hdb)⟩
  have ll : (us ++ []).length = ps.length := by
    rw [List.append_nil, ← r.length]
    exact F.len _ _ _ _ q
  have bt := b s1 us I1.kIn ll
  rw [List.append_nil] at bt
  refine wpAny_call (codeAny_mono (F.run X.A X.stack s1 G ⟨us, []⟩ us vs Q E0 (hr.mono hk) quiet I1.env0 bt r q) fun rr s2 h2 => ?_)
  cases rr with
  | error e => exact (h2 : False).elim
  | ok fl =>
    cases fl with
    | ret u => exact I1.after h2
    | next => exact (h2 : False).elim
    | brk => exact (h2 : False).elim
    | cont => exact (h2 : False).elim
end
end Gu
namespace Gu
open PySem PySem.Spec PyProof.Rows L2
/-- a heap in which nothing is tracked but, at most, the script at a, which stands still there -/
theorem quiet_end {P : Program} {w : World} {K : PySem.W.Frag} {mg mb : Str → Option Value} {k : Nat} {fa a : Addr} {fd : FuncData} {x : Str} {sp : Sp} {s : Shared} {us : List Value} {H : Hp} (inK : K.In s.heap) (nsG : s.heap.Ns mainGlobals mg) (nsB : s.heap.Ns builtinsNs mb)
    (bb : ∀ x : Str, x ≠ "__name__" → mb x = bootBuiltins x) (nl : s.heap.NoLimit) (ng : s.gens = #[]) (at_a : s.heap.get? a = some { cls := .type "list", data := .seq us.toArray }) (room : Room k callerA)
    (F : ∀ base : Heap, K.In base → base.Ns mainGlobals mg → FnG P w K mg base k fa fd [x] sp) (bind : ∀ (s : Shared) (u : Value), BindsTo s fd ⟨[u], []⟩ [(x, u)]) (want : sp [.ref a] H (fun v _ => v = .bl true) fun _ _ _ => False)
    (only : Only H) (ok : HOk P w H s.heap) (one : ∀ b, H b ≠ none → b = a ∧ K.lookup a = none) :
    codeAny (model P w) callerA (.call (.ref fa) ⟨[.ref a], []⟩) (fun r s2 => r = .ok (.ret (.bool true)) ∧ OldK s.heap s2.heap ∧ s2.os = s.os ∧ AllBare s2.gens) s := by
  have dictFree : ∀ (b : Addr) (o : Obj) (es : Array DictEntry) (ep : Nat), s.heap.get? b = some o → o.data = .dict es ep → H b = none := fun b o es ep e d =>
    Classical.byContradiction fun z => by
      have hb := (one b z).1
      rw [hb, at_a] at e
      cases e
      exact Data.noConfusion d
  have hiddenNs : ∀ (b : Addr) (m : Str → Option Value), s.heap.Ns b m → (hidT s.heap H).Ns b m := fun b m h => by
    obtain ⟨o, es, ep, e, d, r⟩ := h
    exact ⟨o, es, ep, hidT_get e (dictFree b o es ep e d), d, r⟩
  have hiddenK : K.In (hidT s.heap H) := fun b o e => hidT_get (inK b o e) (Classical.byContradiction fun z => by
    obtain ⟨h1, h2⟩ := one b z
    rw [h1, h2] at e
    cases e)
  have env : Env0 P w K mg (hidT s.heap H) callerA [] s H := by
    refine ⟨rfl, ⟨hiddenK, hiddenNs _ _ nsG, ⟨mb, hiddenNs _ _ nsB, bb⟩, ?_⟩, fun b o e => of_hidT e, Nat.le_of_eq (hidT_size _ _), trivial, fun b hb => absurd (show b ∈ ([] : List Addr) from hb) List.not_mem_nil, ok, .of_eq ng⟩
    obtain ⟨mc, h1, h2⟩ := nl
    exact ⟨mc, hiddenNs _ _ h1, h2⟩
  refine codeAny_mono ((F _ hiddenK (hiddenNs _ _ nsG)).run callerA [] s H ⟨[.ref a], []⟩ [.ref a] [.ref a] _ _ room rfl env (bind s (.ref a)) (.cons rfl .nil) want) fun r s2 h2 => ?_
  cases r with
  | error e => exact (h2 : False).elim
  | ok fl =>
    cases fl with
    | next => exact (h2 : False).elim
    | brk => exact (h2 : False).elim
    | cont => exact (h2 : False).elim
    | ret u =>
      obtain ⟨v, G, os, bare, un, ok2, rv, hv⟩ := h2
      cases (show v = .bl true from hv)
      cases (show u = Value.bool true from rv)
      refine ⟨rfl, OldK.of_keep fun b o e => ?_, os, bare⟩
      rcases only b with z | ⟨ob, xs, z⟩
      · exact un.keep b o e z (fun y => absurd (show b ∈ ([] : List Addr) from y) List.not_mem_nil) (by simp)
      · have e1 := (ok b _ z).1
        have e2 := (ok2 b _ (un.frzs b ob _ z)).1
        rw [e] at e1
        cases e1
        exact e2
/-- the law's call, by its promise -/
theorem quiet_call {P : Program} {w : World} {K : PySem.W.Frag} {mg mb : Str → Option Value} {k : Nat} {fa a : Addr} {fd : FuncData} {x : Str} {sp : Sp} {s : Shared} {us : List Value} {ns : List Int} (inK : K.In s.heap) (nsG : s.heap.Ns mainGlobals mg) (nsB : s.heap.Ns builtinsNs mb)
    (bb : ∀ x : Str, x ≠ "__name__" → mb x = bootBuiltins x) (nl : s.heap.NoLimit) (ng : s.gens = #[]) (at_a : s.heap.get? a = some { cls := .type "list", data := .seq us.toArray }) (nums : IntsAre us ns) (small : ns.length ≤ sizeLine) (room : Room k callerA)
    (F : ∀ base : Heap, K.In base → base.Ns mainGlobals mg → FnG P w K mg base k fa fd [x] sp) (bind : ∀ (s : Shared) (u : Value), BindsTo s fd ⟨[u], []⟩ [(x, u)])
    (want : ∀ H : Hp, SqL K H a (ns.map V.int) → sp [.ref a] H (fun v _ => v = .bl true) fun _ _ _ => False) :
    codeAny (model P w) callerA (.call (.ref fa) ⟨[.ref a], []⟩) (fun r s2 => r = .ok (.ret (.bool true)) ∧ OldK s.heap s2.heap ∧ s2.os = s.os ∧ AllBare s2.gens) s := by
  have rel := vals_ints nums
  cases hk : K.lookup a with
  | some o =>
    have e := inK a o hk
    rw [at_a] at e
    cases e
    refine quiet_end (H := fun _ => none) inK nsG nsB bb nl ng at_a room F bind (want _ (.inr ⟨_, us.toArray, _, hk, rfl, rfl, rfl, ?_, rel⟩)) (fun _ => .inl rfl) (fun b u z => nomatch (show (none : Option HO) = some u from z)) fun b z => absurd rfl z
    rw [List.size_toArray, nums.length]
    exact small
  | none =>
    refine quiet_end (H := upd (fun _ => none) a (.frz { cls := .type "list", data := .seq us.toArray } (.lst (ns.map V.int)))) inK nsG nsB bb nl ng at_a room F bind (want _ (.inl (.inr ⟨_, upd_same⟩))) (fun b => ?_) (fun b u z => ?_) fun b z => ?_
    · by_cases hb : b = a
      · exact .inr ⟨_, _, by rw [hb]; exact upd_same⟩
      · exact .inl (upd_ne hb)
    · by_cases hb : b = a
      · subst hb
        rw [upd_same] at z
        cases z
        exact ⟨at_a, by rw [List.length_map]; exact small, us, _, rel, at_a⟩
      · rw [upd_ne hb] at z
        cases z
    · by_cases hb : b = a
      · exact ⟨hb, hk⟩
      · exact absurd (upd_ne hb) z
theorem walkG {l : PySem.W.OpenLaw} {n k : Nat} {q : Program} {loose : List Str} {XP : (Str → Option Value) → Heap → Prop} {YP : World → Heap → Prop} {d : DefRec} {K : Params → PySem.W.Frag} {x : Str} {sp : PySem.W.Frag → Sp} (most : l.most = some n) (small : n ≤ sizeLine) (plain : d.params.defaults = []) (room : Room k callerA)
    (left : ∀ (w : World) (h : Heap), YP w h → (K w.params).In h)
    (F : ∀ (w : World) (mg : Str → Option Value) (fa : Addr) (h : Heap), (K w.params).In h → h.Ns mainGlobals mg → mg d.name = some (.ref fa) → ∃ fd : FuncData, (∀ (s : Shared) (u : Value), BindsTo s fd ⟨[u], []⟩ [(x, u)]) ∧
      ∀ base : Heap, (K w.params).In base → base.Ns mainGlobals mg → FnG l.prog w (K w.params) mg base k fa fd [x] (sp (K w.params)))
    (want : ∀ (w : World) (H : Hp) (a : Addr) (ns : List Int), ns.length ≤ n → SqL (K w.params) H a (ns.map V.int) → sp (K w.params) [.ref a] H (fun v _ => v = .bl true) fun _ _ _ => False) :
    PySem.W.WalkO q loose XP YP l.row.toRowW d [] (fun f vs => PySem.call f vs) := by
  refine Att.attach_call most plain fun w s0 s mg mb fa o pm cd doc a us ns G Y ho hd hcd hmg at_a nums le ng => ?_
  obtain ⟨fd, bind, fn⟩ := F w mg fa _ (left w _ Y) G.T.g hmg
  exact quiet_call (left w _ Y) G.T.g G.T.b G.T.builtins G.T.nolimit ng at_a nums (Nat.le_trans le small) room fn bind fun H hS => want w H a ns le hS
end Gu
namespace Gu
open PySem PySem.Spec PyProof.Rows L2
/-! ### what can be written out -/
structure Fine (n W : Nat) (d : PyData) : Prop where
  nd : d.hasDict = false
  sh : d.showable = true
  ls : d.leavesShort 80 = true
  dp : d.depth ≤ n
  wt : d.weight ≤ W
structure FineAll (n W : Nat) (ds : List PyData) : Prop where
  nd : PyData.hasDictAll ds = false
  sh : PyData.showableAll ds = true
  ls : PyData.leavesShortAll 80 ds = true
  dp : PyData.depthAll ds ≤ n
  wt : PyData.weightAll ds ≤ ds.length * (W + 1)
theorem FineAll.of {n W : Nat} : ∀ {ds : List PyData}, (∀ d ∈ ds, Fine n W d) → FineAll n W ds
  | [], _ => ⟨rfl, rfl, rfl, Nat.zero_le _, Nat.zero_le _⟩
  | d :: ds, h => by
    have a := h d (List.mem_cons_self ..)
    have b := FineAll.of (ds := ds) fun e he => h e (List.mem_cons_of_mem _ he)
    refine ⟨?_, ?_, ?_, Nat.max_le.mpr ⟨a.dp, b.dp⟩, ?_⟩
    · show (d.hasDict || PyData.hasDictAll ds) = false
      rw [a.nd, b.nd]
      rfl
    · show (d.showable && PyData.showableAll ds) = true
      rw [a.sh, b.sh]
      rfl
    · show (d.leavesShort 80 && PyData.leavesShortAll 80 ds) = true
      rw [a.ls, b.ls]
      rfl
    · show d.weight + 1 + PyData.weightAll ds ≤ (ds.length + 1) * (W + 1)
      have := a.wt
      have := b.wt
      rw [Nat.succ_mul]
      omega
theorem FineAll.list {n W : Nat} {ds : List PyData} (a : FineAll n W ds) : Fine (n + 1) (ds.length * (W + 1)) (.list ds) := ⟨a.nd, a.sh, a.ls, Nat.succ_le_succ a.dp, a.wt⟩
theorem FineAll.tup {n W : Nat} {ds : List PyData} (a : FineAll n W ds) : Fine (n + 1) (ds.length * (W + 1)) (.tuple ds) := ⟨a.nd, a.sh, a.ls, Nat.succ_le_succ a.dp, a.wt⟩
theorem Fine.mono {n m W Z : Nat} {d : PyData} (h : Fine n W d) (a : n ≤ m) (b : W ≤ Z) : Fine m Z d := ⟨h.nd, h.sh, h.ls, Nat.le_trans h.dp a, Nat.le_trans h.wt b⟩
theorem Fine.bool (b : Bool) : Fine 0 0 (.bool b) := ⟨rfl, rfl, rfl, Nat.le_refl _, Nat.le_refl _⟩
theorem Fine.none : Fine 0 0 .none := ⟨rfl, rfl, rfl, Nat.le_refl _, Nat.le_refl _⟩
theorem Fine.int {i : Int} (h : i.natAbs < 2 ^ 70) : Fine 0 70 (.int i) := by
  have l : i.natAbs.log2 < 70 := PySem.Flt.log2_lt_of (by decide) h
  refine ⟨rfl, decide_eq_true (by omega), decide_eq_true ?_, Nat.le_refl _, ?_⟩
  · have e := int_text_length_le (a := i) (k := 70) (by decide) l
    show (Str.ofString (toString i)).length ≤ 80
    rw [PySem.ofString_length]
    omega
  · show (if i == 0 then 0 else i.natAbs.log2 + 1) ≤ 70
    split <;> omega
theorem Fine.str {z : Str} {W : Nat} (h : ∀ c ∈ z.cps.toList, c < 16 ^ 8) (w : z.cps.toList.length ≤ W) : Fine 0 W (.str z) := by
  refine ⟨rfl, rfl, ?_, Nat.le_refl _, w⟩
  show (z.cps.toList.all fun c => decide (c < 16 ^ 8)) = true
  rw [List.all_eq_true]
  exact fun c hc => decide_eq_true (h c hc)
theorem Fine.fits {d : PyData} (h : Fine 60 100000 d) : d.shown.length ≤ sizeLine := by
  have a := PyData.shown_le 80 (by decide) d h.ls
  have b := h.wt
  have c : (80 + 2) * d.weight ≤ 82 * 100000 := Nat.mul_le_mul_left _ b
  have e : sizeLine = 16777216 := by decide
  omega
section
variable {X : Cx}
/-- repr of a list or tuple, where none is being written out -/
theorem call_reprD (quiet : X.A.guards = some []) (hu : X.A.units + 64 < cLine) : CallR X (.builtin "repr") (fun xs H Q => ∃ (a : Addr) (d : PyData), xs = [.ref a] ∧ Dp X.K H (.ref a) d ∧ Fine 60 100000 d ∧ Q (.str d.shown) H) := by
  intro pins s σ H xs us Q I r h
  obtain ⟨a, d, rfl, hd, fine, q⟩ := h
  cases r with
  | cons r rr =>
    cases rr
    cases (show _ = Value.ref a from r)
    obtain ⟨as, rd⟩ := Dp.reads I d (.ref a) (.ref a) hd rfl
    have dp := fine.dp
    exact repr_of_reads' rd fine.sh (PyData.noDict_hsm fine.nd) quiet (by omega) (fun _ _ e => e) (fun g u tk keep => ⟨.str d.shown, H, I.kept (t' := tk) keep, ⟨_, rfl⟩, q⟩) fine.fits
end
end Gu
namespace Gu
open PySem PySem.Spec PyProof.Rows L2
def spRight : Sp := fun vs H Q _ => ∃ (p : Addr), vs = [.ref p] ∧ Pot H p ∧ ∀ G, Ladled p H G → Q (.bl true) G
end Gu
namespace Gu
open PySem PySem.Spec PyProof.Rows L2
def sorts : List Str := ["count", "free", "tight"]
section
variable {P : Program} {w : World} {K : PySem.W.Frag} {mg : Str → Option Value} {base : Heap} {C : Addr}
/-- Namer.__init__, Nm: what stands at a namer -/
def spNInit (C : Addr) (Nm : Hp → Addr → Str → Int → Prop) : Sp := fun vs H Q _ => ∃ (x dx : Addr) (so : Str) (w : Int), vs = [.ref x, .str so, .int w] ∧ H x = some (.ins C dx []) ∧ so ∈ sorts ∧ 6 ≤ w ∧ w ≤ 40 ∧
  ∀ (G : Hp), Nm G x so w → (∀ c o, H c = some o → c ≠ x → G c = some o) → Q .non G
def spNamesP (K : PySem.W.Frag) (Nm : Hp → Addr → Str → Int → Prop) : Sp := fun vs H Q _ => ∃ (x l : Addr) (so : Str) (w : Int) (ts : List Str), vs = [.ref x, .ref l] ∧ Nm H x so w ∧ so ∈ sorts ∧ 6 ≤ w ∧ w ≤ 40 ∧ SqT K H l (ts.map V.str) ∧ ts.length ≤ 6 ∧ (∀ t ∈ ts, Wd 200 t) ∧
  ∀ (p : Addr) (G : Hp), SqT K G p ((namesOf so w ts).map V.str) → Same H G → Q (.ref p) G
theorem names_wd {so : Str} {w : Int} {ts : List Str} (l : ts.length ≤ 6) (h : ∀ t ∈ ts, Wd 200 t) : ∀ y ∈ namesOf so w ts, Wd 202 y := fun y hy => by
  obtain ⟨q, hq, rfl⟩ := List.mem_map.mp hy
  exact (pairs_wd ts (by omega) h q hq).2
theorem names_len (so : Str) (w : Int) (ts : List Str) : (namesOf so w ts).length = ts.length := by
  unfold namesOf
  rw [List.length_map, pairsOf_len]
theorem dp_strs {K : PySem.W.Frag} {H : Hp} : ∀ ys : List Str, DpAll K H (ys.map V.str) (ys.map PyData.str)
  | [] => .nil
  | y :: ys => .cons (.str y) (dp_strs ys)
theorem fine_strs {ys : List Str} (l : ys.length ≤ 100) (h : ∀ y ∈ ys, Wd 300 y) : Fine 60 100000 (.tuple (ys.map PyData.str)) := by
  have a : ∀ c ∈ abc.cps.toList, c < 16 ^ 8 := by decide +kernel
  have b : FineAll 0 300 (ys.map PyData.str) := FineAll.of fun d hd => by
    obtain ⟨y, hy, rfl⟩ := List.mem_map.mp hd
    exact Fine.str (fun c hc => a c ((h y hy).sgn c hc)) (h y hy).len
  refine b.tup.mono (by decide) ?_
  rw [List.length_map]
  have := Nat.mul_le_mul_right (300 + 1) l
  omega
/-! names are short -/
theorem wd_num {m : Nat} {so t : Str} {w k : Int} (h : Wd m (nbase w t)) (h0 : 0 ≤ k) (h1 : k < 10) : Wd (m + 2) (numbered so w t k) := by
  have a : Wd 2 (ending k) := (wd_lit (z := ("~" : String)) (n := 1) (by decide +kernel)).app (wd_digit h0 h1) (by decide)
  unfold numbered
  split
  · exact (h.cut _ _).app a (Nat.le_refl _)
  · exact h.app a (Nat.le_refl _)
theorem short_seek {m : Nat} {so t : Str} {w : Int} {ys : List Str} (h : Wd m (nbase w t)) : ∀ (k a : Nat), a + k < 8 → Wd (m + 2) (seek (cand so w t) ys k a)
  | 0, a, l => wd_num h (by omega) (by omega)
  | k + 1, a, l => by
    unfold seek
    split
    · exact short_seek h k (a + 1) (by omega)
    · exact wd_num h (by omega) (by omega)
theorem short_name {n : Nat} {so t : Str} {w : Int} {ps : List (Str × Str)} (h : Wd n t) (w0 : 0 ≤ w) (w1 : w ≤ 40) (l : ps.length ≤ 6) : Wd 42 (nameOf so w t ps) := by
  have b : Wd 40 (nbase w t) := wd_head h.sgn w0 (by omega)
  have m : (mates w t ps).length ≤ ps.length := List.length_filter_le ..
  unfold nameOf
  split
  · split
    · exact b.mono (by decide)
    · exact wd_num b (by omega) (by omega)
  · split
    · exact short_seek b _ _ (by rw [List.length_map]; omega)
    · exact b.mono (by decide)
theorem pairs_are {so : Str} {w : Int} (ts : List Str) (l : ts.length ≤ 7) : ∀ q ∈ pairsOf so w ts, ∃ ps : List (Str × Str), q.1 ∈ ts ∧ ps.length ≤ 6 ∧ q.2 = nameOf so w q.1 ps := by
  have a : ∀ (ts : List Str) (acc : List (Str × Str)) (all : List Str), acc.length + ts.length ≤ 7 → (∀ t ∈ ts, t ∈ all) → (∀ q ∈ acc, ∃ ps : List (Str × Str), q.1 ∈ all ∧ ps.length ≤ 6 ∧ q.2 = nameOf so w q.1 ps) → ∀ q ∈ ts.foldl (fun ps t => ps ++ [(t, nameOf so w t ps)]) acc, ∃ ps : List (Str × Str), q.1 ∈ all ∧ ps.length ≤ 6 ∧ q.2 = nameOf so w q.1 ps := by
    intro ts
    induction ts with
    | nil => exact fun _ _ _ _ h => h
    | cons t ts ih =>
      intro acc all l ht ha
      rw [List.length_cons] at l
      rw [List.foldl_cons]
      refine ih _ all (by rw [List.length_append, List.length_singleton]; omega) (fun x hx => ht x (List.mem_cons_of_mem _ hx)) fun q hq => ?_
      rcases List.mem_append.mp hq with hq | hq
      · exact ha q hq
      · rw [List.mem_singleton.mp hq]
        exact ⟨acc, ht t (List.mem_cons_self ..), by omega, rfl⟩
  exact a ts [] ts (by rw [List.length_nil]; omega) (fun _ h => h) fun q hq => by cases hq
theorem names_short {so : Str} {w : Int} {ts : List Str} (l : ts.length ≤ 6) (h : ∀ t ∈ ts, Wd 200 t) (w0 : 0 ≤ w) (w1 : w ≤ 40) : ∀ y ∈ namesOf so w ts, Wd 42 y := fun y hy => by
  obtain ⟨q, hq, rfl⟩ := List.mem_map.mp hy
  obtain ⟨ps, h1, h2, h3⟩ := pairs_are ts (by omega) q hq
  rw [h3]
  exact short_name (h _ h1) w0 w1 h2
end
end Gu
namespace Gu
open PySem PySem.Spec PyProof.Rows L2
theorem yes {σ : L2.St} {H : Hp} {Q : Bool → Hp → Prop} (h : Q true H) : tYes σ H Q := h
end Gu
namespace Gu
open PySem PySem.Spec PyProof.Rows L2
/-! ### is_integer, is_text -/
/-- isinstance(x, T) is b -/
def Isa (K : PySem.W.Frag) (H : Hp) (x : V) (T : String) (b : Bool) : Prop := ∃ t, TyX K H x t ∧ PySem.W.kitOne K t (.type T) = some b
def signs : Str := ".0123456789abcdefghijklmnopqrstuvwxyz~"
def isTxt (z : Str) (m : Int) : Bool := decide ((z.length : Int) ≤ m) && z.cps.toList.all fun c => decide (c ∈ signs.cps.toList)
section
variable {P : Program} {w : World} {K : PySem.W.Frag} {mg : Str → Option Value} {base : Heap}
theorem Isa.int_int {H : Hp} {i : Int} : Isa K H (.int i) "int" true := ⟨_, .base (.int i), kit_ty (by decide +kernel)⟩
theorem Isa.int_bool {H : Hp} {i : Int} : Isa K H (.int i) "bool" false := ⟨_, .base (.int i), kit_ty (by decide +kernel)⟩
theorem Isa.str_str {H : Hp} {z : Str} : Isa K H (.str z) "str" true := ⟨_, .base (.str z), kit_ty (by decide +kernel)⟩
def spIsInteger (K : PySem.W.Frag) : Sp := fun vs H Q _ => ∃ (x : V) (a b : Int), vs = [x, .int a, .int b] ∧
  ((∃ v, x = .int v ∧ Q (.bl (decide (a ≤ v ∧ v ≤ b))) H) ∨ (Isa K H x "int" false ∧ Q (.bl false) H) ∨ (Isa K H x "int" true ∧ Isa K H x "bool" true ∧ Q (.bl false) H))
theorem cal_isInteger (B : Bi mg) (D : At K mg "is_integer" s_is_integer ps_is_integer) : Cal P w K mg base 1 "is_integer" ps_is_integer (spIsInteger K) := by
  refine D.cal sc_is_integer (fun vs H Q E h => ?_) (fun f cdv A outer s H vs Q E hr h => ?_)
  · obtain ⟨x, a, b, rfl, _⟩ := h
    rfl
  · obtain ⟨x, a, b, rfl, h⟩ := h
    refine ⟨_, (pss_cons (ps_if (PW.pt (pw_or (pt_not (pt_val (pe_callB call_isi (by rfl) B.isinstance (by decide +kernel) (pa_cons (pv 0) (pa_cons (pe_bltn (v := .ty "int") (by rfl) B.int (by decide +kernel) rfl) pa_nil))))) (pw_or1 (pt_val (pe_callB call_isi (by rfl) B.isinstance (by decide +kernel) (pa_cons (pv 0) (pa_cons (pe_bltn (v := .ty "bool") (by rfl) B.bool (by decide +kernel) rfl) pa_nil))))))) (pss_one (ps_ret pe_bl)) pss_nil)
      (pss_one (ps_ret (pe_chain op_le op_le (pv 1) (pv 0) (pv 2))))), ?_⟩
    rcases h with ⟨v, rfl, k⟩ | ⟨⟨t, i1, i2⟩, k⟩ | ⟨⟨t, i1, i2⟩, ⟨t', j1, j2⟩, k⟩
    · obtain ⟨t, i1, i2⟩ := Isa.int_int (K := K) (H := H) (i := v)
      obtain ⟨t', j1, j2⟩ := Isa.int_bool (K := K) (H := H) (i := v)
      refine ⟨_, rfl, _, _, t, _, true, rfl, .ty _, i1, i2, _, rfl, iteF ⟨_, rfl, _, _, t', _, false, rfl, .ty _, j1, j2, _, rfl, iteF ?_⟩⟩
      refine ⟨_, rfl, _, rfl, _, _, rfl, rfl, _, rfl, ?_⟩
      by_cases e1 : a ≤ v
      · rw [decide_eq_true e1]
        refine iteT ⟨_, rfl, _, _, rfl, rfl, ?_⟩
        have e : decide (a ≤ v ∧ v ≤ b) = decide (v ≤ b) := by simp only [e1, true_and]
        rw [e] at k
        exact k
      · rw [decide_eq_false e1]
        refine iteF ?_
        have e : decide (a ≤ v ∧ v ≤ b) = false := by simp only [e1, false_and, decide_false]
        rw [e] at k
        exact k
    · refine ⟨_, rfl, _, _, t, _, false, rfl, .ty _, i1, i2, _, rfl, iteT (iteT k)⟩
    · refine ⟨_, rfl, _, _, t, _, true, rfl, .ty _, i1, i2, _, rfl, iteF ⟨_, rfl, _, _, t', _, true, rfl, .ty _, j1, j2, _, rfl, iteT k⟩⟩
def spIsText (K : PySem.W.Frag) : Sp := fun vs H Q _ => ∃ (x : V) (m : Int), vs = [x, .int m] ∧
  ((∃ z : Str, x = .str z ∧ z.length ≤ 1000 ∧ ∀ G, Same H G → Q (.bl (isTxt z m)) G) ∨ (Isa K H x "str" false ∧ Q (.bl false) H))
theorem cal_isText (B : Bi mg) (D : At K mg "is_text" s_is_text ps_is_text) : Cal P w K mg base 1 "is_text" ps_is_text (spIsText K) := by
  refine D.cal sc_is_text (fun vs H Q E h => ?_) (fun f cdv A outer s H vs Q E hr h => ?_)
  · obtain ⟨x, m, rfl, _⟩ := h
    rfl
  · obtain ⟨x, m, rfl, h⟩ := h
    refine ⟨_, (pss_cons (ps_if (PW.pt (pw_or (pt_not (pt_val (pe_callB call_isi (by rfl) B.isinstance (by decide +kernel) (pa_cons (pv 0) (pa_cons (pe_bltn (v := .ty "str") (by rfl) B.str (by decide +kernel) rfl) pa_nil))))) (pw_or1 (pt_cmpR op_gt (pe_callB call_len (by rfl) B.len (by decide +kernel) (pa_cons (pv 0) pa_nil)) (pv 1) (nomark _))))) (pss_one (ps_ret pe_bl)) pss_nil)
      (pss_one (ps_ret (pe_callB (cr_all rfl) (by rfl) B.all (by decide +kernel) (pa_cons (pe_lc (own := [("character", 2)]) (by rfl) sc_is_text.nd (pi_str (pv 0)) (blkOk_by (own := [("character", 2)]) (N := ["value", "most", "character"]) (sc := defScope s_is_text) (by decide +kernel)) (fun _ _ _ _ _ => pg_name (i := 2) sc_is_text.nd rfl (.inl rfl)) (fun _ _ _ _ _ => pts_nil) (fun _ _ _ _ _ => (pe_cmpR op_in_sign (pv 2) (pe_cst B.SIGNS (by rfl)) (by rfl)))) pa_nil))))), ?_⟩
    rcases h with ⟨z, rfl, zl, k⟩ | ⟨⟨t, i1, i2⟩, k⟩
    · obtain ⟨t, i1, i2⟩ := Isa.str_str (K := K) (H := H) (z := z)
      refine ⟨_, rfl, _, _, t, _, true, rfl, .ty _, i1, i2, _, rfl, iteF ⟨_, rfl, _, _, rfl, ⟨Nat.le_of_lt (small1000 zl), rfl⟩, _, rfl, _, _, rfl, rfl, _, rfl, ite2 (fun e => ?_) (fun e => ?_)⟩⟩
      · have e1 : ¬ (z.length : Int) ≤ m := by
          have := of_decide_eq_true e
          omega
        have e2 : isTxt z m = false := by
          unfold isTxt
          rw [decide_eq_false e1, Bool.false_and]
        rw [e2] at k
        exact k H (Same.refl H)
      · have e1 : (z.length : Int) ≤ m := by
          have h2 : ¬ m < (z.length : Int) := fun h3 => e (decide_eq_true h3)
          omega
        refine ⟨_, rfl, z, rfl, fun D nD => lc_it walk_str (fun i J => Same H J ∧ J D = some (.lst (((z.cps.toList.take i).map fun c => decide (c ∈ signs.cps.toList)).map V.bl)))
          ⟨same_new nD, by rw [upd_same]; rfl⟩ (fun _ _ _ _ => trivial) ?_ ?_⟩
        · rintro i v J _ hi ⟨sJ, eJ⟩ ⟨rfl, c, hc, rfl⟩
          refine ⟨rfl, yes (iteT ?_)⟩
          refine ⟨_, rfl, c, signs, rfl, rfl, _, eJ, small1000 ?_, ?_, ?_⟩
          · rw [List.length_map, List.length_map, List.length_take]
            have : z.length = z.cps.toList.length := rfl
            omega
          · exact fun b o e => by
              rw [upd_ne (ne_of_none e nD)]
              exact sJ b o e
          · rw [upd_same]
            have hc' : z.cps.toList[i]? = some c := by
              rw [← Array.getElem?_toList] at hc
              exact hc
            rw [List.take_add_one, hc', List.map_append, List.map_append]
            rfl
        · rintro J ⟨sJ, eJ⟩
          refine ⟨D, ((z.cps.toList.take z.cps.size).map fun c => decide (c ∈ signs.cps.toList)), rfl, .inl (.inl eJ), ?_⟩
          have e2 : ((z.cps.toList.take z.cps.size).map fun c => decide (c ∈ signs.cps.toList)).all id = isTxt z m := by
            unfold isTxt
            rw [decide_eq_true e1, Bool.true_and, List.take_of_length_le (show z.cps.toList.length ≤ z.cps.size from Nat.le_refl _), List.all_map]
            rfl
          rw [e2]
          exact k J sJ
    · refine ⟨_, rfl, _, _, t, _, false, rfl, .ty _, i1, i2, _, rfl, iteT (iteT k)⟩
end
end Gu
namespace Gu
open PySem PySem.Spec PyProof.Rows L2
/-! ### is_tuple -/
theorem isaTupP {K : PySem.W.Frag} {H : Hp} {l : Addr} {xs : List V} (h : SqT K H l xs) : Isa K H (.ref l) "tuple" true := by
  rcases h with (h | ⟨o, h⟩) | ⟨o, its, n, e, c, _⟩
  · exact ⟨_, .base (.tup h), kit_ty (by decide +kernel)⟩
  · exact ⟨_, .fTuple h, kit_ty (by decide +kernel)⟩
  · exact ⟨_, .kTuple e c, kit_ty (by decide +kernel)⟩
section
variable {P : Program} {w : World} {K : PySem.W.Frag} {mg : Str → Option Value} {base : Heap} {C : Addr}
def spIsTuple (K : PySem.W.Frag) : Sp := fun vs H Q _ => ∃ (x : V) (a b : Int), vs = [x, .int a, .int b] ∧
  ((∃ (l : Addr) (xs : List V), x = .ref l ∧ SqT K H l xs ∧ Q (.bl (decide (a ≤ (xs.length : Int) ∧ (xs.length : Int) ≤ b))) H) ∨ (Isa K H x "tuple" false ∧ Q (.bl false) H))
theorem cal_isTuple (B : Bi mg) (D : At K mg "is_tuple" s_is_tuple ps_is_tuple) : Cal P w K mg base 1 "is_tuple" ps_is_tuple (spIsTuple K) := by
  refine D.cal sc_is_tuple (fun vs H Q E h => ?_) (fun f cdv A outer s H vs Q E hr h => ?_)
  · obtain ⟨x, a, b, rfl, _⟩ := h
    rfl
  · obtain ⟨x, a, b, rfl, h⟩ := h
    refine ⟨_, (pss_one (ps_ret (pe_and (pe_callB call_isi (by rfl) B.isinstance (by decide +kernel) (pa_cons (pv 0) (pa_cons (pe_bltn (v := .ty "tuple") (by rfl) B.tuple (by decide +kernel) rfl) pa_nil))) (pe_one (pe_chain op_le op_le (pv 1) (pe_callB call_len (by rfl) B.len (by decide +kernel) (pa_cons (pv 0) pa_nil)) (pv 2)))))), ?_⟩
    rcases h with ⟨l, xs, rfl, hT, k⟩ | ⟨⟨t, i1, i2⟩, k⟩
    · obtain ⟨t, i1, i2⟩ := isaTupP hT
      refine ⟨_, rfl, _, _, t, _, true, rfl, .ty _, i1, i2, _, rfl, iteT ?_⟩
      refine ⟨_, rfl, _, rfl, _, _, rfl, .inr ⟨_, hT, rfl⟩, _, _, rfl, rfl, _, rfl, ?_⟩
      by_cases e1 : a ≤ (xs.length : Int)
      · rw [decide_eq_true e1]
        refine iteT ⟨_, rfl, _, _, rfl, rfl, ?_⟩
        have e : decide (a ≤ (xs.length : Int) ∧ (xs.length : Int) ≤ b) = decide ((xs.length : Int) ≤ b) := by simp only [e1, true_and]
        rw [e] at k
        exact k
      · rw [decide_eq_false e1]
        refine iteF ?_
        have e : decide (a ≤ (xs.length : Int) ∧ (xs.length : Int) ≤ b) = false := by simp only [e1, false_and, decide_false]
        rw [e] at k
        exact k
    · exact ⟨_, rfl, _, _, t, _, false, rfl, .ty _, i1, i2, _, rfl, iteF k⟩
end
end Gu
namespace PySem
open Sem (wp)
open AutoSeq1 (wpAny_loadPart')
theorem gu_new_enum (a : Addr) (vs : Array Value) (n : Nat) (dt : Option Addr) (sl : Array (Option Value)) : Meets (Builtin.«enumerate.__new__» ⟨[.type "enumerate", .ref a], []⟩) (fun _ R s =>
    s.heap.get? a = some ⟨.type "tuple", dt, .seq vs n, sl⟩ ∧ R (.ok (.ret (.ref (s.heap.push { cls := .type "tuple_iterator", data := .fields #[.ref a, .int 0 0] }).objs.size))) { s with heap := (s.heap.push { cls := .type "tuple_iterator", data := .fields #[.ref a, .int 0 0] }).push { cls := .type "enumerate", data := .fields #[.none, .bool false, .ref s.heap.objs.size, rawInt 0, .none, .none] } }) :=
  .of_wp fun prog w A R s h => by
    obtain ⟨s1, s2, s3, s4, s5⟩ := s
    obtain ⟨ha, h⟩ := h
    have sb := sub_enumerate
    have hT : Heap.IsTuple (Shared.heap ⟨s1, s2, s3, s4, s5⟩) a vs := ⟨_, ha, rfl, n, rfl⟩
    wp_walk using wpAny_loadPart' ha
    refine wpAny_stack_any fun fr => wpAny_pure ?_
    split
    · next c _ _ _ _ _ =>
      cases (c == Value.type "enumerate") <;> (wp_walk using wpAny_loadPart' ha, wpAny_pyIter_tuple hT; exact ⟨_, rfl, h⟩)
    · wp_walk using wpAny_loadPart' ha, wpAny_pyIter_tuple hT
      exact ⟨_, rfl, h⟩
section
variable {prog : Program} {w : World} {A : Around} {E : Value → Shared → Prop} {s : Shared}
theorem gu_call_enum {a : Addr} {vs : Array Value} {Q : Value → Shared → Prop} (hT : s.heap.IsTuple a vs)
    (h : ∀ g, IsEnum g (s.heap.objs.size + 1) s.heap.objs.size 0 .none → g.IsTupleIter s.heap.objs.size a 0 → (∀ b o, s.heap.get? b = some o → g.get? b = some o) → Q (.ref (s.heap.objs.size + 1)) { s with heap := g }) :
    wpAny (model prog w) A (call (.type "enumerate") [.ref a]) Q E s := by
  obtain ⟨⟨oc, od, dd, sl⟩, ha, hc, n, hd⟩ := hT
  cases (show oc = .type "tuple" from hc)
  cases (show dd = .seq vs n from hd)
  refine callType_new F.called_enumerate (by decide) (F.typeCall_enumerate_1 _) (F.newCall_enumerate_1 _) (fun o => F.args_object_init_2 o _) F.entry_enumerate_new (gu_new_enum a vs n od sl) ⟨ha, ?_⟩
  have z1 : (s.heap.push { cls := .type "tuple_iterator", data := .fields #[.ref a, .int 0 0] }).objs.size = s.heap.objs.size + 1 := Heap.size_push ..
  show _ ∧ _
  rw [z1]
  have en : IsEnum ((s.heap.push { cls := .type "tuple_iterator", data := .fields #[.ref a, .int 0 0] }).push { cls := .type "enumerate", data := .fields #[.none, .bool false, .ref s.heap.objs.size, rawInt 0, .none, .none] }) (s.heap.objs.size + 1) s.heap.objs.size 0 .none := by
    have q := Heap.get?_push_size (s.heap.push { cls := .type "tuple_iterator", data := .fields #[.ref a, .int 0 0] }) (o := { cls := .type "enumerate", data := .fields #[.none, .bool false, .ref s.heap.objs.size, rawInt 0, .none, .none] }) rfl
    rw [z1] at q
    exact q
  exact ⟨⟨_, en, rfl⟩, h _ en ⟨_, Heap.get?_push_of_some _ (Heap.get?_push_size _ rfl), rfl, rfl⟩ fun b o x => Heap.get?_push_of_some _ (Heap.get?_push_of_some _ x)⟩
end
end PySem
namespace Gu
open PySem PySem.Spec PyProof.Rows L2
/-- the tuple at a, each item in a new pair with its place -/
def EnT (K : PySem.W.Frag) (a : Addr) : It where
  go := fun i H => ∃ (xs : List V) (x : V), SqT K H a xs ∧ xs[i]? = some x
  yld := fun i H v G => ∃ T x, v = .ref T ∧ H T = none ∧ G = upd H T (.tup [.int (i : Nat), x]) ∧ ∀ xs, SqT K H a xs → xs[i]? = some x
  stop := fun i H => ∃ xs : List V, SqT K H a xs ∧ xs.length = i
theorem turn_enT {P : Program} {w : World} {K : PySem.W.Frag} {es : List Expr} {kk : Nat} {tp : Pos} (a e it : Addr) :
    Turn P w K (.Tuple es kk tp) (EnT K a) [e, it] e (fun i h => (∃ old, IsEnum h e it ((i : Nat) : Int) old) ∧ h.IsTupleIter it a i ∧ e ≠ it) where
  mem := List.mem_cons_self ..
  obj := fun i h st b hb => by
    obtain ⟨⟨old, he⟩, ⟨o, ho, hc, hd⟩, _⟩ := st
    simp only [List.mem_cons, List.not_mem_nil, or_false] at hb
    rcases hb with rfl | rfl
    · exact ⟨_, he, fun v q => nomatch q⟩
    · exact ⟨o, ho, fun v q => by rw [hd] at q; cases q⟩
  keep := fun i h g st k => by
    obtain ⟨⟨old, he⟩, hi, ne⟩ := st
    exact ⟨⟨old, k e (by simp) _ he⟩, hi.at fun o q => k it (by simp) o q, ne⟩
  item := by
    intro X hP hw hK hc i pins s σ H E I hf st hg
    subst hP hw hK
    obtain ⟨⟨old, he⟩, hit, ne⟩ := st
    obtain ⟨xs, x, hq, hx⟩ := hg
    obtain ⟨its, rv, tp, hz⟩ := I.tuple hq
    obtain ⟨u, hu, ru⟩ := rv.get hx
    have el : e < s.heap.objs.size := Heap.lt_size he
    have il : it < s.heap.objs.size := by
      obtain ⟨_, q, _⟩ := hit
      exact Heap.lt_size q
    have tp' : s.heap.IsTuple a its.toArray := tp
    have nai : a ≠ it := fun z => by
      obtain ⟨o1, g1, c1, _⟩ := tp'
      obtain ⟨o2, g2, c2, _⟩ := hit
      rw [z] at g1
      cases g1.symm.trans g2
      exact absurd (Value.type.inj (c1.symm.trans c2)) (by decide)
    have nea : e ≠ a := fun z => by
      obtain ⟨o1, g1, c1, _⟩ := tp'
      have g2 := he
      rw [z] at g2
      cases g1.symm.trans g2
      exact absurd (Value.type.inj c1) (by decide)
    have hd : X.A.in1.handled = none := I.ok.hd hc
    refine wpAny_pyNext_enum_itemD (Draws.tuple hd it a nai its.toArray) he ⟨hit, tp'⟩ (i := i) (by
      have := (List.getElem?_eq_some_iff.mp hu).1
      simpa using this) ne (by simp [ne, nea]) fun y g tk hy ho st' hT hsz hk => ?_
    have ey : y = u := by
      have : its[i]? = some y := by simpa using hy
      rw [hu] at this
      exact (Option.some.inj this).symm
    subst ey
    refine ⟨_, rfl, wpAny_letOwnedTupleGo_enum (s := { s with heap := g, toks := tk + 1 }) ho fun g2 he' sb => ?_⟩
    have hT2 : g2.get? s.heap.objs.size = some { cls := .type "tuple", data := .seq #[.int i tk, y] } := (sb.2 _ (Nat.ne_of_gt el)).trans hT
    have nw : ObjOk X.prog X.w (upd H s.heap.objs.size (.tup [.int (i : Nat), x])) g2 s.heap.objs.size (.tup [.int (i : Nat), x]) := ⟨by show 2 ≤ sizeLine; decide, [.int i tk, y], .cons ⟨_, rfl⟩ (.cons ru .nil), ⟨_, hT2, rfl, _, rfl⟩⟩
    have I1 : Inv X pins σ (upd H s.heap.objs.size (.tup [.int (i : Nat), x])) { s with heap := g2, toks := tk + 1 } :=
      I.turnedNew (ch := [e, it]) (fun b ob hb q => (sb.2 b (fun z => hb (by simp [z]))).trans (hk b ob (fun z => hb (by simp [z])) (fun z => hb (by simp [z])) q)) hf (Nat.le_refl _) nw
    refine ⟨.ref s.heap.objs.size, _, I1, rfl, ⟨_, x, rfl, I.hok.fresh (Nat.le_refl _), rfl, fun ys hy => by rw [I.tuple_inj hy hq]; exact hx⟩, ⟨⟨y, ?_⟩, st'.1.at fun o q => (sb.2 it (Ne.symm ne)).trans q, ne⟩, fun b hb => ?_⟩
    · rw [show ((i + 1 : Nat) : Int) = (i : Int) + 1 by omega]
      exact he'
    · have hb' : b < s.heap.objs.size := by
        simp only [List.mem_cons, List.not_mem_nil, or_false] at hb
        rcases hb with rfl | rfl
        · exact el
        · exact il
      rw [upd_ne (Nat.ne_of_lt hb')]
      exact (hf b hb).1
  done := by
    intro X hP hw hK hc i pins s σ H E I hf st hg
    subst hP hw hK
    obtain ⟨⟨old, he⟩, hit, ne⟩ := st
    obtain ⟨xs, hq, hx⟩ := hg
    obtain ⟨its, rv, tp, hz⟩ := I.tuple hq
    have tp' : s.heap.IsTuple a its.toArray := tp
    have nai : a ≠ it := fun z => by
      obtain ⟨o1, g1, c1, _⟩ := tp'
      obtain ⟨o2, g2, c2, _⟩ := hit
      rw [z] at g1
      cases g1.symm.trans g2
      exact absurd (Value.type.inj (c1.symm.trans c2)) (by decide)
    have hd : X.A.in1.handled = none := I.ok.hd hc
    have en : its.toArray.size = i := by
      have := rv.length
      simp only [List.size_toArray]
      omega
    obtain ⟨f0, f1, f2, f3, f4, f5⟩ := hf it (by simp)
    exact wpAny_pyNext_enum_endD (Draws.tuple hd it a nai its.toArray) he ⟨by rw [en]; exact hit, tp'⟩ fun g eb => ⟨rfl, I.turned (t' := s.toks) (fun b o hb q => eb b o hb q) f0 f1 f3 f4 f5⟩
  self := fun A i s Q E st h => by
    obtain ⟨⟨_, he⟩, _⟩ := st
    exact wpAny_pyIter_enum he h
def iEnT (K : PySem.W.Frag) (ta : TA) : TI := fun σ H R => ta σ H fun vs G => ∃ a xs, vs = [.ref a] ∧ SqT K G a xs ∧ R (EnT K a) G
theorem pi_enT {X : Cx} {e : Expr} {ta : TA} {p pos tp : Pos} {es : List Expr} {kk : Nat} (hg : Gl X "enumerate") (hm : X.mg "enumerate" = none) (ha : PA X [e] ta) (hs : starEach [e] X.env = [(false, eval e X.env)] := by rfl) :
    PI X (.Tuple es kk tp) (.Call (.Name "enumerate" p) [e] [] pos) (iEnT X.K ta) := by
  refine ⟨fun pins s σ H R I h => ?_⟩
  refine Call_ (ld_blt I hg hm boot_enumerate (PyProof.Rows.callWith_type1 (thn (ha.run pos pins s σ H _ I h) fun us s1 ⟨vs, G, I1, r1, q1⟩ => ?_) hs rfl))
  obtain ⟨a, xs, ex, hq, q⟩ := q1
  subst ex
  cases r1 with
  | cons r rr =>
    cases rr
    cases r
    obtain ⟨its, rv, tq, hz⟩ := I1.tuple hq
    refine gu_call_enum (show s1.heap.IsTuple a its.toArray from tq) fun g he hit hk => wpAny_pyIter_enum he ?_
    have I2 : Inv X pins σ G { s1 with heap := g } := I1.kept (t' := s1.toks) hk
    refine ⟨s1.heap.objs.size + 1, [s1.heap.objs.size + 1, s1.heap.objs.size], _, _, G, rfl, I2, turn_enT a (s1.heap.objs.size + 1) s1.heap.objs.size, ⟨⟨.none, he⟩, hit, Nat.succ_ne_self _⟩, fun b hb => ?_, q⟩
    have le : s1.heap.objs.size ≤ b := by
      simp only [List.mem_cons, List.not_mem_nil, or_false] at hb
      rcases hb with rfl | rfl
      · exact Nat.le_add_right _ _
      · exact Nat.le_refl _
    exact I1.fpOk le (I1.hok.fresh le)
/-- the walk of such a loop: a new pair each turn -/
theorem walk_enT {K : PySem.W.Frag} {a : Addr} {xs : List V} : Walk (EnT K a) xs.length (fun H => SqT K H a xs) (fun i H v G => ∃ T x, xs[i]? = some x ∧ v = .ref T ∧ H T = none ∧ G = upd H T (.tup [.int (i : Nat), x])) where
  goes := fun i H hi h => ⟨xs, xs[i], h, List.getElem?_eq_getElem hi⟩
  stops := fun H h => ⟨xs, h, rfl⟩
  yields := fun i H v G hi h ⟨T, x, e1, e2, e3, e4⟩ => ⟨T, x, e4 xs h, e1, e2, e3⟩
end Gu
namespace Gu
open PySem PySem.Spec PyProof.Rows L2
/-! ### the class Namer, its __init__ -/
def nflds (so : Str) (w : Int) : List (Str × V) := putF "width" (.int w) (putF "rule" (.str so) [])
theorem nflds_rule (so : Str) (w : Int) : (nflds so w).lookup ("rule" : Str) = some (.str so) := by
  unfold nflds
  rw [lookup_putF, if_neg (by decide +kernel), lookup_putF, if_pos rfl]
theorem nflds_width (so : Str) (w : Int) : (nflds so w).lookup ("width" : Str) = some (.int w) := by
  unfold nflds
  rw [lookup_putF, if_pos rfl]
/-- what stands at a namer -/
def NmAt (C : Addr) (H : Hp) (x : Addr) (so : Str) (w : Int) : Prop := ∃ dx, H x = some (.ins C dx (nflds so w))
theorem NmAt.same {C : Addr} {H G : Hp} {x : Addr} {so : Str} {w : Int} (s : Same H G) (h : NmAt C H x so w) : NmAt C G x so w := by
  obtain ⟨dx, e⟩ := h
  exact ⟨dx, s _ _ e⟩
structure NmC (K : PySem.W.Frag) (mg : Str → Option Value) (C : Addr) : Prop where
  cl : Cls K C
  nR : NoAttr K C "rule"
  nW : NoAttr K C "width"
  g : mg "Namer" = some (.ref C)
  ha : PySem.W.findIn K (.ref C) "__class__" = some (some (.builtin "object.__class__"))
  hn : PySem.W.specialIn K (.builtin "object.__class__") "__get__" = some (some (.builtin "getset_descriptor.__get__"))
  ht : PySem.W.takesIn K (.builtin "object.__class__") = some true
  hm : PySem.W.mroIn K C (.type "object") = some true
  kk : PySem.W.kitOne K (.ref C) (.ref C) = some true
  rules : ∃ T, mg "RULES" = some (.ref T) ∧ ∀ H : Hp, SqT K H T (sorts.map V.str)
structure NInitAt (K : PySem.W.Frag) (C : Addr) : Prop where
  ex : ∃ (f : Addr) (fd : FuncData), Mk K C f ∧ Fun K "__init__" "Namer.__init__" s_Namer_init f fd ∧ Binds K fd ps_Namer_init []
section
variable {P : Program} {w : World} {K : PySem.W.Frag} {mg : Str → Option Value} {base : Heap} {C : Addr}
theorem ok_ninit {f : Addr} {fd : FuncData} (B : Bi mg) (S : NmC K mg C) (F : Fun K "__init__" "Namer.__init__" s_Namer_init f fd) (C_is_integer : Cal P w K mg base 1 "is_integer" ps_is_integer (spIsInteger K)) : FnOk P w K mg base CX0 2 f fd ps_Namer_init (spNInit C (NmAt C)) := by
  refine F.ok sc_Namer_init (fun vs H Q E h => ?_) (fun cdv A outer s H vs Q E hr h => ?_)
  · obtain ⟨x, dx, so, w, rfl, _⟩ := h
    rfl
  · obtain ⟨x, dx, so, w, rfl, hx, hso, w0, w1, k⟩ := h
    obtain ⟨T, gT, hT⟩ := S.rules
    refine ⟨_, (pss_cons (ps_if (PW.pt (pw_or (pt_not (pt_val (pe_callB call_isi (by rfl) B.isinstance (by decide +kernel) (pa_cons (pv 1) (pa_cons (pe_bltn (v := .ty "str") (by rfl) B.str (by decide +kernel) rfl) pa_nil))))) (pw_or1 (pt_cmpR op_notIn_seq (pv 1) (pe_glob (v := .ref T) (by rfl) gT rfl) (by rfl))))) pss_never pss_nil)
      (pss_cons (ps_if (pt_not (pt_val (pe_own C_is_integer hr (by decide) (by rfl) (pa_cons (pv 2) (pa_cons (pe_cst B.LEAST_WIDTH (by rfl)) (pa_cons (pe_cst B.MOST_SIGNS (by rfl)) pa_nil)))))) pss_never pss_nil)
      (pss_cons (ps_fld (pv 0) (pv 1) rfl)
      (pss_one (ps_fld (pv 0) (pv 2) rfl))))), ?_⟩
    obtain ⟨t, i1, i2⟩ := Isa.str_str (K := K) (H := H) (z := so)
    refine ⟨_, rfl, _, _, t, _, true, rfl, .ty _, i1, i2, _, rfl, iteF ?_⟩
    refine ⟨_, rfl, T, _, rfl, .inr (hT H), rfl, flat_strs sorts, _, rfl, ?_⟩
    rw [in_strs so sorts, decide_eq_true hso]
    refine iteF ?_
    refine ⟨_, rfl, _, _, _, rfl, .inl ⟨_, rfl, _, rfl, ?_⟩⟩
    rw [decide_eq_true ⟨w0, w1⟩]
    refine iteF ?_
    refine ⟨_, rfl, _, rfl, x, C, dx, [], rfl, hx, S.cl, S.nR, by decide, ?_⟩
    refine ⟨_, rfl, _, rfl, x, C, dx, _, rfl, upd_same, S.cl, S.nW, by exact Nat.lt_of_le_of_lt (length_putF _ _ _) (by decide), ?_⟩
    rw [upd_upd]
    refine k _ ⟨dx, upd_same⟩ fun c o e nc => ?_
    rw [upd_ne nc]
    exact e
theorem mak_nm (B : Bi mg) (S : NmC K mg C) (D : NInitAt K C) (C_is_integer : Cal P w K mg base 1 "is_integer" ps_is_integer (spIsInteger K)) : Mak P w K mg base 2 "Namer" C (spNInit C (NmAt C)) := by
  obtain ⟨f, fd, M, F, b⟩ := D.ex
  exact ⟨f, fd, ps_Namer_init, M, ok_ninit B S F C_is_integer, S.g, b⟩
end
end Gu
namespace Gu
open PySem PySem.Spec PyProof.Rows L2
/-! ### the program: names -/
section
variable {P : Program} {w : World} {K : PySem.W.Frag} {mg : Str → Option Value} {base : Heap} {C : Addr}
/-! texts that are as they should be -/
theorem wd_isTxt {n : Nat} {z : Str} (h : Wd n z) : isTxt z n = true := by
  have e : z.length = z.cps.toList.length := rfl
  have l := h.len
  unfold isTxt
  rw [decide_eq_true (by omega), Bool.true_and, List.all_eq_true]
  exact fun c hc => decide_eq_true (h.sgn c hc)
theorem atP_strs {ts : List Str} {i : Nat} {v : V} (hi : (ts.map V.str)[i]? = some v) : ∃ t, ts[i]? = some t ∧ v = .str t ∧ t ∈ ts := by
  rw [List.getElem?_map] at hi
  cases e : ts[i]? with
  | none =>
    rw [e] at hi
    cases hi
  | some t =>
    rw [e] at hi
    exact ⟨t, rfl, (Option.some.inj hi).symm, List.mem_of_getElem? e⟩
def spCheckTexts (K : PySem.W.Frag) : Sp := fun vs H Q _ => ∃ (l : Addr) (ts : List Str) (m : Int), vs = [.ref l, .int m] ∧ SqT K H l (ts.map V.str) ∧ (ts.length : Int) ≤ m ∧ (∀ t ∈ ts, Wd 200 t) ∧ ∀ G, Same H G → Q .non G
theorem cal_checkTexts (B : Bi mg) (D : At K mg "check_texts" s_check_texts ps_check_texts) (C_is_tuple : Cal P w K mg base 1 "is_tuple" ps_is_tuple (spIsTuple K)) (C_is_text : Cal P w K mg base 1 "is_text" ps_is_text (spIsText K)) : Cal P w K mg base 2 "check_texts" ps_check_texts (spCheckTexts K) := by
  refine D.cal sc_check_texts (fun vs H Q E h => ?_) (fun f cdv A outer s H vs Q E hr h => ?_)
  · obtain ⟨l, ts, m, rfl, _⟩ := h
    rfl
  · obtain ⟨l, ts, m, rfl, hl, tm, wt, k⟩ := h
    refine ⟨_, (pss_cons (ps_if (pt_not (pt_val (pe_own C_is_tuple hr (by decide) (by rfl) (pa_cons (pv 0) (pa_cons pe_int (pa_cons (pv 1) pa_nil)))))) pss_never pss_nil)
      (pss_one (ps_for PassesOwn.never rfl (pi_enT (by rfl) B.enumerate (pa_cons (pv 0) pa_nil)) (pg_tup rfl (pgs_cons (pg_name (i := 2) sc_check_texts.nd rfl (.inl rfl)) (pgs_cons (pg_name (i := 3) sc_check_texts.nd rfl (.inl rfl)) pgs_nil)))
      (pss_one (ps_if (pt_not (pt_val (pe_own C_is_text hr (by decide) (by rfl) (pa_cons (pv 3) (pa_cons (pe_cst B.MOST_TEXT (by rfl)) pa_nil))))) pss_never pss_nil))))), ?_⟩
    refine ⟨_, rfl, _, rfl, _, _, _, rfl, .inl ⟨l, _, rfl, hl, _, rfl, ?_⟩⟩
    rw [decide_eq_true (show (0 : Int) ≤ ((ts.map V.str).length : Int) ∧ ((ts.map V.str).length : Int) ≤ m by rw [List.length_map]; omega)]
    refine iteF ⟨_, rfl, l, _, rfl, hl, for_it walk_enT (fun i σ J => ∃ u v, σ = [some (.ref l), some (.int m), u, v] ∧ Same H J) ⟨none, none, rfl, Same.refl H⟩ (fun i σ J _ ⟨_, _, _, sJ⟩ => st_same sJ hl) ?_ ?_⟩
    · rintro i v σ J J1 hi ⟨u, v2, rfl, sJ⟩ ⟨T, x, hx, rfl, nT, rfl⟩
      obtain ⟨t, ht, rfl, mt⟩ := atP_strs hx
      have sT : Same H (upd J T (.tup [.int (i : Nat), .str t])) := sJ.trans (same_new nT)
      have tl : t.length ≤ 200 := (wt t mt).len
      refine ⟨T, _, rfl, .inl (.inl upd_same), rfl, _, _, rfl, _, _, rfl, rfl, ?_⟩
      refine ⟨_, rfl, _, _, rfl, .inl ⟨t, rfl, by omega, fun G sG => ⟨_, rfl, ?_⟩⟩⟩
      rw [show isTxt t 200 = true from wd_isTxt (wt t mt)]
      exact iteF ⟨_, _, rfl, sT.trans sG⟩
    · rintro σ J ⟨u, v, rfl, sJ⟩
      exact k J sJ
def spCheckNamer (C : Addr) : Sp := fun vs H Q _ => ∃ (x : Addr) (so : Str) (w : Int), vs = [.ref x] ∧ NmAt C H x so w ∧ Q .non H
theorem cal_checkNamer (B : Bi mg) (S : NmC K mg C) (D : At K mg "check_namer" s_check_namer ps_check_namer) : Cal P w K mg base 1 "check_namer" ps_check_namer (spCheckNamer C) := by
  refine D.cal sc_check_namer (fun vs H Q E h => ?_) (fun f cdv A outer s H vs Q E hr h => ?_)
  · obtain ⟨x, so, w, rfl, _⟩ := h
    rfl
  · obtain ⟨x, so, w, rfl, ⟨dx, e1⟩, k⟩ := h
    refine ⟨_, (pss_one (ps_if (pt_not (pt_val (pe_callB call_isi (by rfl) B.isinstance (by decide +kernel) (pa_cons (pv 0) (pa_cons (pe_glob (v := .ref C) (by rfl) S.g rfl) pa_nil))))) pss_never pss_nil)), ?_⟩
    exact ⟨_, rfl, _, _, _, _, true, rfl, .own C, .base (.ins e1 S.cl S.ha S.hn S.ht S.hm), S.kk, _, rfl, iteF k⟩
def spBaseOf (C : Addr) : Sp := fun vs H Q _ => ∃ (x : Addr) (so : Str) (w : Int) (t : Str), vs = [.ref x, .str t] ∧ NmAt C H x so w ∧ t.length ≤ 1000 ∧ Q (.str (nbase w t)) H
theorem cal_baseOf (B : Bi mg) (S : NmC K mg C) (D : At K mg "base_of" s_base_of ps_base_of) : Cal P w K mg base 1 "base_of" ps_base_of (spBaseOf C) := by
  refine D.cal sc_base_of (fun vs H Q E h => ?_) (fun f cdv A outer s H vs Q E hr h => ?_)
  · obtain ⟨x, so, w, t, rfl, _⟩ := h
    rfl
  · obtain ⟨x, so, w, t, rfl, ⟨dx, e1⟩, tl, k⟩ := h
    refine ⟨_, (pss_one (ps_ret (pe_slice sl_str (pv 1) po_none (po_some (pe_fld (pv 0) rfl))))), ?_⟩
    exact ⟨_, rfl, _, rfl, x, C, dx, _, _, rfl, e1, S.cl, S.nW, nflds_width _ _, w, rfl, t, rfl, Nat.le_of_lt (small1000 tl), k⟩
theorem cutS_allP {y : Str} {h : Int} (l : (y.length : Int) ≤ h) : cutS y none (some h) = y := by
  refine str_ext ?_
  have e : y.length = y.cps.toList.length := rfl
  rw [cutS_head y (by omega), List.take_of_length_le (by omega)]
/-- the program's way to cut the base -/
theorem numbered_tight {so : Str} {w : Int} {t : Str} {n : Int} (h : so = ("tight" : String)) : numbered so w t n = cutS (nbase w t) none (some (w - (ending n).length)) ++ ending n := by
  unfold numbered
  rw [decide_eq_true h, Bool.true_and]
  split
  · rfl
  · next e =>
    have e := of_decide_eq_false (Bool.eq_false_iff.mpr e)
    rw [cutS_allP (y := nbase w t) (by omega)]
theorem numbered_other {so : Str} {w : Int} {t : Str} {n : Int} (h : ¬ so = ("tight" : String)) : numbered so w t n = nbase w t ++ ending n := by
  unfold numbered
  rw [decide_eq_false h, Bool.false_and]
  rfl
theorem ending_is (n : Int) : Str.empty ++ (("~" : String) : Str) ++ ((toString n : String) : Str) = ending n := by
  have e : Str.empty ++ (("~" : String) : Str) = (("~" : String) : Str) := by decide +kernel
  rw [e]
  rfl
end
end Gu
namespace Gu
open PySem PySem.Spec PyProof.Rows L2
/-! ### names beside up to twenty texts -/
theorem wd_digit2 {i : Int} (h0 : 0 ≤ i) (h1 : i < 40) : Wd 2 (toString i : String) := by
  obtain ⟨k, rfl⟩ := Int.eq_ofNat_of_zero_le h0
  have a : ∀ k ∈ List.range 40, ((toString (Int.ofNat k) : String) : Str).cps.toList.length ≤ 2 ∧ ∀ c ∈ ((toString (Int.ofNat k) : String) : Str).cps.toList, c ∈ abc.cps.toList := by decide +kernel
  have b := a k (List.mem_range.mpr (by omega))
  exact ⟨b.1, b.2⟩
theorem ending_lenQ {n : Int} (h0 : 0 ≤ n) (h1 : n < 40) : (ending n).length ≤ 3 := by
  have a := (wd_digit2 h0 h1).len
  have e : (ending n).length = 1 + ((toString n : String) : Str).length := by
    show (ending n).cps.toList.length = _
    unfold ending
    rw [str_app, List.length_append]
    rfl
  rw [e]
  show 1 + ((toString n : String) : Str).cps.toList.length ≤ 3
  omega
/-- what stands behind the last ~, from the end -/
def tailQ (z : Str) : List Nat := z.cps.toList.reverse.takeWhile fun c => c != 126
theorem tail_ending (a : Str) {n : Int} (h0 : 0 ≤ n) (h1 : n < 40) : tailQ (a ++ ending n) = tailQ (ending n) := by
  obtain ⟨k, rfl⟩ := Int.eq_ofNat_of_zero_le h0
  have e : ∀ k ∈ List.range 40, ∃ d, (ending (Int.ofNat k)).cps.toList.reverse = d ++ [126] ∧ (∀ c ∈ d, (c != 126) = true) := fun k hk => by
    have x : ∀ k ∈ List.range 40, (ending (Int.ofNat k)).cps.toList.reverse = (ending (Int.ofNat k)).cps.toList.reverse.dropLast ++ [126] ∧ (∀ c ∈ (ending (Int.ofNat k)).cps.toList.reverse.dropLast, (c != 126) = true) := by decide +kernel
    exact ⟨_, x k hk⟩
  obtain ⟨d, e1, e2⟩ := e k (List.mem_range.mpr (by omega))
  have go : ∀ (d r : List Nat), (∀ c ∈ d, (c != 126) = true) → (d ++ 126 :: r).takeWhile (fun c => c != 126) = d := by
    intro d
    induction d with
    | nil => exact fun r _ => rfl
    | cons c d ih =>
      intro r h
      rw [List.cons_append, List.takeWhile_cons, h c (List.mem_cons_self ..), if_pos rfl, ih r fun x hx => h x (List.mem_cons_of_mem _ hx)]
  have e1 : (ending ((k : Nat) : Int)).cps.toList.reverse = d ++ [126] := e1
  unfold tailQ
  rw [str_app, List.reverse_append, e1, List.append_assoc]
  show (d ++ 126 :: a.cps.toList.reverse).takeWhile _ = _
  rw [go _ _ e2, go d [] e2]
theorem tail_inj : ∀ i ∈ List.range 36, ∀ j ∈ List.range 36, tailQ (ending (2 + (i : Int))) = tailQ (ending (2 + (j : Int))) → i = j := by decide +kernel
theorem cand_tail (so : Str) (w : Int) (t : Str) {i : Nat} (h : i < 36) : tailQ (cand so w t i) = tailQ (ending (2 + (i : Int))) := by
  unfold cand numbered
  split
  · exact tail_ending _ (by omega) (by omega)
  · exact tail_ending _ (by omega) (by omega)
theorem cands_nodupQ (so : Str) (w : Int) (t : Str) : ∀ n, n ≤ 36 → ((List.range n).map (cand so w t)).Nodup
  | 0, _ => List.nodup_nil
  | n + 1, h => by
    rw [List.range_succ, List.map_append]
    refine List.nodup_append.mpr ⟨cands_nodupQ so w t n (by omega), List.nodup_cons.mpr ⟨List.not_mem_nil, List.nodup_nil⟩, fun x hx y hy e => ?_⟩
    obtain ⟨i, hi, rfl⟩ := List.mem_map.mp hx
    have hi := List.mem_range.mp hi
    rw [List.mem_singleton.mp hy] at e
    have a := cand_tail so w t (i := i) (by omega)
    rw [e, cand_tail so w t (i := n) (by omega)] at a
    have := tail_inj n (List.mem_range.mpr (by omega)) i (List.mem_range.mpr (by omega)) a
    omega
theorem some_freeQ {so : Str} {w : Int} {t : Str} {ys : List Str} (h : ys.length ≤ 24) (a : ∀ j, j < ys.length + 1 → cand so w t j ∈ ys) : False := by
  have := fewer _ ys (cands_nodupQ so w t (ys.length + 1) (by omega)) fun x hx => by
    obtain ⟨i, hi, rfl⟩ := List.mem_map.mp hx
    exact a i (List.mem_range.mp hi)
  rw [List.length_map, List.length_range] at this
  omega
theorem wd_numberedQ {n : Nat} {t : Str} {so : Str} {w k : Int} (h : Wd n t) (h0 : 0 ≤ k) (h1 : k < 40) : Wd (n + 3) (numbered so w t k) := by
  have a : Wd 3 (ending k) := (wd_lit (z := ("~" : String)) (n := 1) (by decide +kernel)).app (wd_digit2 h0 h1) (by decide)
  unfold numbered
  split
  · exact ((wd_base h w).cut _ _).app a (Nat.le_refl _)
  · exact (wd_base h w).app a (Nat.le_refl _)
theorem wd_seekQ {n : Nat} {so : Str} {w : Int} {t : Str} {ys : List Str} (h : Wd n t) : ∀ (k a : Nat), a + k < 36 → Wd (n + 3) (seek (cand so w t) ys k a)
  | 0, a, l => wd_numberedQ h (by omega) (by omega)
  | k + 1, a, l => by
    unfold seek
    split
    · exact wd_seekQ h k (a + 1) (by omega)
    · exact wd_numberedQ h (by omega) (by omega)
theorem wd_nameQ {n : Nat} {so : Str} {w : Int} {t : Str} {ps : List (Str × Str)} (h : Wd n t) (l : ps.length ≤ 24) : Wd (n + 3) (nameOf so w t ps) := by
  have m : (mates w t ps).length ≤ ps.length := List.length_filter_le ..
  unfold nameOf
  split
  · split
    · exact (wd_base h w).mono (by omega)
    · exact wd_numberedQ h (by omega) (by omega)
  · split
    · exact wd_seekQ h _ _ (by rw [List.length_map]; omega)
    · exact (wd_base h w).mono (by omega)
end Gu
namespace Gu
open PySem PySem.Spec PyProof.Rows L2
section
variable {P : Program} {w : World} {K : PySem.W.Frag} {mg : Str → Option Value} {base : Heap} {C : Addr}
def spNumQ (C : Addr) : Sp := fun vs H Q _ => ∃ (x : Addr) (so : Str) (w n : Int) (t : Str), vs = [.ref x, .str (nbase w t), .int n] ∧ NmAt C H x so w ∧ 0 ≤ n ∧ n < 40 ∧ t.length ≤ 1000 ∧ Q (.str (numbered so w t n)) H
theorem cal_numQ (B : Bi mg) (S : NmC K mg C) (D : At K mg "numbered" s_numbered ps_numbered) : Cal P w K mg base 1 "numbered" ps_numbered (spNumQ C) := by
  refine D.cal sc_numbered (fun vs H Q E h => ?_) (fun f cdv A outer s H vs Q E hr h => ?_)
  · obtain ⟨x, so, w, n, t, rfl, _⟩ := h
    rfl
  · obtain ⟨x, so, w, n, t, rfl, ⟨dx, e1⟩, n0, n1, tl, k⟩ := h
    have el := ending_lenQ n0 n1
    have bl : (nbase w t).length ≤ t.length := cutS_length t none (some w)
    have s1 : (Str.empty ++ (("~" : String) : Str)).length = 1 := by decide +kernel
    refine ⟨_, (pss_cons (ps_set (i := 3) sc_numbered.nd rfl (.inl rfl) (pe_joined (.cons pe_str (.cons (pe_fmt (pv 2)) .nil))))
      (pss_cons (ps_if (pt_cmpR op_eq (pe_fld (pv 0) rfl) pe_str (nomark _)) (pss_one (ps_ret (pe_op op_add_str (pe_slice sl_str (pv 1) po_none (po_some (pe_op op_sub (pe_fld (pv 0) rfl) (pe_callB call_len (by rfl) B.len (by decide +kernel) (pa_cons (pv 3) pa_nil))))) (pv 3)))) pss_nil)
      (pss_one (ps_ret (pe_op op_add_str (pv 1) (pv 3)))))), ?_⟩
    refine ⟨_, rfl, by rw [s1]; decide, _, rfl, .inr ⟨n, rfl, log_small n0 (by omega), _, rfl, ?_, ?_⟩⟩
    · rw [ending_is]
      exact Nat.le_of_lt (small1000 (by omega))
    rw [ending_is]
    refine ⟨_, rfl, x, C, dx, _, _, rfl, e1, S.cl, S.nR, nflds_rule _ _, rfl, _, rfl, ite2 (fun h1 => ?_) (fun h1 => ?_)⟩
    · rw [str_eq_iff] at h1
      rw [numbered_tight (of_decide_eq_true h1)] at k
      refine ⟨_, rfl, _, rfl, x, C, dx, _, _, rfl, e1, S.cl, S.nW, nflds_width _ _, _, rfl, _, _, rfl, ⟨Nat.le_of_lt (small1000 (by omega)), rfl⟩, _, _, rfl, rfl, _, rfl, _, rfl, Nat.le_of_lt (small1000 (by omega)), _, rfl, _, _, rfl, rfl, ?_, k⟩
      have a := cutS_length (nbase w t) none (some (w - ((ending n).length : Int)))
      exact Nat.le_of_lt (Nat.lt_of_le_of_lt (show _ ≤ 2000 by omega) (by decide))
    · rw [str_eq_iff] at h1
      rw [numbered_other (of_decide_eq_false (Bool.eq_false_iff.mpr h1))] at k
      refine ⟨_, rfl, _, rfl, _, _, rfl, rfl, ?_, k⟩
      exact Nat.le_of_lt (Nat.lt_of_le_of_lt (show _ ≤ 2000 by omega) (by decide))
/-- how many of us have the base of t -/
def alike (w : Int) (t : Str) (us : List Str) : List Str := us.filter fun u => decide (nbase w u = nbase w t)
def countedOf (so : Str) (w : Int) (t : Str) (us : List Str) : Str := if (alike w t us).length = 0 then nbase w t else numbered so w t (((alike w t us).length : Int) + 1)
def spCountedQ (K : PySem.W.Frag) (C : Addr) : Sp := fun vs H Q _ => ∃ (x l : Addr) (so : Str) (w : Int) (t : Str) (us : List Str), vs = [.ref x, .str (nbase w t), .ref l] ∧ NmAt C H x so w ∧ t.length ≤ 1000 ∧ SqT K H l (us.map V.str) ∧ us.length ≤ 24 ∧ (∀ u ∈ us, Wd 200 u) ∧ ∀ G, Same H G → Q (.str (countedOf so w t us)) G
theorem cal_countedQ (B : Bi mg) (S : NmC K mg C) (D : At K mg "counted_name" s_counted_name ps_counted_name) (C_base_of : Cal P w K mg base 1 "base_of" ps_base_of (spBaseOf C)) (C_numbered : Cal P w K mg base 1 "numbered" ps_numbered (spNumQ C)) : Cal P w K mg base 2 "counted_name" ps_counted_name (spCountedQ K C) := by
  refine D.cal sc_counted_name (fun vs H Q E h => ?_) (fun f cdv A outer s H vs Q E hr h => ?_)
  · obtain ⟨x, l, so, w, t, us, rfl, _⟩ := h
    rfl
  · obtain ⟨x, l, so, w, t, us, rfl, hN, tl, hl, u6, wu, k⟩ := h
    refine ⟨_, (pss_cons (ps_set (i := 3) sc_counted_name.nd rfl (.inl rfl) (pe_op op_add pe_int (pe_callB call_len (by rfl) B.len (by decide +kernel) (pa_cons (pe_lc (own := [("text", 4)]) (by rfl) sc_counted_name.nd (pi_tup (pv 2)) (blkOk_by (own := [("text", 4)]) (N := ["namer", "base", "texts", "number", "text"]) (sc := defScope s_counted_name) (by decide +kernel)) (fun _ _ _ _ _ => pg_name (i := 4) sc_counted_name.nd rfl (.inl rfl)) (fun _ _ _ _ _ => (pts_one (pt_cmpR op_eq (pe_own C_base_of hr (by decide) (by rfl) (pa_cons (pv 0) (pa_cons (pv 4) pa_nil))) (pv 1) (nomark _)))) (fun _ _ _ _ _ => (pv 4))) pa_nil))))
      (pss_one (ps_ret (pe_mid (pe_ifExp (pt_cmpR op_eq (pv 3) pe_int (nomark _)) (pv 1) (pe_own C_numbered hr (by decide) (by rfl) (pa_cons (pv 0) (pa_cons (pv 1) (pa_cons (pv 3) pa_nil))))))))), ?_⟩
    refine ⟨_, rfl, l, rfl, ⟨_, hl⟩, fun M nM => lc_tup (K := K) (a := l) (xs := us.map V.str) (fun i J => J M = some (.lst ((alike w t (us.take i)).map V.str)) ∧ Same H J)
      ⟨upd_same, same_new nM⟩ (fun i J _ ⟨_, sJ⟩ => st_same sJ hl) ?_ ?_⟩
    · rintro i v J hi ⟨eM, sJ⟩
      obtain ⟨u, hu, rfl, mu⟩ := atP_strs hi
      have ul : u.length ≤ 200 := (wu u mu).len
      refine ⟨rfl, _, rfl, _, rfl, x, so, w, u, rfl, hN.same sJ, by omega, _, rfl, rfl, _, rfl, ?_⟩
      rw [str_eq_iff]
      refine ite2 (fun hb => ?_) (fun hb => ?_)
      · refine ⟨_, rfl, _, eM, small1000 ?_, ?_, same_off sJ nM⟩
        · rw [List.length_map]
          refine Nat.le_trans (List.length_filter_le ..) ?_
          rw [List.length_take]
          omega
        · unfold alike
          rw [upd_same, take_next hu, List.filter_append, List.map_append, List.filter_cons, hb]
          rfl
      · refine ⟨?_, sJ⟩
        unfold alike at eM ⊢
        rw [eM, take_next hu, List.filter_append, List.filter_cons, Bool.eq_false_iff.mpr hb]
        simp only [Bool.false_eq_true, if_false, List.filter_nil, List.append_nil]
    · rintro J ⟨eM, sJ⟩
      rw [List.length_map, List.take_length] at eM
      have a6 : (alike w t us).length ≤ us.length := List.length_filter_le ..
      refine ⟨_, _, rfl, .inl ⟨_, .inl (.inl eM), rfl⟩, _, _, rfl, rfl, ?_⟩
      rw [List.length_map]
      refine ⟨fun v J1 => v = .str (countedOf so w t us) ∧ Same H J1, ?_, ?_⟩
      · refine ⟨_, rfl, rfl, _, rfl, ite2 (fun h1 => ?_) (fun h1 => ?_)⟩
        · have h1 : (alike w t us).length = 0 := by
            have := V.int.inj (of_decide_eq_true h1)
            omega
          refine ⟨_, rfl, ?_, sJ⟩
          unfold countedOf
          rw [if_pos h1]
        · have h1 : ¬ (alike w t us).length = 0 := fun h => h1 (decide_eq_true (by rw [h]; rfl))
          refine ⟨_, rfl, _, rfl, _, rfl, x, so, w, _, t, rfl, hN.same sJ, by omega, by omega, tl, ?_, sJ⟩
          unfold countedOf
          rw [if_neg h1, Int.add_comm]
      · rintro _ J1 ⟨rfl, s1⟩
        exact k J1 s1
/-- the names that are triedP -/
def triedP (so : Str) (w : Int) (t : Str) : Nat → Str
  | 0 => nbase w t
  | i + 1 => cand so w t i
def freeP (so : Str) (w : Int) (t : Str) (ys : List Str) : Str := if nbase w t ∈ ys then seek (cand so w t) ys ys.length 0 else nbase w t
theorem triedQ_free {so : Str} {w : Int} {t : Str} {ys : List Str} (l : ys.length ≤ 24) {i : Nat} (a : ∀ j, j < i → triedP so w t j ∈ ys) : i ≤ ys.length + 1 := by
  refine Decidable.byContradiction fun h => some_freeQ (so := so) (w := w) (t := t) l fun j hj => ?_
  exact a (j + 1) (by omega)
theorem triedQ_is {so : Str} {w : Int} {t : Str} {ys : List Str} (l : ys.length ≤ 24) {i : Nat} (a : ∀ j, j < i → triedP so w t j ∈ ys) (b : triedP so w t i ∉ ys) : freeP so w t ys = triedP so w t i := by
  have h := triedQ_free l a
  unfold freeP
  cases i with
  | zero => rw [if_neg (show nbase w t ∉ ys from b)]; rfl
  | succ i =>
    rw [if_pos (show nbase w t ∈ ys from a 0 (by omega))]
    have e := seek_at (f := cand so w t) (ys := ys) i ys.length 0 (by omega) (fun j hj => by
      rw [Nat.zero_add]
      exact a (j + 1) (by omega)) (by
      rw [Nat.zero_add]
      exact b)
    rw [Nat.zero_add] at e
    exact e
def spFreeQ (K : PySem.W.Frag) (C : Addr) : Sp := fun vs H Q _ => ∃ (x l : Addr) (so : Str) (w : Int) (t : Str) (ys : List Str), vs = [.ref x, .str (nbase w t), .ref l] ∧ NmAt C H x so w ∧ t.length ≤ 1000 ∧ SqT K H l (ys.map V.str) ∧ ys.length ≤ 24 ∧ Q (.str (freeP so w t ys)) H
theorem cal_freeQ (B : Bi mg) (D : At K mg "free_name" s_free_name ps_free_name) (C_numbered : Cal P w K mg base 1 "numbered" ps_numbered (spNumQ C)) : Cal P w K mg base 2 "free_name" ps_free_name (spFreeQ K C) := by
  refine D.cal sc_free_name (fun vs H Q E h => ?_) (fun f cdv A outer s H vs Q E hr h => ?_)
  · obtain ⟨x, l, so, w, t, ys, rfl, _⟩ := h
    rfl
  · obtain ⟨x, l, so, w, t, ys, rfl, hN, tl, hl, y6, k⟩ := h
    refine ⟨_, (pss_cons (ps_set (i := 3) sc_free_name.nd rfl (.inl rfl) (pv 1))
      (pss_cons (ps_set (i := 4) sc_free_name.nd rfl (.inl rfl) pe_int)
      (pss_cons (ps_while PassesOwn.never (pt_cmpR op_in_seq (pv 3) (pv 2) (by rfl))
      (pss_cons (ps_aug (i := 4) sc_free_name.nd rfl (.inl rfl) pe_int ip_add)
      (pss_one (ps_set (i := 3) sc_free_name.nd rfl (.inl rfl) (pe_own C_numbered hr (by decide) (by rfl) (pa_cons (pv 0) (pa_cons (pv 1) (pa_cons (pv 4) pa_nil))))))))
      (pss_one (ps_ret (pv 3)))))), ?_⟩
    refine ⟨_, rfl, ?_⟩
    refine ⟨fun m σ J => ∃ i : Nat, m = 40 - i ∧ σ = [some (.ref x), some (.str (nbase w t)), some (.ref l), some (.str (triedP so w t i)), some (.int (1 + (i : Int)))] ∧ J = H ∧ ∀ j, j < i → triedP so w t j ∈ ys, ⟨40, 0, rfl, rfl, rfl, fun j hj => absurd hj (by omega)⟩, ?_⟩
    rintro m σ J ⟨i, rfl, rfl, rfl, hj⟩
    have hi := triedQ_free y6 hj
    refine ⟨_, rfl, _, rfl, l, _, rfl, .inr hl, rfl, flat_strs ys, _, rfl, ?_⟩
    rw [in_strs]
    refine ite2 (fun h1 => ?_) (fun h1 => ?_)
    · have h1 : triedP so w t i ∈ ys := of_decide_eq_true h1
      have hj2 : ∀ j, j < i + 1 → triedP so w t j ∈ ys := fun j hj3 => by
        rcases Nat.lt_or_ge j i with h | h
        · exact hj j h
        · rw [show j = i by omega]
          exact h1
      have hi2 := triedQ_free y6 hj2
      refine ⟨_, fun σ' H' h => h, _, rfl, _, _, rfl, rfl, ?_⟩
      refine ⟨_, rfl, _, rfl, _, rfl, x, so, w, _, t, rfl, hN, by show (0 : Int) ≤ 1 + (i : Int) + 1; omega, by show 1 + (i : Int) + 1 < 40; omega, tl, ?_⟩
      refine ⟨40 - (i + 1), by omega, i + 1, rfl, ?_, rfl, hj2⟩
      have e : (1 + (i : Int) + 1) = 2 + (i : Int) := by omega
      have e2 : (1 + ((i + 1 : Nat) : Int)) = 2 + (i : Int) := by omega
      rw [e2]
      show [_, _, _, some (V.str (numbered so w t (1 + (i : Int) + 1))), some (V.int (1 + (i : Int) + 1))] = _
      rw [e]
      rfl
    · have h1 : triedP so w t i ∉ ys := fun h => h1 (decide_eq_true h)
      rw [triedQ_is y6 hj h1] at k
      exact ⟨_, rfl, k⟩
/-- a name by what is there -/
def nextOf (so : Str) (w : Int) (t : Str) (us ys : List Str) : Str := if so = ("count" : String) then countedOf so w t us else freeP so w t ys
def spNextQ (K : PySem.W.Frag) (C : Addr) : Sp := fun vs H Q _ => ∃ (x a l : Addr) (so : Str) (w : Int) (t : Str) (us ys : List Str), vs = [.ref x, .str t, .ref a, .ref l] ∧ NmAt C H x so w ∧ t.length ≤ 1000 ∧ SqT K H a (us.map V.str) ∧ us.length ≤ 24 ∧ (∀ u ∈ us, Wd 200 u) ∧ SqT K H l (ys.map V.str) ∧ ys.length ≤ 24 ∧ ∀ G, Same H G → Q (.str (nextOf so w t us ys)) G
theorem cal_nextQ (B : Bi mg) (S : NmC K mg C) (D : At K mg "name_of_next" s_name_of_next ps_name_of_next) (C_base_of : Cal P w K mg base 1 "base_of" ps_base_of (spBaseOf C)) (C_counted_name : Cal P w K mg base 2 "counted_name" ps_counted_name (spCountedQ K C)) (C_free_name : Cal P w K mg base 2 "free_name" ps_free_name (spFreeQ K C)) : Cal P w K mg base 3 "name_of_next" ps_name_of_next (spNextQ K C) := by
  refine D.cal sc_name_of_next (fun vs H Q E h => ?_) (fun f cdv A outer s H vs Q E hr h => ?_)
  · obtain ⟨x, a, l, so, w, t, us, ys, rfl, _⟩ := h
    rfl
  · obtain ⟨x, a, l, so, w, t, us, ys, rfl, hN, tl, ha, u6, wu, hl, y6, k⟩ := h
    obtain ⟨dx, e1⟩ := id hN
    refine ⟨_, (pss_cons (ps_set (i := 4) sc_name_of_next.nd rfl (.inl rfl) (pe_own C_base_of hr (by decide) (by rfl) (pa_cons (pv 0) (pa_cons (pv 1) pa_nil))))
      (pss_cons (ps_if (pt_cmpR op_eq (pe_fld (pv 0) rfl) pe_str (nomark _)) (pss_one (ps_ret (pe_own C_counted_name hr (by decide) (by rfl) (pa_cons (pv 0) (pa_cons (pv 4) (pa_cons (pv 2) pa_nil)))))) pss_nil)
      (pss_one (ps_ret (pe_own C_free_name hr (by decide) (by rfl) (pa_cons (pv 0) (pa_cons (pv 4) (pa_cons (pv 3) pa_nil)))))))), ?_⟩
    refine ⟨_, rfl, _, rfl, x, so, w, t, rfl, hN, tl, ?_⟩
    refine ⟨_, rfl, x, C, dx, _, _, rfl, e1, S.cl, S.nR, nflds_rule _ _, rfl, _, rfl, ite2 (fun h1 => ?_) (fun h1 => ?_)⟩
    · rw [str_eq_iff] at h1
      unfold nextOf at k
      rw [if_pos (of_decide_eq_true h1)] at k
      exact ⟨_, rfl, _, rfl, _, rfl, x, a, so, w, t, us, rfl, hN, tl, ha, u6, wu, k⟩
    · rw [str_eq_iff] at h1
      unfold nextOf at k
      rw [if_neg (of_decide_eq_false (Bool.eq_false_iff.mpr h1))] at k
      exact ⟨_, rfl, _, rfl, _, rfl, x, l, so, w, t, ys, rfl, hN, tl, hl, y6, k H (Same.refl H)⟩
end
end Gu
namespace Gu
open PySem PySem.Spec PyProof.Rows L2
/-! ### the program: named, names, behind nq -/
section
variable {P : Program} {w : World} {K : PySem.W.Frag} {mg : Str → Option Value} {base : Heap} {C : Addr}
def spFreeL (K : PySem.W.Frag) (C : Addr) : Sp := fun vs H Q _ => ∃ (x l : Addr) (so : Str) (w : Int) (t : Str) (ys : List Str), vs = [.ref x, .str (nbase w t), .ref l] ∧ NmAt C H x so w ∧ t.length ≤ 1000 ∧ SqL K H l (ys.map V.str) ∧ ys.length ≤ 24 ∧ Q (.str (freeP so w t ys)) H
theorem cal_freeL (B : Bi mg) (D : At K mg "free_name" s_free_name ps_free_name) (C_numbered : Cal P w K mg base 1 "numbered" ps_numbered (spNumQ C)) : Cal P w K mg base 2 "free_name" ps_free_name (spFreeL K C) := by
  refine D.cal sc_free_name (fun vs H Q E h => ?_) (fun f cdv A outer s H vs Q E hr h => ?_)
  · obtain ⟨x, l, so, w, t, ys, rfl, _⟩ := h
    rfl
  · obtain ⟨x, l, so, w, t, ys, rfl, hN, tl, hl, y6, k⟩ := h
    refine ⟨_, (pss_cons (ps_set (i := 3) sc_free_name.nd rfl (.inl rfl) (pv 1))
      (pss_cons (ps_set (i := 4) sc_free_name.nd rfl (.inl rfl) pe_int)
      (pss_cons (ps_while PassesOwn.never (pt_cmpR op_in_seq (pv 3) (pv 2) (by rfl))
      (pss_cons (ps_aug (i := 4) sc_free_name.nd rfl (.inl rfl) pe_int ip_add)
      (pss_one (ps_set (i := 3) sc_free_name.nd rfl (.inl rfl) (pe_own C_numbered hr (by decide) (by rfl) (pa_cons (pv 0) (pa_cons (pv 1) (pa_cons (pv 4) pa_nil))))))))
      (pss_one (ps_ret (pv 3)))))), ?_⟩
    refine ⟨_, rfl, ?_⟩
    refine ⟨fun m σ J => ∃ i : Nat, m = 40 - i ∧ σ = [some (.ref x), some (.str (nbase w t)), some (.ref l), some (.str (triedP so w t i)), some (.int (1 + (i : Int)))] ∧ J = H ∧ ∀ j, j < i → triedP so w t j ∈ ys, ⟨40, 0, rfl, rfl, rfl, fun j hj => absurd hj (by omega)⟩, ?_⟩
    rintro m σ J ⟨i, rfl, rfl, rfl, hj⟩
    have hi := triedQ_free y6 hj
    refine ⟨_, rfl, _, rfl, l, _, rfl, .inl hl, rfl, flat_strs ys, _, rfl, ?_⟩
    rw [in_strs]
    refine ite2 (fun h1 => ?_) (fun h1 => ?_)
    · have h1 : triedP so w t i ∈ ys := of_decide_eq_true h1
      have hj2 : ∀ j, j < i + 1 → triedP so w t j ∈ ys := fun j hj3 => by
        rcases Nat.lt_or_ge j i with h | h
        · exact hj j h
        · rw [show j = i by omega]
          exact h1
      have hi2 := triedQ_free y6 hj2
      refine ⟨_, fun σ' H' h => h, _, rfl, _, _, rfl, rfl, ?_⟩
      refine ⟨_, rfl, _, rfl, _, rfl, x, so, w, _, t, rfl, hN, by show (0 : Int) ≤ 1 + (i : Int) + 1; omega, by show 1 + (i : Int) + 1 < 40; omega, tl, ?_⟩
      refine ⟨40 - (i + 1), by omega, i + 1, rfl, ?_, rfl, hj2⟩
      have e : (1 + (i : Int) + 1) = 2 + (i : Int) := by omega
      have e2 : (1 + ((i + 1 : Nat) : Int)) = 2 + (i : Int) := by omega
      rw [e2]
      show [_, _, _, some (V.str (numbered so w t (1 + (i : Int) + 1))), some (V.int (1 + (i : Int) + 1))] = _
      rw [e]
      rfl
    · have h1 : triedP so w t i ∉ ys := fun h => h1 (decide_eq_true h)
      rw [triedQ_is y6 hj h1] at k
      exact ⟨_, rfl, k⟩
def spNextL (K : PySem.W.Frag) (C : Addr) : Sp := fun vs H Q _ => ∃ (x a l : Addr) (so : Str) (w : Int) (t : Str) (us ys : List Str), vs = [.ref x, .str t, .ref a, .ref l] ∧ NmAt C H x so w ∧ t.length ≤ 1000 ∧ SqT K H a (us.map V.str) ∧ us.length ≤ 24 ∧ (∀ u ∈ us, Wd 200 u) ∧ SqL K H l (ys.map V.str) ∧ ys.length ≤ 24 ∧ ∀ G, Same H G → Q (.str (nextOf so w t us ys)) G
theorem cal_nextL (B : Bi mg) (S : NmC K mg C) (D : At K mg "name_of_next" s_name_of_next ps_name_of_next) (C_base_of : Cal P w K mg base 1 "base_of" ps_base_of (spBaseOf C)) (C_counted_name : Cal P w K mg base 2 "counted_name" ps_counted_name (spCountedQ K C)) (C_free_name : Cal P w K mg base 2 "free_name" ps_free_name (spFreeL K C)) : Cal P w K mg base 3 "name_of_next" ps_name_of_next (spNextL K C) := by
  refine D.cal sc_name_of_next (fun vs H Q E h => ?_) (fun f cdv A outer s H vs Q E hr h => ?_)
  · obtain ⟨x, a, l, so, w, t, us, ys, rfl, _⟩ := h
    rfl
  · obtain ⟨x, a, l, so, w, t, us, ys, rfl, hN, tl, ha, u6, wu, hl, y6, k⟩ := h
    obtain ⟨dx, e1⟩ := id hN
    refine ⟨_, (pss_cons (ps_set (i := 4) sc_name_of_next.nd rfl (.inl rfl) (pe_own C_base_of hr (by decide) (by rfl) (pa_cons (pv 0) (pa_cons (pv 1) pa_nil))))
      (pss_cons (ps_if (pt_cmpR op_eq (pe_fld (pv 0) rfl) pe_str (nomark _)) (pss_one (ps_ret (pe_own C_counted_name hr (by decide) (by rfl) (pa_cons (pv 0) (pa_cons (pv 4) (pa_cons (pv 2) pa_nil)))))) pss_nil)
      (pss_one (ps_ret (pe_own C_free_name hr (by decide) (by rfl) (pa_cons (pv 0) (pa_cons (pv 4) (pa_cons (pv 3) pa_nil)))))))), ?_⟩
    refine ⟨_, rfl, _, rfl, x, so, w, t, rfl, hN, tl, ?_⟩
    refine ⟨_, rfl, x, C, dx, _, _, rfl, e1, S.cl, S.nR, nflds_rule _ _, rfl, _, rfl, ite2 (fun h1 => ?_) (fun h1 => ?_)⟩
    · rw [str_eq_iff] at h1
      unfold nextOf at k
      rw [if_pos (of_decide_eq_true h1)] at k
      exact ⟨_, rfl, _, rfl, _, rfl, x, a, so, w, t, us, rfl, hN, tl, ha, u6, wu, k⟩
    · rw [str_eq_iff] at h1
      unfold nextOf at k
      rw [if_neg (of_decide_eq_false (Bool.eq_false_iff.mpr h1))] at k
      exact ⟨_, rfl, _, rfl, _, rfl, x, l, so, w, t, ys, rfl, hN, tl, hl, y6, k H (Same.refl H)⟩
theorem pairsOf_fst (so : Str) (w : Int) : ∀ (n : Nat) (ts : List Str), ts.length = n → (pairsOf so w ts).map (·.1) = ts
  | 0, ts, h => by
    cases ts with
    | nil => rfl
    | cons t ts => cases h
  | n + 1, ts, h => by
    rcases List.eq_nil_or_concat ts with rfl | ⟨us, t, rfl⟩
    · rfl
    · rw [List.concat_eq_append] at h ⊢
      rw [List.length_append] at h
      rw [pairsOf_snoc, List.map_append, pairsOf_fst so w n us (by simp only [List.length_singleton] at h; omega)]
      rfl
theorem nextOf_pairs (so : Str) (w : Int) (t : Str) (us : List Str) : nextOf so w t us (namesOf so w us) = nameOf so w t (pairsOf so w us) := by
  have e : (alike w t us).length = (mates w t (pairsOf so w us)).length := by
    unfold mates alike
    rw [← List.length_map (f := fun q : Str × Str => q.1), ← List.countP_eq_length_filter, List.length_map, ← List.countP_eq_length_filter]
    conv => lhs; rw [← pairsOf_fst so w us.length us rfl]
    rw [List.countP_map]
    rfl
  unfold nextOf nameOf countedOf freeP namesOf
  rw [e]
theorem namesOf_snoc (so : Str) (w : Int) (ts : List Str) (t : Str) : namesOf so w (ts ++ [t]) = namesOf so w ts ++ [nextOf so w t ts (namesOf so w ts)] := by
  rw [nextOf_pairs]
  unfold namesOf
  rw [pairsOf_snoc, List.map_append]
  rfl
theorem slTP_ok {H : Hp} {a : Addr} {xs : List V} {Q : VK} {lo hi : Option Int} (ha : SqT K H a xs) (q : ∀ U G, Same H G → SqT K G U (cutV xs lo hi) → Q (.ref U) G) : rSlA K (.ref a) lo hi H Q := by
  refine ⟨a, xs, rfl, ha, fun ⟨e1, e2⟩ => q a H (Same.refl H) ?_, fun _ p np => q p _ (same_new np) (.inl (.inl upd_same))⟩
  unfold cutV
  rw [e1, e2, List.drop_zero, Nat.sub_zero, List.take_length]
  exact ha
theorem cutV_headP (xs : List V) (i : Nat) : cutV xs none (some (i : Int)) = xs.take i := by
  unfold cutV
  rw [HT.sIx_none, HT.sIx_nat, List.drop_zero, Nat.sub_zero, List.take_eq_take_iff]
  omega
theorem cal_named (B : Bi mg) (D : At K mg "named" s_named ps_named) (C_name_of_next : Cal P w K mg base 3 "name_of_next" ps_name_of_next (spNextL K C)) : Cal P w K mg base 4 "named" ps_named (spNamesP K (NmAt C)) := by
  refine D.cal sc_named (fun vs H Q E h => ?_) (fun f cdv A outer s H vs Q E hr h => ?_)
  · obtain ⟨x, l, so, w, ts, rfl, _⟩ := h
    rfl
  · obtain ⟨x, l, so, w, ts, rfl, hN, hso, w0, w1, hl, t6, wt, k⟩ := h
    refine ⟨_, (pss_cons (ps_set (i := 2) sc_named.nd rfl (.inl rfl) (pe_lst pa_nil))
      (pss_cons (ps_for PassesOwn.never rfl (pi_enT (by rfl) B.enumerate (pa_cons (pv 1) pa_nil)) (pg_tup rfl (pgs_cons (pg_name (i := 3) sc_named.nd rfl (.inl rfl)) (pgs_cons (pg_name (i := 4) sc_named.nd rfl (.inl rfl)) pgs_nil)))
      (pss_one (ps_expr (pe_bm PySem.F.plainAttrs_list PySem.F.slot_list_append PySem.F.type_list_append mt_append (pv 2) (pa_cons (pe_own C_name_of_next hr (by decide) (by rfl) (pa_cons (pv 0) (pa_cons (pv 4) (pa_cons (pe_slice sl_tupA (pv 1) po_none (po_some (pv 3))) (pa_cons (pv 2) pa_nil))))) pa_nil)))))
      (pss_one (ps_ret (pe_callTy call_tuple_of (by rfl) B.tuple (by decide +kernel) (pa_cons (pv 2) pa_nil)))))), ?_⟩
    refine ⟨Nat.zero_le _, fun g ng => ?_⟩
    have s0 : Same H (upd H g (.lst [])) := same_new ng
    refine ⟨_, rfl, l, _, rfl, st_same s0 hl, for_it walk_enT (fun i σ J => ∃ u v, σ = [some (.ref x), some (.ref l), some (.ref g), u, v] ∧ Same H J ∧ J g = some (.lst ((namesOf so w (ts.take i)).map V.str)))
      ⟨none, none, rfl, s0, upd_same⟩ (fun i σ J _ ⟨_, _, _, sJ, _⟩ => st_same sJ hl) ?_ ?_⟩
    · rintro i v σ J J1 hi ⟨u, v2, rfl, sJ, eg⟩ ⟨T, z, hx, rfl, nT, rfl⟩
      obtain ⟨t, ht, rfl, mt⟩ := atP_strs hx
      have il : i < ts.length := (List.getElem?_eq_some_iff.mp ht).1
      have sT : Same J (upd J T (.tup [.int (i : Nat), .str t])) := same_new nT
      have tl : t.length ≤ 200 := (wt t mt).len
      refine ⟨T, _, rfl, .inl (.inl upd_same), rfl, _, _, rfl, _, _, rfl, rfl, ?_⟩
      have nl : (namesOf so w (ts.take i)).length = i := by
        rw [names_len, List.length_take]
        omega
      refine ⟨_, rfl, .inl ⟨rfl, _, .inl (.inl (sT _ _ eg))⟩, ?_⟩
      refine ⟨_, rfl, _, rfl, _, rfl, _, rfl, _, rfl, slTP_ok (st_same (sJ.trans sT) hl) fun U G sU eU => ?_⟩
      rw [cutV_headP, ← List.map_take] at eU
      refine ⟨_, rfl, x, U, g, so, w, t, ts.take i, namesOf so w (ts.take i), rfl, hN.same (sJ.trans (sT.trans sU)), by omega, eU, ?_, fun y hy => wt y (List.mem_of_mem_take hy), .inl (.inl (sU _ _ (sT _ _ eg))), by omega, fun G2 s2 => ?_⟩
      · rw [List.length_take]
        omega
      · have sA : Same H G2 := sJ.trans (sT.trans (sU.trans s2))
        refine ⟨g, _, _, rfl, rfl, s2 _ _ (sU _ _ (sT _ _ eg)), ?_, ?_⟩
        · rw [List.length_map]
          exact small1000 (by omega)
        · refine ⟨_, _, rfl, same_off sA ng, ?_⟩
          rw [upd_same, take_next ht, namesOf_snoc, List.map_append]
          rfl
    · rintro σ J ⟨u, v, rfl, sJ, eg⟩
      rw [List.length_map, List.take_length] at eg
      exact ⟨_, rfl, g, _, rfl, .inl ⟨.inl (.inl eg), fun p np => k p _ (.inl (.inl upd_same)) (sJ.trans (same_new np))⟩⟩
theorem cal_namesP (B : Bi mg) (D : At K mg "names" s_names ps_names) (C_check_namer : Cal P w K mg base 1 "check_namer" ps_check_namer (spCheckNamer C)) (C_check_texts : Cal P w K mg base 2 "check_texts" ps_check_texts (spCheckTexts K)) (C_named : Cal P w K mg base 4 "named" ps_named (spNamesP K (NmAt C))) : Cal P w K mg base 5 "names" ps_names (spNamesP K (NmAt C)) := by
  refine D.cal sc_names (fun vs H Q E h => ?_) (fun f cdv A outer s H vs Q E hr h => ?_)
  · obtain ⟨x, l, so, w, ts, rfl, _⟩ := h
    rfl
  · obtain ⟨x, l, so, w, ts, rfl, hN, hso, w0, w1, hl, t6, wt, k⟩ := h
    refine ⟨_, (pss_cons (ps_expr (pe_own C_check_namer hr (by decide) (by rfl) (pa_cons (pv 0) pa_nil)))
      (pss_cons (ps_expr (pe_own C_check_texts hr (by decide) (by rfl) (pa_cons (pv 1) (pa_cons (pe_cst B.MOST_LISTED (by rfl)) pa_nil))))
      (pss_one (ps_ret (pe_own C_named hr (by decide) (by rfl) (pa_cons (pv 0) (pa_cons (pv 1) pa_nil))))))), ?_⟩
    refine ⟨_, rfl, x, so, w, rfl, hN, ?_⟩
    refine ⟨_, rfl, l, ts, _, rfl, hl, by omega, wt, fun G sG => ?_⟩
    exact ⟨_, rfl, _, rfl, x, l, so, w, ts, rfl, hN.same sG, hso, w0, w1, st_same sG hl, t6, wt, fun p G2 e2 s2 => k p G2 e2 (sG.trans s2)⟩
end
end Gu
namespace Gu
open PySem PySem.Spec PyProof.Rows L2
/-! ### sets made of a list or a tuple of keys -/
/-- each once, in the order of their first coming -/
def dds {α : Type} [DecidableEq α] (ks : List α) : List α := ks.foldl (fun acc k => if k ∈ acc then acc else acc ++ [k]) []
/-- j is among ks -/
def isIn {α : Type} [DecidableEq α] (ks : List α) (j : α) : Bool := decide (j ∈ ks)
theorem dds_snoc {α : Type} [DecidableEq α] (ks : List α) (k : α) : dds (ks ++ [k]) = if k ∈ dds ks then dds ks else dds ks ++ [k] := by
  unfold dds
  rw [List.foldl_append]
  rfl
theorem mem_dds {α : Type} [DecidableEq α] {j : α} (ks : List α) : j ∈ dds ks ↔ j ∈ ks := by
  have main : ∀ (ks acc : List α), j ∈ ks.foldl (fun acc k => if k ∈ acc then acc else acc ++ [k]) acc ↔ j ∈ acc ∨ j ∈ ks := by
    intro ks
    induction ks with
    | nil =>
      intro acc
      show j ∈ acc ↔ _
      simp
    | cons k ks ih =>
      intro acc
      show j ∈ ks.foldl _ (if k ∈ acc then acc else acc ++ [k]) ↔ _
      rw [ih]
      by_cases h : k ∈ acc
      · rw [if_pos h, List.mem_cons]
        constructor
        · rintro (h1 | h1)
          · exact .inl h1
          · exact .inr (.inr h1)
        · rintro (h1 | h1 | h1)
          · exact .inl h1
          · exact .inl (h1 ▸ h)
          · exact .inr h1
      · rw [if_neg h, List.mem_append, List.mem_singleton, List.mem_cons, or_assoc]
  have := main ks []
  unfold dds
  rw [this]
  simp
theorem dds_nodup {α : Type} [DecidableEq α] (ks : List α) : (dds ks).Nodup := by
  have main : ∀ (ks acc : List α), acc.Nodup → (ks.foldl (fun acc k => if k ∈ acc then acc else acc ++ [k]) acc).Nodup := by
    intro ks
    induction ks with
    | nil => exact fun acc h => h
    | cons k ks ih =>
      intro acc h
      show (ks.foldl _ (if k ∈ acc then acc else acc ++ [k])).Nodup
      apply ih
      by_cases e : k ∈ acc
      · rw [if_pos e]
        exact h
      · rw [if_neg e, List.nodup_append]
        refine ⟨h, by simp, fun a ha b hb => ?_⟩
        rw [List.mem_singleton.mp hb]
        exact fun q => e (q ▸ ha)
  exact main ks [] List.nodup_nil
theorem dds_len {α : Type} [DecidableEq α] (ks : List α) : (dds ks).length ≤ ks.length := by
  have main : ∀ (ks acc : List α), (ks.foldl (fun acc k => if k ∈ acc then acc else acc ++ [k]) acc).length ≤ acc.length + ks.length := by
    intro ks
    induction ks with
    | nil => exact fun acc => Nat.le_refl _
    | cons k ks ih =>
      intro acc
      refine Nat.le_trans (ih _) ?_
      show (if k ∈ acc then acc else acc ++ [k]).length + _ ≤ _
      split
      · simp only [List.length_cons]
        omega
      · simp only [List.length_cons, List.length_append, List.length_nil]
        omega
  have e := main ks []
  rw [List.length_nil, Nat.zero_add] at e
  exact e
section
variable {prog : Program} {w : World} {A : Around} {R : Result → Shared → Prop} {I : Addr} {fp wr : List Addr} {G : Array GenState → Array GenState → Prop} {n : Nat} {Py : Nat → Value → Prop} {St : Nat → Shared → Prop} {α : Type} [DecidableEq α] {knd : KeyKind prog w α}
theorem fill_set (W : WalksS prog w A.in1 I fp wr G n Py St) (T : Addr) (away : T ∉ fp) (ks : List α) (many : n = ks.length) (few : ks.length + 1 < scanBound)
    (drawn : ∀ i v, Py i v → ∃ k, ks[i]? = some k ∧ knd.is k v = true ∧ v.scannable = true) :
    ∀ (left i : Nat) (s : Shared), n - i = left → i ≤ n → St i s → s.heap.SetOf knd T (isIn (ks.take i)) (dds (ks.take i)).length →
      (∀ t, Moved (T :: wr) G s t → t.heap.SetOf knd T (isIn ks) (dds ks).length → R (.ok (.ret .none)) t) →
      codeAny (model prog w) A (.builtin "set.update.loop" ⟨[.ref T, .ref I], []⟩) R s := by
  have awayW : T ∉ wr := fun h => away (W.sub _ h)
  have wider : ∀ b ∈ wr, b ∈ T :: wr := fun b q => List.mem_cons_of_mem _ q
  intro left
  induction left with
  | zero =>
    intro i s el il st so goal
    have ei : i = n := by omega
    subst ei
    refine codeAny_builtin F.entry_set_update_loop ?_
    rw [Around.under_plainId F.plain_set_update_loop _]
    show wpAny _ A.in1 (pyNext (.ref I) >>= _) _ _ s
    refine wpAny_bind (W.done s _ _ st fun t mv => ?_)
    show wpAny _ A.in1 (ret Value.none) _ _ t
    have full : ks.take i = ks := List.take_of_length_le (by omega)
    rw [full] at so
    refine wpAny_pure (goal t (mv.mono wider) ?_)
    obtain ⟨o, es, ep, tb, ho, more⟩ := so
    exact ⟨o, es, ep, tb, mv.heap T _ awayW ho, more⟩
  | succ left ih =>
    intro i s el il st so goal
    have less : i < n := by omega
    refine codeAny_builtin F.entry_set_update_loop ?_
    rw [Around.under_plainId F.plain_set_update_loop _]
    show wpAny _ A.in1 (pyNext (.ref I) >>= _) _ _ s
    refine wpAny_bind (W.item i s _ _ less st fun v t py st1 mv => ?_)
    obtain ⟨k, ek, isk, sc⟩ := drawn i v py
    have so1 : t.heap.SetOf knd T (isIn (ks.take i)) (dds (ks.take i)).length := by
      obtain ⟨o, es, ep, tb, ho, more⟩ := so
      exact ⟨o, es, ep, tb, mv.heap T _ awayW ho, more⟩
    show wpAny _ A.in1 (holding [v] (setAdd T v) >>= _) _ _ t
    refine wpAny_bind (wpAny_holding ?_)
    unfold setAdd
    refine wpAny_holding ?_
    refine wpAny_bind (knd.pyHash isk ?_)
    have room1 : (dds (ks.take i)).length + 1 < scanBound := by
      have a := dds_len (ks.take i)
      rw [List.length_take] at a
      omega
    refine wpAny_setAddHashed_of (knd := knd) (s := { t with toks := t.toks + 1 }) isk sc so1 room1 fun h2 sb so2 => ?_
    have snoc : ks.take (i + 1) = ks.take i ++ [k] := by
      rw [List.take_add_one, ek]
      rfl
    have so3 : h2.SetOf knd T (isIn (ks.take (i + 1))) (dds (ks.take (i + 1))).length := by
      have e1 : (fun j => isIn (ks.take i) j || decide (j = k)) = isIn (ks.take (i + 1)) := by
        funext j
        unfold isIn
        rw [snoc]
        simp [List.mem_append]
      have e2 : (if isIn (ks.take i) k = true then (dds (ks.take i)).length else (dds (ks.take i)).length + 1) = (dds (ks.take (i + 1))).length := by
        rw [snoc, dds_snoc]
        unfold isIn
        by_cases q : k ∈ ks.take i
        · rw [if_pos (decide_eq_true q), if_pos ((mem_dds _).mpr q)]
        · rw [if_neg (fun z => q (of_decide_eq_true z)), if_neg (fun z => q ((mem_dds _).mp z)), List.length_append]
          rfl
      rw [← e1, ← e2]
      exact so2
    refine wpAny_pure ⟨plainId_quiet F.plain_set_update_loop _, ih (i + 1) _ (by omega) less (W.frame _ t _ _ st1 (Nat.le_succ _) fun b q o e => ?_) so3 fun t2 mv2 so4 => ?_⟩
    · rw [sb.2 b (fun z : b = T => away (z ▸ q))]
      exact e
    · refine goal t2 (Moved.trans W.gtrans ((mv.mono wider).then_heap (Nat.le_succ _) fun b o q e => ?_) mv2) so4
      rw [sb.2 b (fun z : b = T => q (by rw [z]; exact List.mem_cons_self))]
      exact e
end
section
variable {prog : Program} {w : World} {A : Around} {E : Value → Shared → Prop} {s : Shared}
/-- the empty set's object, by its way of order -/
abbrev noneIn (b : Bool) : Obj := { cls := .type "set", dict := none, data := .set #[] 0 (.fresh 0 0 b) }
set_option maxHeartbeats 3200000 in
theorem init_goes {T l : Addr} {b : Bool} {Q : PySem.Fin → Shared → Prop} {TY : String} {od : Option Addr} {dt : Data} {sl : Array (Option Value)} (at_T : s.heap.get? T = some (noneIn b)) (at_l : s.heap.get? l = some { cls := .type TY, dict := od, data := dt, slots := sl })
    (notS : isSubtype (.type TY) (.type "set") = pure false) (notF : isSubtype (.type TY) (.type "frozenset") = pure false) (notD : (Value.type TY == Value.type "dict") = false)
    (h : wpAny (model prog w) A (pyIter (.ref l)) (fun a t => wpAny (model prog w) A (do let _ ← runValue (Code.builtin "set.update.loop" { pos := [Value.ref T, a] }); pure ()) (fun _ t2 => wpAny (model prog w) A (ret Value.none) Q E t2) E t) E s) :
    wpAny (model prog w) A (Builtin.«set.__init__» ⟨[.ref T, .ref l], []⟩) Q E s := by
  have isS : Shared.TypeIs s (.ref T) "set" := ⟨_, at_T, rfl⟩
  unfold Builtin.«set.__init__» noKeywords Builtin.Frozenset.updateFrom
  revert h
  generalize pyIter = PI
  intro h
  wp_walk
  exact h
end
section
variable {prog : Program} {w : World} {A : Around} {E : Value → Shared → Prop} {s : Shared} {α : Type} [DecidableEq α] {knd : KeyKind prog w α}
set_option maxHeartbeats 3200000 in
theorem call_setOfL {l : Addr} {items : Array Value} (ks : List α) {Q : Value → Shared → Prop} (calm : A.handled = none) (at_l : s.heap.IsList l items) (size : items.size = ks.length) (few : ks.length + 1 < scanBound)
    (keys : ∀ (i : Nat) (v : Value), items[i]? = some v → ∃ k : α, ks[i]? = some k ∧ knd.is k v = true ∧ v.scannable = true)
    (h : ∀ (g : Heap) (tk : Nat), g.SetOf knd s.heap.objs.size (isIn ks) (dds ks).length → (∀ b o, s.heap.get? b = some o → g.get? b = some o) → Q (.ref s.heap.objs.size) { s with heap := g, toks := tk }) :
    wpAny (model prog w) A (call (.type "set") [.ref l]) Q E s := by
  obtain ⟨c0, tl0, mro0⟩ := F.called_set.mro
  have made0 := F.called_set.made
  have sub0 := F.called_set.sub
  refine wpAny_call (codeAny_of_tree ?_)
  show wpAny _ _ (callAny (.type "set") _) _ _ _
  refine wpAny_pure ⟨Code.quiet_builtin _ (by decide +kernel), codeAny_builtin F.entry_type_call ?_⟩
  rw [Around.under_plain (weight_type_call_type "set" [.ref l] []) rfl]
  have nt0 := F.called_set.notType
  have cc0 := F.called_set.canCreate
  have tc0 := F.typeCall_set_1 (.ref l)
  repeat (any_goals (first | assumption | wp_step))
  refine codeAny_mono (code_set_new_1 (.ref l) (E := E) (Q₁ := fun x t => ∃ b : Bool, x = .ref s.heap.objs.size ∧ t = { s with heap := s.heap.push (noneIn b) }) fun b => ⟨b, rfl, rfl⟩) fun r t hr => ?_
  cases r with
  | error e => exact hr
  | ok fl =>
    cases fl with
    | next => exact (hr : False).elim
    | brk => exact (hr : False).elim
    | cont => exact (hr : False).elim
    | ret x =>
      obtain ⟨b0, rfl, rfl⟩ := hr
      have new0 : (s.heap.push (noneIn b0)).get? s.heap.objs.size = some (noneIn b0) := Heap.get?_push_size _ rfl
      have isS : Shared.TypeIs { s with heap := s.heap.push (noneIn b0) } (.ref s.heap.objs.size) "set" := ⟨_, new0, rfl⟩
      have li0 := F.called_set.init.lookup
      have bi0 := F.called_set.init.bind (.ref s.heap.objs.size)
      repeat (any_goals (first | assumption | wp_step))
      refine codeAny_mono (codeAny_call_builtin (R := wants (fun y t2 => y = .none ∧ ∃ (g : Heap) (tk : Nat), t2 = { s with heap := g, toks := tk } ∧ g.SetOf knd s.heap.objs.size (isIn ks) (dds ks).length ∧ (∀ b o, s.heap.get? b = some o → g.get? b = some o)) E)
        F.called_set.init.plain F.entry_set_init (check_set_init_1 isS ?_)) fun r2 t2 hr2 => ?_
      · obtain ⟨ol, hol, cl0, nl, dl0⟩ := at_l
        obtain ⟨ocls, odict, odata, oslots⟩ := ol
        simp only at cl0 dl0
        subst cl0
        subst dl0
        have hol1 : (s.heap.push (noneIn b0)).get? l = some { cls := .type "list", dict := odict, data := .seq items nl, slots := oslots } := Heap.get?_push_of_some _ hol
        have notS := F.sub_list_set
        have notF := F.sub_list_frozenset
        have notD : (Value.type "list" == Value.type "dict") = false := by decide
        have at1 : (s.heap.push (noneIn b0)).IsList l items := ⟨_, hol1, rfl, nl, rfl⟩
        refine init_goes (b := b0) new0 hol1 notS notF notD ?_
        refine wpAny_pyIter_list at1 ?_
        refine wpAny_bind (wpAny_runValue ?_)
        have lt0 : l < s.heap.objs.size := Heap.lt_size hol
        have calm3 : A.in1.in1.in1.handled = none := by simp [calm]
        have z1 : (s.heap.push (noneIn b0)).objs.size = s.heap.objs.size + 1 := Heap.size_push ..
        have apart : l ≠ (s.heap.push (noneIn b0)).objs.size := by
          rw [z1]
          exact Nat.ne_of_lt (Nat.lt_succ_of_lt lt0)
        have off : s.heap.objs.size ∉ [(s.heap.push (noneIn b0)).objs.size, l] := by
          rw [z1]
          intro q
          rcases List.mem_cons.mp q with q | q
          · exact absurd q (Nat.ne_of_lt (Nat.lt_succ_self _))
          · exact absurd (List.mem_singleton.mp q) (Nat.ne_of_gt lt0)
        refine fill_set ((Walks.list calm3 _ l apart items).toS) s.heap.objs.size off ks size few keys (items.size - 0) 0 _ (by omega) (Nat.zero_le _) ⟨⟨_, Heap.get?_push_size _ rfl, rfl, rfl⟩, (at1.push _)⟩ ?first ?last
        case first =>
          have got : ((s.heap.push (noneIn b0)).push { cls := .type "list_iterator", data := .fields #[.ref l, .int 0 0] }).get? s.heap.objs.size = some (noneIn b0) := Heap.get?_push_of_some _ new0
          refine ⟨_, #[], 0, _, got, ⟨rfl, rfl, rfl⟩, rfl, (fun e he => by simp at he), (fun k => by simp [isIn]), (by decide), (by rfl), rfl⟩
        case last =>
          intro t3 mv so
          obtain ⟨g, gn, dr, tk, os⟩ := t3
          have e1 : gn = s.gens := mv.gens
          have e2 : dr = s.drawn := mv.drawn
          have e3 : os = s.os := mv.os
          subst e1
          subst e2
          subst e3
          show wpAny _ _ _ _ _ _
          refine wpAny_pure ?_
          show wpAny _ _ (ret Value.none) _ _ _
          refine wpAny_pure ⟨rfl, g, tk, rfl, so, fun b o e => ?_⟩
          have below : b < s.heap.objs.size := Heap.lt_size e
          refine mv.heap b o (fun q => ?_) (Heap.get?_push_of_some _ (Heap.get?_push_of_some _ e))
          rcases List.mem_cons.mp q with q | q
          · exact absurd q (Nat.ne_of_lt below)
          · have q2 := List.mem_singleton.mp q
            rw [z1] at q2
            exact absurd q2 (Nat.ne_of_lt (Nat.lt_succ_of_lt below))
      · cases r2 with
        | error e => exact hr2
        | ok fl2 =>
          cases fl2 with
          | next => exact (hr2 : False).elim
          | brk => exact (hr2 : False).elim
          | cont => exact (hr2 : False).elim
          | ret y =>
            obtain ⟨rfl, g, tk, rfl, so, keep⟩ := hr2
            repeat (any_goals (first | assumption | wp_step))
            exact h _ _ so keep
end
section
variable {prog : Program} {w : World} {A : Around} {E : Value → Shared → Prop} {s : Shared} {α : Type} [DecidableEq α] {knd : KeyKind prog w α}
set_option maxHeartbeats 3200000 in
theorem call_setOfT {l : Addr} {items : Array Value} (ks : List α) {Q : Value → Shared → Prop} (calm : A.handled = none) (at_l : s.heap.IsTuple l items) (size : items.size = ks.length) (few : ks.length + 1 < scanBound)
    (keys : ∀ (i : Nat) (v : Value), items[i]? = some v → ∃ k : α, ks[i]? = some k ∧ knd.is k v = true ∧ v.scannable = true)
    (h : ∀ (g : Heap) (tk : Nat), g.SetOf knd s.heap.objs.size (isIn ks) (dds ks).length → (∀ b o, s.heap.get? b = some o → g.get? b = some o) → Q (.ref s.heap.objs.size) { s with heap := g, toks := tk }) :
    wpAny (model prog w) A (call (.type "set") [.ref l]) Q E s := by
  obtain ⟨c0, tl0, mro0⟩ := F.called_set.mro
  have made0 := F.called_set.made
  have sub0 := F.called_set.sub
  refine wpAny_call (codeAny_of_tree ?_)
  show wpAny _ _ (callAny (.type "set") _) _ _ _
  refine wpAny_pure ⟨Code.quiet_builtin _ (by decide +kernel), codeAny_builtin F.entry_type_call ?_⟩
  rw [Around.under_plain (weight_type_call_type "set" [.ref l] []) rfl]
  have nt0 := F.called_set.notType
  have cc0 := F.called_set.canCreate
  have tc0 := F.typeCall_set_1 (.ref l)
  repeat (any_goals (first | assumption | wp_step))
  refine codeAny_mono (code_set_new_1 (.ref l) (E := E) (Q₁ := fun x t => ∃ b : Bool, x = .ref s.heap.objs.size ∧ t = { s with heap := s.heap.push (noneIn b) }) fun b => ⟨b, rfl, rfl⟩) fun r t hr => ?_
  cases r with
  | error e => exact hr
  | ok fl =>
    cases fl with
    | next => exact (hr : False).elim
    | brk => exact (hr : False).elim
    | cont => exact (hr : False).elim
    | ret x =>
      obtain ⟨b0, rfl, rfl⟩ := hr
      have new0 : (s.heap.push (noneIn b0)).get? s.heap.objs.size = some (noneIn b0) := Heap.get?_push_size _ rfl
      have isS : Shared.TypeIs { s with heap := s.heap.push (noneIn b0) } (.ref s.heap.objs.size) "set" := ⟨_, new0, rfl⟩
      have li0 := F.called_set.init.lookup
      have bi0 := F.called_set.init.bind (.ref s.heap.objs.size)
      repeat (any_goals (first | assumption | wp_step))
      refine codeAny_mono (codeAny_call_builtin (R := wants (fun y t2 => y = .none ∧ ∃ (g : Heap) (tk : Nat), t2 = { s with heap := g, toks := tk } ∧ g.SetOf knd s.heap.objs.size (isIn ks) (dds ks).length ∧ (∀ b o, s.heap.get? b = some o → g.get? b = some o)) E)
        F.called_set.init.plain F.entry_set_init (check_set_init_1 isS ?_)) fun r2 t2 hr2 => ?_
      · obtain ⟨ol, hol, cl0, nl, dl0⟩ := at_l
        obtain ⟨ocls, odict, odata, oslots⟩ := ol
        simp only at cl0 dl0
        subst cl0
        subst dl0
        have hol1 : (s.heap.push (noneIn b0)).get? l = some { cls := .type "tuple", dict := odict, data := .seq items nl, slots := oslots } := Heap.get?_push_of_some _ hol
        have notS := F.sub_tuple_set
        have notF := F.sub_tuple_frozenset
        have notD : (Value.type "tuple" == Value.type "dict") = false := by decide
        have at1 : (s.heap.push (noneIn b0)).IsTuple l items := ⟨_, hol1, rfl, nl, rfl⟩
        refine init_goes (b := b0) new0 hol1 notS notF notD ?_
        refine wpAny_pyIter_tuple at1 ?_
        refine wpAny_bind (wpAny_runValue ?_)
        have lt0 : l < s.heap.objs.size := Heap.lt_size hol
        have calm3 : A.in1.in1.in1.handled = none := by simp [calm]
        have z1 : (s.heap.push (noneIn b0)).objs.size = s.heap.objs.size + 1 := Heap.size_push ..
        have apart : l ≠ (s.heap.push (noneIn b0)).objs.size := by
          rw [z1]
          exact Nat.ne_of_lt (Nat.lt_succ_of_lt lt0)
        have off : s.heap.objs.size ∉ [(s.heap.push (noneIn b0)).objs.size, l] := by
          rw [z1]
          intro q
          rcases List.mem_cons.mp q with q | q
          · exact absurd q (Nat.ne_of_lt (Nat.lt_succ_self _))
          · exact absurd (List.mem_singleton.mp q) (Nat.ne_of_gt lt0)
        refine fill_set ((Walks.tuple calm3 _ l apart items).toS) s.heap.objs.size off ks size few keys (items.size - 0) 0 _ (by omega) (Nat.zero_le _) ⟨⟨_, Heap.get?_push_size _ rfl, rfl, rfl⟩, (at1.push _)⟩ ?first ?last
        case first =>
          have got : ((s.heap.push (noneIn b0)).push { cls := .type "tuple_iterator", data := .fields #[.ref l, .int 0 0] }).get? s.heap.objs.size = some (noneIn b0) := Heap.get?_push_of_some _ new0
          refine ⟨_, #[], 0, _, got, ⟨rfl, rfl, rfl⟩, rfl, (fun e he => by simp at he), (fun k => by simp [isIn]), (by decide), (by rfl), rfl⟩
        case last =>
          intro t3 mv so
          obtain ⟨g, gn, dr, tk, os⟩ := t3
          have e1 : gn = s.gens := mv.gens
          have e2 : dr = s.drawn := mv.drawn
          have e3 : os = s.os := mv.os
          subst e1
          subst e2
          subst e3
          show wpAny _ _ _ _ _ _
          refine wpAny_pure ?_
          show wpAny _ _ (ret Value.none) _ _ _
          refine wpAny_pure ⟨rfl, g, tk, rfl, so, fun b o e => ?_⟩
          have below : b < s.heap.objs.size := Heap.lt_size e
          refine mv.heap b o (fun q => ?_) (Heap.get?_push_of_some _ (Heap.get?_push_of_some _ e))
          rcases List.mem_cons.mp q with q | q
          · exact absurd q (Nat.ne_of_lt below)
          · have q2 := List.mem_singleton.mp q
            rw [z1] at q2
            exact absurd q2 (Nat.ne_of_lt (Nat.lt_succ_of_lt below))
      · cases r2 with
        | error e => exact hr2
        | ok fl2 =>
          cases fl2 with
          | next => exact (hr2 : False).elim
          | brk => exact (hr2 : False).elim
          | cont => exact (hr2 : False).elim
          | ret y =>
            obtain ⟨rfl, g, tk, rfl, so, keep⟩ := hr2
            repeat (any_goals (first | assumption | wp_step))
            exact h _ _ so keep
end
theorem key_at : ∀ {ks : List Key} {us : List Value}, Vals (ks.map kV) us → ∀ (i : Nat) (v : Value), us[i]? = some v → ∃ k, ks[i]? = some k ∧ RelV (kV k) v
  | [], _, .nil, i, v, h => by simp at h
  | k :: ks, _, .cons r t, 0, v, h => by
    cases h
    exact ⟨k, rfl, r⟩
  | k :: ks, _, .cons r t, i + 1, v, h => key_at t i v h
/-- len(set(x)): how many different keys -/
def tLenSetK (K : PySem.W.Frag) (ta : TE) : TE := fun σ H Q => ta σ H fun x G => ∃ (l : Addr) (ks : List Key), x = .ref l ∧ (SqL K G l (ks.map kV) ∨ SqT K G l (ks.map kV)) ∧ ks.length ≤ 4000 ∧ Q (.int ((dds ks).length : Nat)) G
theorem pe_lenSetK {X : Cx} {a : Expr} {ta : TE} {p p2 q pos : Pos} (hg : Gl X "len") (hm : X.mg "len" = none) (hg2 : Gl X "set") (hm2 : X.mg "set" = none) (ha : PE X a ta) (calm : X.calm = true := by rfl)
    (na : starEach [a] X.env = (false, eval a X.env) :: starEach [] X.env := by rfl) : PE X (.Call (.Name "len" p) [.Call (.Name "set" p2) [a] [] q] [] pos) (tLenSetK X.K ta) := by
  refine ⟨fun pins s σ H Q I h => Call_ (ld_blt I hg hm boot_len (PyProof.Rows.callWith_builtin1 (PyProof.Rows.args_cons ?_ rfl) rfl rfl))⟩
  refine Call_ (ld_blt I hg2 hm2 boot_set (PyProof.Rows.callWith_type1 (PyProof.Rows.args_cons (thn (ha.run pins s σ H _ I h) fun v s1 ⟨x, G, I1, r1, q1⟩ => PyProof.Rows.args_nil ?_) na) na rfl))
  obtain ⟨l, ks, rfl, hq, few, q1⟩ := q1
  cases r1
  have fin : ∀ (g : Heap) (tk : Nat), g.SetOf (mixKind X.prog X.w) s1.heap.objs.size (isIn ks) (dds ks).length → (∀ b o, s1.heap.get? b = some o → g.get? b = some o) →
      wpAny (model X.prog X.w) X.A (call (.builtin "len") [.ref s1.heap.objs.size]) (fun v s' => ∃ (y : V) (J : Hp), Inv X pins σ J s' ∧ RelV y v ∧ Q y J) X.xe { s1 with heap := g, toks := tk } := by
    intro g tk so keep
    obtain ⟨o, es, ep, t, ho, hex, hd, _, _, _, hf, hn⟩ := so
    have I2 : Inv X pins σ G { s1 with heap := g, toks := tk } := I1.kept keep
    have b1 := dds_len ks
    exact call_len_set ho hex hd hf (by rw [hn]; omega) ⟨.int ((dds ks).length : Nat), G, I2.tok _, ⟨_, by rw [hn]⟩, q1⟩
  rcases hq with hq | hq
  · obtain ⟨its, r, pl, hz⟩ := I1.list hq
    have el : its.toArray.size = ks.length := by rw [List.size_toArray, ← r.length, List.length_map]
    refine call_setOfL (knd := mixKind X.prog X.w) ks (I1.ok.hd calm) pl.isList el (by unfold scanBound; omega) (fun i v hv => ?_) fun g tk so keep => PyProof.Rows.args_nil (fin g tk so keep)
    obtain ⟨k, e1, e2⟩ := key_at r i v (by simpa using hv)
    exact ⟨k, e1, kV_is e2, key_scan e2⟩
  · obtain ⟨its, r, pl, hz⟩ := I1.tuple hq
    have el : its.toArray.size = ks.length := by rw [List.size_toArray, ← r.length, List.length_map]
    refine call_setOfT (knd := mixKind X.prog X.w) ks (I1.ok.hd calm) pl el (by unfold scanBound; omega) (fun i v hv => ?_) fun g tk so keep => PyProof.Rows.args_nil (fin g tk so keep)
    obtain ⟨k, e1, e2⟩ := key_at r i v (by simpa using hv)
    exact ⟨k, e1, kV_is e2, key_scan e2⟩
end Gu
namespace Gu
open PySem PySem.Spec PyProof.Rows L2
/-! ### comprehensions with two fors -/
section
variable {J : It} {n : Nat} {G : Hp → Prop} {Y : Nat → Hp → V → Hp → Prop} {g g1 : TG} {tt tt1 : TT} {te : TE} {wi1 : TI} {vs vs1 : List Nat} {σ : L2.St} {D : Addr}
theorem lc2_out {Qd : Hp → Prop} {H0 : Hp} (w : Walk J n G Y) (Pv : Nat → Hp → Prop) (h0 : Pv 0 H0) (hG : ∀ i H, i ≤ n → Pv i H → G H)
    (hs : ∀ i x H H', i < n → Pv i H → Y i H x H' → g x (wipe σ vs) H' fun σ2 H2 => wipe σ2 vs = wipe σ vs ∧ tt σ2 H2 fun b H3 =>
      if b = true then wi1 σ2 H3 fun J1 H4 => ∃ W1 : Nat → Nat → Hp → Prop, (∃ m, W1 0 m H4) ∧ ∀ j k H, W1 j k H →
        (J1.stop j H ∧ Pv (i + 1) H) ∨ (J1.go j H ∧ ∃ N1 : Hp → Prop, (∀ H', N1 H' → ∃ k', k' < k ∧ W1 (j + 1) k' H') ∧ ∀ x H', J1.yld j H x H' → g1 x (wipe σ2 vs1) H' fun σ3 H5 => wipe σ3 vs1 = wipe σ2 vs1 ∧ tt1 σ3 H5 fun b H6 =>
          if b = true then te σ3 H6 fun y H7 => ∃ acc, H7 D = some (.lst acc) ∧ acc.length < sizeLine ∧ N1 (upd H7 D (.lst (acc ++ [y]))) else N1 H6)
      else Pv (i + 1) H3) (hd : ∀ H, Pv n H → Qd H) :
    ∃ W : Nat → Nat → Hp → Prop, (∃ m, W 0 m H0) ∧ ∀ i m H, W i m H →
      (J.stop i H ∧ Qd H) ∨ (J.go i H ∧ ∃ Nx : Hp → Prop, (∀ H', Nx H' → ∃ m', m' < m ∧ W (i + 1) m' H') ∧ ∀ x H', J.yld i H x H' → g x (wipe σ vs) H' fun σ2 H2 => wipe σ2 vs = wipe σ vs ∧ tt σ2 H2 fun b H3 =>
        if b = true then wi1 σ2 H3 fun J1 H4 => ∃ W1 : Nat → Nat → Hp → Prop, (∃ m, W1 0 m H4) ∧ ∀ j k H, W1 j k H →
          (J1.stop j H ∧ Nx H) ∨ (J1.go j H ∧ ∃ N1 : Hp → Prop, (∀ H', N1 H' → ∃ k', k' < k ∧ W1 (j + 1) k' H') ∧ ∀ x H', J1.yld j H x H' → g1 x (wipe σ2 vs1) H' fun σ3 H5 => wipe σ3 vs1 = wipe σ2 vs1 ∧ tt1 σ3 H5 fun b H6 =>
            if b = true then te σ3 H6 fun y H7 => ∃ acc, H7 D = some (.lst acc) ∧ acc.length < sizeLine ∧ N1 (upd H7 D (.lst (acc ++ [y]))) else N1 H6)
        else Nx H3) := by
  refine ⟨fun i m H => m = n - i ∧ i ≤ n ∧ Pv i H, ⟨n, by simp, Nat.zero_le _, h0⟩, ?_⟩
  rintro i m H ⟨rfl, hi, p⟩
  have q := hG i H hi p
  by_cases less : i < n
  · exact .inr ⟨w.goes i H less q, Pv (i + 1), fun H' p' => ⟨n - (i + 1), by omega, rfl, less, p'⟩, fun x H' y => hs i x H H' less p (w.yields i H x H' less q y)⟩
  · have e : i = n := by omega
    subst e
    exact .inl ⟨w.stops H q, hd H p⟩
theorem lc2_in {Nx : Hp → Prop} {H0 : Hp} (w : Walk J n G Y) (Pv : Nat → Hp → Prop) (h0 : Pv 0 H0) (hG : ∀ i H, i ≤ n → Pv i H → G H)
    (hs : ∀ i x H H', i < n → Pv i H → Y i H x H' → g x (wipe σ vs) H' fun σ2 H2 => wipe σ2 vs = wipe σ vs ∧ tt σ2 H2 fun b H3 =>
      if b = true then te σ2 H3 fun y H4 => ∃ acc, H4 D = some (.lst acc) ∧ acc.length < sizeLine ∧ Pv (i + 1) (upd H4 D (.lst (acc ++ [y]))) else Pv (i + 1) H3) (hd : ∀ H, Pv n H → Nx H) :
    ∃ W1 : Nat → Nat → Hp → Prop, (∃ m, W1 0 m H0) ∧ ∀ j k H, W1 j k H →
      (J.stop j H ∧ Nx H) ∨ (J.go j H ∧ ∃ N1 : Hp → Prop, (∀ H', N1 H' → ∃ k', k' < k ∧ W1 (j + 1) k' H') ∧ ∀ x H', J.yld j H x H' → g x (wipe σ vs) H' fun σ3 H5 => wipe σ3 vs = wipe σ vs ∧ tt σ3 H5 fun b H6 =>
        if b = true then te σ3 H6 fun y H7 => ∃ acc, H7 D = some (.lst acc) ∧ acc.length < sizeLine ∧ N1 (upd H7 D (.lst (acc ++ [y]))) else N1 H6) := by
  refine ⟨fun i m H => m = n - i ∧ i ≤ n ∧ Pv i H, ⟨n, by simp, Nat.zero_le _, h0⟩, ?_⟩
  rintro i m H ⟨rfl, hi, p⟩
  have q := hG i H hi p
  by_cases less : i < n
  · exact .inr ⟨w.goes i H less q, Pv (i + 1), fun H' p' => ⟨n - (i + 1), by omega, rfl, less, p'⟩, fun x H' y => hs i x H H' less p (w.yields i H x H' less q y)⟩
  · have e : i = n := by omega
    subst e
    exact .inl ⟨w.stops H q, hd H p⟩
end
end Gu
namespace Gu
open PySem PySem.Spec PyProof PyProof.Rows L2
/-- sorted(t), t a tuple of ints -/
def rSortedT (K : PySem.W.Frag) : List V → Hp → VK → Prop := fun vs H Q => ∃ (t : Addr) (is : List Int), vs = [V.ref t] ∧ SqT K H t (is.map V.int) ∧
  ∀ (js : List Int) (p : Addr), js.Perm is → js.Pairwise (· ≤ ·) → H p = none → Q (.ref p) (upd H p (.lst (js.map V.int)))
theorem cr_sortedT {X : Cx} : CallR X (.builtin "sorted") (rSortedT X.K) := by
  intro pins s σ H vs us Q I r ⟨t, is, e, hs, q⟩
  subst e
  obtain ⟨its, rv, ⟨o, ho, hc, n, hd⟩, hz⟩ := I.tuple hs
  have il : its.length ≤ sizeLine := rv.length ▸ hz
  have il2 : its.toArray.size ≤ sizeLine := by rw [List.size_toArray]; exact il
  rw [Vals.ref1 r]
  refine PySem.Calls.call_function_entry kind_sorted plain_sorted entry_sorted (args_sorted1 (.ref t)) ?_
  unfold Builtin.«sorted»
  -- what it holds, then a new list, then that is sorted
  refine wpAny_bind (m := checkCount "sorted" 1 1 _) (wpAny_pure (wpAny_bind (PySem.wpAny_collect_seq t (.inr rfl) ho hc hd (fun g kp => ?_) il2)))
  rw [show its.toArray.toList = its by simp]
  have I1 := I.kept (t' := s.toks) kp
  have ob : (g.push (seqObj "list" its.toArray 0)).get? g.objs.size = some (seqObj "list" its.toArray 0) := Heap.get?_push_size _ rfl
  have fin : ∀ out : List Value, SrtO.Srtd SrtO.ltIv out → SrtO.Stb SrtO.ltIv out its → EP X pins σ Q (.ref g.objs.size) { s with heap := sortedHeap (g.push (seqObj "list" its.toArray 0)) g.objs.size its out.toArray } := fun out h1 h2 => by
    obtain ⟨k1, k2, k3⟩ := SrtO.ints_out rv.ints h1 h2
    obtain ⟨ep, at1⟩ := sortedHeap_at (vs := its) (out := out.toArray) ob
    have len : ((out.map SrtO.iv).map V.int).length ≤ sizeLine := by
      have := k2.length_eq
      rw [List.length_map] at hz ⊢
      omega
    have old : ∀ b u, g.get? b = some u → (sortedHeap (g.push (seqObj "list" its.toArray 0)) g.objs.size its out.toArray).get? b = some u := fun b u hb => by
      rw [sortedHeap_old (Nat.ne_of_lt (Heap.lt_size hb)) (by rw [size_push']; exact Nat.lt_succ_of_lt (Heap.lt_size hb))]
      exact Heap.get?_push_of_some _ hb
    exact ⟨.ref _, upd H g.objs.size (.lst ((out.map SrtO.iv).map V.int)), I1.laid (t' := s.toks) old (Nat.le_refl _) ⟨len, out, ep, vals_of_ints k1, at1⟩, rfl, q _ _ k2 k3 (I1.hok.fresh (Nat.le_refl _))⟩
  refine wpAny_bind (wpAny_newList (wpAny_bind (wpAny_holding (wpAny_call_entry slot_list_sort ⟨_, ob, rfl⟩ entry_list_sort ?_ (args_list_sort _)))) il)
  exact SrtO.list_sort_ord SrtO.swo_int ob il (fun h2 => SrtO.ints_sortable rv.ints h2) fun out h1 h2 => ⟨_, rfl, wpAny_pure ⟨_, rfl, fin out h1 h2⟩⟩
end Gu
namespace Gu
open PySem PySem.Spec PyProof.Rows L2
/-! ### _law_orders -/
theorem small5000 {n : Nat} (h : n ≤ 5000) : n < sizeLine := Nat.lt_of_le_of_lt h (by decide)
def grow (n : Nat) (o : List Nat) : List (List Nat) := ((List.range n).filter fun a => decide (a ∉ o)).map fun a => o ++ [a]
def orders (n : Nat) : Nat → List (List Nat)
  | 0 => [[]]
  | k + 1 => (orders n k).flatMap (grow n)
def nums (o : List Nat) : List V := o.map fun a : Nat => V.int (a : Int)
structure OrdsAt (K : PySem.W.Frag) (H : Hp) (a : Addr) (os : List (Addr × List Nat)) : Prop where
  ls : H a = some (.lst (os.map fun o => V.ref o.1))
  tp : ∀ o ∈ os, SqT K H o.1 (nums o.2)
theorem OrdsAt.same {K : PySem.W.Frag} {H G : Hp} {a : Addr} {os : List (Addr × List Nat)} (s : Same H G) (h : OrdsAt K H a os) : OrdsAt K G a os := ⟨s _ _ h.ls, fun o ho => st_same s (h.tp o ho)⟩
theorem st_upd {K : PySem.W.Frag} {G : Hp} {c X : Addr} {xs : List V} {o : HO} (n : c ≠ X) (h : SqT K G c xs) : SqT K (upd G X o) c xs := by
  rcases h with (h | ⟨u, h⟩) | h
  · exact .inl (.inl (by rw [upd_ne n]; exact h))
  · exact .inl (.inr ⟨u, by rw [upd_ne n]; exact h⟩)
  · exact .inr h
theorem nums_snoc (o : List Nat) (i : Nat) : nums (o ++ [i]) = nums o ++ [V.int (0 + (i : Int))] := by
  unfold nums
  rw [List.map_append, Int.zero_add]
  rfl
theorem grow_len (n : Nat) (o : List Nat) : (grow n o).length ≤ n := by
  unfold grow
  rw [List.length_map]
  exact Nat.le_trans (List.length_filter_le ..) (Nat.le_of_eq List.length_range)
theorem grows_len (n : Nat) : ∀ l : List (List Nat), (l.flatMap (grow n)).length ≤ l.length * n
  | [] => Nat.zero_le _
  | o :: l => by
    rw [List.flatMap_cons, List.length_append, List.length_cons, Nat.succ_mul]
    have := grow_len n o
    have := grows_len n l
    omega
theorem in_nums (i : Nat) (o : List Nat) : inV (.int (0 + (i : Int))) (nums o) = decide (i ∈ o) := by
  unfold inV nums
  rw [List.any_map, Int.zero_add]
  by_cases e : i ∈ o
  · rw [decide_eq_true e, List.any_eq_true]
    exact ⟨i, e, beq_self_eq_true _⟩
  · rw [decide_eq_false e, List.any_eq_false]
    intro y hy h
    have h : ((y : Int)) = (i : Int) := eq_of_beq (show ((y : Int) == (i : Int)) = true from h)
    have h : y = i := by omega
    exact e (h ▸ hy)
theorem flat_nums (o : List Nat) : (nums o).all flatV = true := by
  unfold nums
  rw [List.all_map, List.all_eq_true]
  exact fun _ _ => rfl
section
variable {P : Program} {w : World} {K : PySem.W.Frag} {mg : Str → Option Value} {base : Heap}
def spOrders (K : PySem.W.Frag) : Sp := fun vs H Q _ => ∃ n : Nat, vs = [.int (n : Int)] ∧ n ≤ 6 ∧ ∀ (p : Addr) (G : Hp) (os : List (Addr × List Nat)), OrdsAt K G p os → os.map (·.2) = orders n n → Same H G → Q (.ref p) G
theorem orders_len : ∀ n ∈ List.range 7, ∀ k ∈ List.range 7, (orders n k).length ≤ 720 := by decide +kernel
theorem orders_each : ∀ n ∈ List.range 7, ∀ k ∈ List.range 7, ∀ o ∈ orders n k, o.length ≤ 6 := by decide +kernel
end
end Gu
namespace Gu
open PySem PySem.Spec PyProof.Rows L2
/-! ### names in an order, and whether two of them meet -/
def pick (ts : List Str) (o : List Nat) : List Str := o.map fun i => (ts[i]?).getD Str.empty
theorem pick_len (ts : List Str) (o : List Nat) : (pick ts o).length = o.length := by
  unfold pick
  rw [List.length_map]
theorem pick_at {ts : List Str} {i : Nat} (h : i < ts.length) : ∃ t, ts[i]? = some t ∧ (ts[i]?).getD Str.empty = t ∧ t ∈ ts := by
  have e := List.getElem?_eq_getElem h
  exact ⟨ts[i], e, by rw [e]; rfl, List.getElem_mem h⟩
theorem pick_wd {ts : List Str} {o : List Nat} (h : ∀ i ∈ o, i < ts.length) (wt : ∀ t ∈ ts, Wd 200 t) : ∀ t ∈ pick ts o, Wd 200 t := fun t ht => by
  obtain ⟨i, hi, rfl⟩ := List.mem_map.mp ht
  obtain ⟨t, _, e, m⟩ := pick_at (h i hi)
  show Wd 200 ((ts[i]?).getD Str.empty)
  rw [e]
  exact wt t m
def meetB (so : Str) (w : Int) (ts : List Str) (o : List Nat) : Bool := decide ((dds (namesOf so w (pick ts o))).length < ts.length)
def firstMeet (so : Str) (w : Int) (ts : List Str) : Option (List Nat) := (orders ts.length ts.length).find? (meetB so w ts)
theorem ord_perm : ∀ n ∈ List.range 7, ∀ o ∈ orders n n, o.isPerm (List.range n) = true := by decide +kernel
theorem ord_ok {n : Nat} (h : n ≤ 6) {o : List Nat} (ho : o ∈ orders n n) : o.Perm (List.range n) := List.isPerm_iff.mp (ord_perm n (List.mem_range.mpr (by omega)) o ho)
theorem ord_lt {n : Nat} (h : n ≤ 6) {o : List Nat} (ho : o ∈ orders n n) : (∀ i ∈ o, i < n) ∧ o.length = n := by
  have p := ord_ok h ho
  refine ⟨fun i hi => List.mem_range.mp (p.mem_iff.mp hi), ?_⟩
  rw [p.length_eq, List.length_range]
theorem dds_of_nodup {α : Type} [DecidableEq α] : ∀ {xs : List α}, xs.Nodup → dds xs = xs := by
  have main : ∀ (xs acc : List α), (acc ++ xs).Nodup → xs.foldl (fun acc k => if k ∈ acc then acc else acc ++ [k]) acc = acc ++ xs := by
    intro xs
    induction xs with
    | nil =>
      intro acc _
      exact (List.append_nil _).symm
    | cons x xs ih =>
      intro acc h
      have hx : x ∉ acc := fun m => by
        have := (List.nodup_append.mp h).2.2 x m x (List.mem_cons_self ..)
        exact this rfl
      show xs.foldl _ (if x ∈ acc then acc else acc ++ [x]) = _
      rw [if_neg hx, ih (acc ++ [x]) (by rw [List.append_assoc]; exact h), List.append_assoc]
      rfl
  exact fun {xs} h => main xs [] h
theorem seek_freeR {f : Nat → Str} {ys : List Str} : ∀ (k a : Nat), (∃ d, d ≤ k ∧ f (a + d) ∉ ys) → seek f ys k a ∉ ys
  | 0, a, ⟨d, h, n⟩ => by
    have e : d = 0 := by omega
    subst e
    exact n
  | k + 1, a, ⟨d, h, n⟩ => by
    unfold seek
    split
    · rename_i hin
      cases d with
      | zero => exact absurd hin n
      | succ d => exact seek_freeR k (a + 1) ⟨d, by omega, by rw [show a + 1 + d = a + (d + 1) by omega]; exact n⟩
    · assumption
theorem name_new {so : Str} {w : Int} {t : Str} {ps : List (Str × Str)} (hs : ¬ so = ("count" : String)) (h : ps.length ≤ 6) : nameOf so w t ps ∉ ps.map (·.2) := by
  have h : (ps.map (·.2)).length ≤ 6 := by
    rw [List.length_map]
    exact h
  unfold nameOf
  rw [if_neg hs]
  split
  · exact seek_freeR _ _ (Classical.byContradiction fun h2 => some_free (so := so) (w := w) (t := t) h fun j hj => Classical.byContradiction fun h3 => h2 ⟨j, by omega, by rw [Nat.zero_add]; exact h3⟩)
  · assumption
theorem names_nodup {so : Str} {w : Int} (hs : ¬ so = ("count" : String)) : ∀ (n : Nat) (ts : List Str), ts.length = n → n ≤ 6 → (namesOf so w ts).Nodup
  | 0, ts, h, _ => by
    rw [List.length_eq_zero_iff.mp h]
    exact List.nodup_nil
  | n + 1, ts, h, l => by
    have ne : ts ≠ [] := fun e => by
      rw [e] at h
      cases h
    have e := List.dropLast_concat_getLast ne
    have dl : ts.dropLast.length = n := by rw [List.length_dropLast]; omega
    have ih := names_nodup (w := w) hs n ts.dropLast dl (by omega)
    rw [← e]
    unfold namesOf
    rw [pairsOf_snoc, List.map_append]
    refine List.nodup_append.mpr ⟨ih, List.nodup_cons.mpr ⟨List.not_mem_nil, List.nodup_nil⟩, fun x hx y hy q => ?_⟩
    rw [List.mem_singleton.mp hy] at q
    exact name_new (w := w) (t := ts.getLast ne) hs (by rw [pairsOf_len]; omega) (q ▸ hx)
theorem meet_none {so : Str} {w : Int} {ts : List Str} (hs : ¬ so = ("count" : String)) (l : ts.length ≤ 6) : firstMeet so w ts = none := by
  refine List.find?_eq_none.mpr fun o ho => ?_
  have q := (ord_lt l ho).2
  have nd := names_nodup (w := w) hs o.length (pick ts o) (pick_len _ _) (by omega)
  unfold meetB
  rw [dds_of_nodup nd]
  have e : (namesOf so w (pick ts o)).length = ts.length := by
    unfold namesOf
    rw [List.length_map, pairsOf_len, pick_len, q]
  rw [e, decide_eq_false (Nat.lt_irrefl _)]
  intro h
  cases h
theorem meet_some {so : Str} {w : Int} {ts : List Str} {o : List Nat} (h : firstMeet so w ts = some o) : o ∈ orders ts.length ts.length ∧ meetB so w ts o = true := ⟨List.mem_of_find?_eq_some h, List.find?_some h⟩
theorem keysS (zs : List Str) : (zs.map (Sum.inr : Str → Key)).map kV = zs.map V.str := by
  rw [List.map_map]
  rfl
theorem dds_mapR {α β : Type} [DecidableEq α] [DecidableEq β] {f : α → β} (inj : ∀ a b, f a = f b → a = b) (xs : List α) : dds (xs.map f) = (dds xs).map f := by
  have main : ∀ (xs acc : List α), (xs.map f).foldl (fun acc k => if k ∈ acc then acc else acc ++ [k]) (acc.map f) = (xs.foldl (fun acc k => if k ∈ acc then acc else acc ++ [k]) acc).map f := by
    intro xs
    induction xs with
    | nil => exact fun _ => rfl
    | cons x xs ih =>
      intro acc
      show (xs.map f).foldl _ (if f x ∈ acc.map f then acc.map f else acc.map f ++ [f x]) = (xs.foldl _ (if x ∈ acc then acc else acc ++ [x])).map f
      by_cases e : x ∈ acc
      · rw [if_pos e, if_pos (List.mem_map.mpr ⟨x, e, rfl⟩)]
        exact ih acc
      · rw [if_neg e, if_neg (fun h => by
          obtain ⟨y, h1, h2⟩ := List.mem_map.mp h
          exact e (inj _ _ h2 ▸ h1))]
        have := ih (acc ++ [x])
        rw [List.map_append] at this
        exact this
  exact main xs []
theorem keysS_len (zs : List Str) : (dds (zs.map (Sum.inr : Str → Key))).length = (dds zs).length := by
  rw [dds_mapR (fun a b h => Sum.inr.inj h), List.length_map]
end Gu
namespace Gu
open PySem PySem.Spec PyProof.Rows L2
/-! ### tuples of which the object is known too: their methods -/
def FT (H : Hp) (a : Addr) (xs : List V) : Prop := ∃ o : Obj, H a = some (.frz o (.tup xs)) ∧ o.cls = .type "tuple" ∧ o.dict = none
theorem FT.sq {K : PySem.W.Frag} {H : Hp} {a : Addr} {xs : List V} (h : FT H a xs) : SqT K H a xs := by
  obtain ⟨o, e, _⟩ := h
  exact .inl (.inr ⟨o, e⟩)
theorem FT.same {H G : Hp} {a : Addr} {xs : List V} (s : Same H G) (h : FT H a xs) : FT G a xs := by
  obtain ⟨o, e, r⟩ := h
  exact ⟨o, s _ _ e, r⟩
section
variable {X : Cx}
theorem ft_laid {pins : List (Addr × Obj)} {σ : L2.St} {H : Hp} {s : Shared} {Q : VK} {xs : List V} {us : List Value} (I : Inv X pins σ H s) (r : Vals xs us) (z : xs.length ≤ sizeLine) (q : ∀ U G, Same H G → FT G U xs → H U = none → Q (.ref U) G) :
    EP X pins σ Q (.ref s.heap.objs.size) { s with heap := s.heap.push { cls := .type "tuple", data := .seq us.toArray } } := by
  have hf : H s.heap.objs.size = none := I.hok.fresh (Nat.le_refl _)
  refine ⟨.ref s.heap.objs.size, upd H s.heap.objs.size (.frz { cls := .type "tuple", data := .seq us.toArray } (.tup xs)), I.laid (t' := s.toks) (fun b u e => Heap.get?_push_of_some _ e) (Nat.le_refl _) ?_, rfl, q _ _ (same_new hf) ⟨_, upd_same, rfl, rfl⟩ hf⟩
  exact ⟨Heap.get?_push_size _ rfl, z, us, r, ⟨_, Heap.get?_push_size _ rfl, rfl, _, rfl⟩⟩
def tTupF (t : TA) : TE := fun σ H Q => t σ H fun xs H1 => xs.length ≤ sizeLine ∧ ∀ U G, Same H1 G → FT G U xs → H1 U = none → Q (.ref U) G
theorem pe_tupF {es : List Expr} {t : TA} {x1 : Nat} {pos : Pos} (h : PA X es t) : PE X (.Tuple es x1 pos) (tTupF t) := by
  refine ⟨fun pins s σ H Q I hq => ?_⟩
  exact wpAny_Tuple_spliced (thn (h.run pos pins s σ H _ I hq) fun us s1 ⟨xs, H1, I1, r, z, q⟩ => ⟨by rw [← r.length]; exact z, ft_laid I1 r z q⟩)
def rCatF (H1 : Unit) : R2 := fun x y H Q => ∃ a b xs ys, x = .ref a ∧ y = .ref b ∧ FT H a xs ∧ FT H b ys ∧ xs.length + ys.length ≤ sizeLine ∧ ∀ U G, Same H G → FT G U (xs ++ ys) → Q (.ref U) G
theorem op_catF : OpR X (binaryOp .Add) (rCatF ()) := by
  intro pins s σ H x y v u Q I rx ry h
  obtain ⟨a, b, xs, ys, rfl, rfl, ha, hb, hz, q⟩ := h
  cases rx
  cases ry
  obtain ⟨its, r1, p1, _⟩ := I.tuple ha.sq
  obtain ⟨its2, r2, p2, _⟩ := I.tuple hb.sq
  by_cases hx : xs = []
  · subst hx
    cases r1
    exact cat_tup0 p1 p2 ⟨.ref b, H, I, rfl, q b H (Same.refl H) hb⟩
  · refine HT.cat_tup p1 p2 (fun z => hx (r1.nil_iff.mp z)) (fun z => ?_) (fun z => ?_) (by rw [← r1.length, ← r2.length]; exact hz)
    · have e := r2.nil_iff.mp z
      subst e
      exact ⟨.ref a, H, I, rfl, q a H (Same.refl H) (by rw [List.append_nil]; exact ha)⟩
    · exact ft_laid I (r1.append r2) (by rw [List.length_append]; exact hz) fun U G sG f _ => q U G sG f
def rSlF (H1 : Unit) : V → Option Int → Option Int → Hp → VK → Prop := fun x lo hi H Q => ∃ a xs, x = .ref a ∧ FT H a xs ∧ ∀ U G, Same H G → FT G U (cutV xs lo hi) → Q (.ref U) G
theorem sl_tupF : SlR X (rSlF ()) := by
  intro pins s σ H x v vl vu lo hi sl Q I rx hs pl pu h
  obtain ⟨a, xs, rfl, hx, q⟩ := h
  cases rx
  obtain ⟨its, r, ht, hz⟩ := I.tuple hx.sq
  have hlen : its.toArray.size = xs.length := by rw [List.size_toArray]; exact r.length.symm
  refine ⟨"tuple", _, PyProof.Rows.slot_tuple_getitem.lookup, ht.typeIs, ?_⟩
  by_cases hw : HT.sIx xs.length 0 lo = 0 ∧ HT.sIx xs.length xs.length hi = xs.length
  · refine getItem_tuple_whole ht hs pl pu (by rw [hlen]; exact hw) ⟨.ref a, H, I, rfl, q a H (Same.refl H) ?_⟩
    unfold cutV
    rw [hw.1, hw.2, List.drop_zero, Nat.sub_zero, List.take_length]
    exact hx
  · refine HT.getItem_tuple_cut ht hs pl pu (by rw [hlen]; exact hw) ?_ (by rw [hlen]; exact hz)
    rw [hlen]
    exact ft_laid I ((r.drop (HT.sIx xs.length 0 lo)).take (HT.sIx xs.length xs.length hi - HT.sIx xs.length 0 lo)) (Nat.le_trans (cutV_length xs lo hi) hz) fun U G sG f _ => q U G sG f
/-- t.m(e), t such a tuple -/
def tBMF (r : V → List V → Hp → VK → Prop) (to : TE) (t : TA) : TE := fun σ H Q => to σ H fun x H1 => (∃ a xs, x = .ref a ∧ FT H1 a xs) ∧ t σ H1 fun ys H2 => r x ys H2 Q
theorem pe_bmF {o e : Expr} {es : List Expr} {to : TE} {t : TA} {name : Str} {apos cpos : Pos} {id : String} {r : V → List V → Hp → VK → Prop} (pa : PlainAttrs "tuple") (slot : Slot "tuple" name id) (hty : typeOf (.builtin id) = pure (.type "method_descriptor")) (hm : MtR X id r) (ho : PE X o to) (ha : PA X (e :: es) t)
    (hbase : attributeBase o name X.env (eval o X.env) = eval o X.env := by rfl)
    (hfew : ((backTo cpos (starEach (e :: es) X.env)).all (fun x => !x.1) && (backToKw cpos (keywordEach [] X.env)).all (fun x => x.1.isSome) && decide ((e :: es).length + ([] : List Keyword).length + (if ([] : List Keyword).isEmpty then 0 else 1) < 30)) = true := by rfl)
    (hline : (apos.endLine == cpos.line) = true := by rfl) (hs : starEach (e :: es) X.env = (false, eval e X.env) :: starEach es X.env := by rfl) (hplain : (backTo cpos (starEach es X.env)).any (·.1) = false := by rfl) :
    PE X (.Call (.Attribute o name apos) (e :: es) [] cpos) (tBMF r to t) := by
  refine ⟨fun pins s σ H Q I h => wpAny_Call_method_late hbase hfew hline rfl (thn (ho.run pins s σ H _ I h) fun v s1 ⟨x, H1, I1, r1, ⟨a, xs, ex, o, eo, hc, hd⟩, q1⟩ => ?_)⟩
  subst ex
  cases r1
  have at1 : s1.heap.get? a = some o := (I1.hok a _ eo).1
  refine ⟨"tuple", id, pa, slot, hty, ⟨o, at1, hc⟩, fun b e => by cases e; exact ⟨o, at1, hd⟩, ?_⟩
  have hA := ha.run cpos pins s1 σ H1 _ I1 q1
  rw [hs] at hA ⊢
  exact Calls.callWith_builtin (by show (false || (backTo cpos (starEach es X.env)).any (·.1)) = false; rw [hplain] <;> rfl) (Calls.evalArgs_plain (thn hA fun us s2 ⟨vs, H2, I2, r2, q2⟩ => hm pins s2 σ H2 (.ref a) vs (.ref a) us Q I2 rfl r2 q2))
end
end Gu
namespace Gu
open PySem PySem.Spec PyProof PyProof.Rows L2
/-! ### sets of texts that can be walked: what is known of their tables -/
def skey (e : Int × Value) : Str := match e.2 with | .str z _ => z | _ => ⟨#[]⟩
section
variable {P : Program} {w : World}
def GoodS (w : World) (e : Int × Value) : Prop := ∃ z tk, e.2 = Value.str z tk ∧ e.1 = hashStr w z
/-- the set of texts at a: S its members, n their number -/
structure SetRS (P : Program) (w : World) (h : Heap) (a : Addr) (S : Str → Bool) (n : Nat) : Prop where
  ex : ∃ o es ep t, h.get? a = some o ∧ o.ExactSet ∧ o.data = .set es ep t ∧ (∀ e ∈ es.toList, GoodS w e) ∧ (es.toList.map skey).Nodup ∧ (∀ k, S k = true ↔ k ∈ es.toList.map skey) ∧
    es.size < scanBound ∧ t.fits es.size = true ∧ es.size = n ∧ Ris t.place.toList ∧ (w.params.followText "set-order" = true ∨ t.led = true)
theorem goodS_elems {l : List (Int × Value)} (g : ∀ e ∈ l, GoodS w e) : ElemsOf (PySem.strKind P w) l := fun e he => by
  obtain ⟨z, tk, h1, h2⟩ := g e he
  exact ⟨⟨z, by rw [h1]; exact PySem.strKind_is P w z tk, h2⟩, by rw [h1]; rfl⟩
theorem goodS_is {e : Int × Value} (g : GoodS w e) (k : Str) : (PySem.strKind P w).is k e.2 = true ↔ skey e = k := by
  obtain ⟨z, tk, h1, _⟩ := g
  unfold skey
  rw [h1]
  constructor
  · intro q
    obtain ⟨u, hu⟩ := Value.isStrOf_shape (show Value.isStrOf k (.str z tk) = true from q)
    injection hu with hx
  · intro q
    rw [← q]
    exact PySem.strKind_is P w z tk
theorem goodS_mem {l : List (Int × Value)} (g : ∀ e ∈ l, GoodS w e) (k : Str) : k ∈ l.map skey ↔ ∃ e ∈ l, (PySem.strKind P w).is k e.2 = true := by
  rw [List.mem_map]
  constructor
  · rintro ⟨e, he, q⟩
    exact ⟨e, he, (goodS_is (g e he) k).2 q⟩
  · rintro ⟨e, he, q⟩
    exact ⟨e, he, (goodS_is (g e he) k).1 q⟩
end
section
variable {P : Program} {w : World} {A : Around} {E : Value → Shared → Prop} {s : Shared} {a : Addr} {S : Str → Bool} {n : Nat}
theorem setRS_tail {g : Bool → Sem Unit} (hg : ∀ (b : Bool) (s₁ : Shared) (Q' : Unit → Shared → Prop), Q' () s₁ → wpAny (model P w) A (g b) Q' E s₁)
    {o : Obj} {es : Array (Int × Value)} {ep : Nat} {t : SetTable} (ho : s.heap.get? a = some o) (hex : o.ExactSet) (hd : o.data = .set es ep t)
    {es1 : Array (Int × Value)} {t2 : SetTable} {S' : Str → Bool} (g1 : ∀ e ∈ es1.toList, GoodS w e) (nd1 : (es1.toList.map skey).Nodup) (m1 : ∀ k, S' k = true ↔ k ∈ es1.toList.map skey)
    (hb1 : es1.size < scanBound) (hf2 : t2.fits es1.size = true) (hr : Ris t2.place.toList) (hl : w.params.followText "set-order" = true ∨ t2.led = true) {wasDummy : Bool} {R : Option Bool → Shared → Prop}
    (hR : ∀ h', Heap.SameBut a s.heap h' → SetRS P w h' a S' es1.size → R (some true) { s with heap := h' }) :
    wpAny (model P w) A (do
        storeSet a es1 t2
        if (!wasDummy && t2.tooFull) = true then do
            g (relayAll t2 es1 (SetTable.grown es1.size)).2.2
            storeSet a (relayAll t2 es1 (SetTable.grown es1.size)).1 (relayAll t2 es1 (SetTable.grown es1.size)).2.1
            pure (some true)
          else pure (some true)) R E s := by
  refine wpAny_bind (wpAny_storeSet_of ho hd ?_ (fits_of_scanBound hb1))
  have at1 := store_at (es' := es1) (t' := t2) ho hd
  have but1 := Heap.SameBut.update s.heap a (Obj.putSet es1 t2)
  by_cases c : (!wasDummy && t2.tooFull) = true
  · rw [if_pos c]
    have pm := relayAll_perm t2 es1 (SetTable.grown es1.size)
    have f3 := relayAll_fits t2 es1 (SetTable.grown es1.size)
    have r3 := relayAll_ris t2 es1 (SetTable.grown es1.size)
    have l3 := relayAll_led t2 es1 (SetTable.grown es1.size)
    rcases hz : relayAll t2 es1 (SetTable.grown es1.size) with ⟨es2, t3, gave⟩
    rw [hz] at pm f3 r3 l3
    dsimp only at pm f3 r3 l3 ⊢
    have sz : es2.size = es1.size := by rw [← Array.length_toList, pm.length_eq, Array.length_toList]
    have b2 : es2.size < scanBound := sz ▸ hb1
    refine wpAny_bind (hg _ _ _ (wpAny_bind (wpAny_storeSet_of at1 rfl ?_ (fits_of_scanBound b2))))
    have at2 := store_at (es' := es2) (t' := t3) at1 rfl
    refine wpAny_pure (hR _ (but1.trans (Heap.SameBut.update _ a _)) ⟨_, es2, _, t3, at2, hex, rfl, fun e he => g1 e (pm.mem_iff.mp he), (pm.map skey).nodup_iff.mpr nd1, fun k => (m1 k).trans (pm.map skey).mem_iff.symm, b2, f3, sz, r3, ?_⟩)
    rw [l3]
    exact hl
  · rw [if_neg c]
    exact wpAny_pure (hR _ but1 ⟨_, es1, _, t2, at1, hex, rfl, g1, nd1, m1, hb1, hf2, rfl, hr, hl⟩)
end
end Gu
namespace Gu
open PySem PySem.Spec PyProof PyProof.Rows L2
section
variable {P : Program} {w : World} {A : Around} {E : Value → Shared → Prop} {s : Shared} {a : Addr} {S : Str → Bool} {n : Nat}
/-- one text comes into such a set -/
theorem setRS_add {k : Str} {tk : Tok} {Q : Bool → Shared → Prop} (R : SetRS P w s.heap a S n) (room : n + 1 < scanBound)
    (hQ : ∀ h', Heap.SameBut a s.heap h' → SetRS P w h' a (fun j => S j || decide (j = k)) (if S k = true then n else n + 1) → Q (!S k) { s with heap := h' }) :
    wpAny (model P w) A (setAddHashed a (.str k tk) ((PySem.strKind P w).hash k)) Q E s := by
  obtain ⟨o, es, ep, t, ho, hex, hd, g, nd, hm, hb, hf, hn, hr, hl⟩ := R.ex
  have isk : (PySem.strKind P w).is k (.str k tk) = true := PySem.strKind_is P w k tk
  have sc : (Value.str k tk).scannable = true := rfl
  have el : ElemsOf (PySem.strKind P w) es.toList := goodS_elems g
  unfold setAddHashed setAddHashedIn
  refine wpAny_holding (wpAny_bind (wpAny_setState_of ho hd hf ?_))
  dsimp only
  rw [byScan_of sc hb el]
  simp only [↓reduceIte]
  unfold setAddByScan
  refine wpAny_bind (wpAny_bind (wpAny_rule (wpAny_bind (wpAny_setScan_of isk ho hd hf el ?_))))
  cases fi : List.findIdx? (fun e => (PySem.strKind P w).is k e.2) es.toList with
  | some j =>
    dsimp only
    obtain ⟨jl, pj, _⟩ := List.findIdx?_eq_some_iff_getElem.mp fi
    have inS : S k = true := (hm k).2 ((goodS_mem (P := P) g k).2 ⟨es.toList[j], List.getElem_mem jl, pj⟩)
    have q := hQ s.heap (Heap.SameBut.refl a s.heap) ⟨o, es, ep, t, ho, hex, hd, g, nd, fun i => by
      rw [Bool.or_eq_true, decide_eq_true_eq, ← hm i]
      exact ⟨fun z => z.elim id fun e => e ▸ inS, .inl⟩, hb, hf, by rw [if_pos inS]; exact hn, hr, hl⟩
    rw [inS] at q
    exact wpAny_pure (wpAny_pure q)
  | none =>
    dsimp only
    have out : k ∉ es.toList.map skey := fun z => by
      obtain ⟨e, he, q⟩ := (goodS_mem (P := P) g k).1 z
      have c := List.findIdx?_eq_none_iff.mp fi e he
      rw [q] at c
      cases c
    have nS : S k = false := by
      cases q : S k with
      | false => rfl
      | true => exact absurd ((hm k).1 q) out
    have gw : ∀ (b : Bool) {s₁ : Shared} {Q' : Unit → Shared → Prop}, Q' () s₁ → wpAny (model P w) A (match b with | true => rule "set.scan.the-table-gave-way" | false => pure ()) Q' E s₁ := fun b s₁ Q' q => by
      cases b
      · exact wpAny_pure q
      · exact wpAny_rule q
    have pm := layNew_perm t es ((PySem.strKind P w).hash k) (.str k tk)
    have f1 := layNew_fits t es ((PySem.strKind P w).hash k) (.str k tk)
    have r1 := layNew_ris t es ((PySem.strKind P w).hash k) (.str k tk) hr
    have l1 := layNew_led t es ((PySem.strKind P w).hash k) (.str k tk)
    rcases hz : layNew t es ((PySem.strKind P w).hash k) (.str k tk) with ⟨es1, t1, wasDummy, gave⟩
    rw [hz] at pm f1 r1 l1
    dsimp only at pm f1 r1 l1 ⊢
    rw [Array.toList_push] at pm
    have pc : es1.toList.Perm (((PySem.strKind P w).hash k, Value.str k tk) :: es.toList) := pm.trans (List.perm_append_singleton _ _)
    have pk : (es1.toList.map skey).Perm (k :: es.toList.map skey) := pc.map skey
    have g1 : ∀ e ∈ es1.toList, GoodS w e := fun e he => by
      rcases List.mem_cons.mp (pc.mem_iff.mp he) with z | z
      · rw [z]
        exact ⟨k, tk, rfl, rfl⟩
      · exact g e z
    have nd1 : (es1.toList.map skey).Nodup := pk.nodup_iff.mpr (List.nodup_cons.mpr ⟨out, nd⟩)
    have m1 : ∀ i, (S i || decide (i = k)) = true ↔ i ∈ es1.toList.map skey := fun i => by
      rw [Bool.or_eq_true, decide_eq_true_eq, hm i, pk.mem_iff, List.mem_cons]
      exact Or.comm
    have sz : es1.size = n + 1 := by rw [← Array.length_toList, pc.length_eq, List.length_cons, Array.length_toList, hn]
    have b1 : es1.size < scanBound := by rw [sz]; exact room
    have led1 : w.params.followText "set-order" = true ∨ t1.led = true := by
      rw [l1]
      exact hl
    have fin : ∀ h', Heap.SameBut a s.heap h' → SetRS P w h' a (fun j => S j || decide (j = k)) es1.size → Q true { s with heap := h' } := fun h' sb r => by
      have q := hQ h' sb
      rw [nS] at q
      rw [sz] at r
      exact q r
    have gg : ∀ (b : Bool) (s₁ : Shared) (Q' : Unit → Shared → Prop), Q' () s₁ → wpAny (model P w) A (match b with | true => rule "set.scan.the-table-gave-way" | false => pure ()) Q' E s₁ := fun b s₁ Q' q => gw b q
    refine wpAny_bind (gw _ ?_)
    split
    · refine wpAny_bind ?_
      rw [hashByValue_scannable 8 sc]
      refine wpAny_pure ?_
      refine setRS_tail ?_ ho hex hd g1 nd1 m1 b1 ?_ ?_ ?_ ?_
      · exact gg
      · split
        · exact f1
        · exact SetTable.fits_plain_off f1
      · split <;> exact r1
      · split <;> exact led1
      · exact fun h' sb r => wpAny_pure (fin h' sb r)
    · refine wpAny_bind (wpAny_pure ?_)
      simp only [↓reduceIte]
      refine setRS_tail ?_ ho hex hd g1 nd1 m1 b1 f1 r1 led1 ?_
      · exact gg
      · exact fun h' sb r => wpAny_pure (fin h' sb r)
end
end Gu
namespace Gu
open PySem PySem.Spec PyProof PyProof.Rows L2
/-! ### set(list) and set(tuple) of texts, walkable -/
section
variable {P : Program} {w : World} {A : Around} {E : Value → Shared → Prop} {s : Shared}
theorem code_set_new_led (a : Value) {Q₁ : Value → Shared → Prop}
    (h : Q₁ (.ref s.heap.objs.size) { s with heap := s.heap.push { cls := .type "set", dict := none, data := .set #[] 0 (.fresh 0 0 (!w.params.followText "set-order")) } }) :
    codeAny (model P w) A (.call (.builtin "set.__new__") ⟨[.type "set", a], []⟩) (wants Q₁ E) s := by
  refine codeAny_of_tree ?_
  show wpAny _ A.in1 (do checkBuiltinCall "set.__new__" ⟨[.type "set", a], []⟩; again (.builtin "set.__new__" ⟨[.type "set", a], []⟩)) _ _ s
  refine wpAny_bind (wpAny_of_eq (PySem.F.newCall_set_1 a) (wpAny_pure ⟨plainId_quiet PySem.F.plain_set_new _, codeAny_builtin PySem.F.entry_set_new ?_⟩))
  rw [Around.under_plainId PySem.F.plain_set_new _]
  unfold Builtin.«set.__new__» Builtin.Frozenset.newClass
  have hsub := sub_set_self
  obtain ⟨hp, g, d, tk, os⟩ := s
  dsimp only
  wp_walk
  refine wpAny_askSetting (wpAny_pure ?_)
  dsimp only
  simp only [newObj]
  refine wpAny_bind (wpAny_alloc (wpAny_pure ?_))
  exact wpAny_pure h
theorem led_or {b : Bool} (e : b = !w.params.followText "set-order") : w.params.followText "set-order" = true ∨ b = true := by
  rw [e]
  cases w.params.followText "set-order"
  · exact .inr rfl
  · exact .inl rfl
end
section
variable {prog : Program} {w : World} {A : Around} {R : Result → Shared → Prop} {I : Addr} {fp wr : List Addr} {G : Array GenState → Array GenState → Prop} {n : Nat} {Py : Nat → Value → Prop} {St : Nat → Shared → Prop}
theorem fill_setS (W : WalksS prog w A.in1 I fp wr G n Py St) (T : Addr) (away : T ∉ fp) (ks : List Str) (many : n = ks.length) (few : ks.length + 1 < scanBound)
    (drawn : ∀ i v, Py i v → ∃ k tk, ks[i]? = some k ∧ v = .str k tk) :
    ∀ (left i : Nat) (s : Shared), n - i = left → i ≤ n → St i s → SetRS prog w s.heap T (isIn (ks.take i)) (dds (ks.take i)).length →
      (∀ t, Moved (T :: wr) G s t → SetRS prog w t.heap T (isIn ks) (dds ks).length → R (.ok (.ret .none)) t) →
      codeAny (model prog w) A (.builtin "set.update.loop" ⟨[.ref T, .ref I], []⟩) R s := by
  have awayW : T ∉ wr := fun h => away (W.sub _ h)
  have wider : ∀ b ∈ wr, b ∈ T :: wr := fun b q => List.mem_cons_of_mem _ q
  intro left
  induction left with
  | zero =>
    intro i s el il st so goal
    have ei : i = n := by omega
    subst ei
    refine codeAny_builtin F.entry_set_update_loop ?_
    rw [Around.under_plainId F.plain_set_update_loop _]
    show wpAny _ A.in1 (pyNext (.ref I) >>= _) _ _ s
    refine wpAny_bind (W.done s _ _ st fun t mv => ?_)
    show wpAny _ A.in1 (ret Value.none) _ _ t
    have full : ks.take i = ks := List.take_of_length_le (by omega)
    rw [full] at so
    refine wpAny_pure (goal t (mv.mono wider) ?_)
    obtain ⟨o, es, ep, tb, ho, more⟩ := so.ex
    exact ⟨⟨o, es, ep, tb, mv.heap T _ awayW ho, more⟩⟩
  | succ left ih =>
    intro i s el il st so goal
    have less : i < n := by omega
    refine codeAny_builtin F.entry_set_update_loop ?_
    rw [Around.under_plainId F.plain_set_update_loop _]
    show wpAny _ A.in1 (pyNext (.ref I) >>= _) _ _ s
    refine wpAny_bind (W.item i s _ _ less st fun v t py st1 mv => ?_)
    obtain ⟨k, tk, ek, rfl⟩ := drawn i v py
    have so1 : SetRS prog w t.heap T (isIn (ks.take i)) (dds (ks.take i)).length := by
      obtain ⟨o, es, ep, tb, ho, more⟩ := so.ex
      exact ⟨⟨o, es, ep, tb, mv.heap T _ awayW ho, more⟩⟩
    show wpAny _ A.in1 (holding [Value.str k tk] (setAdd T (.str k tk)) >>= _) _ _ t
    refine wpAny_bind (wpAny_holding ?_)
    unfold setAdd
    refine wpAny_holding ?_
    refine wpAny_bind ((PySem.strKind prog w).pyHash (k := k) (strKind_is _ _ _ _) ?_)
    have room1 : (dds (ks.take i)).length + 1 < scanBound := by
      have a := dds_len (ks.take i)
      rw [List.length_take] at a
      omega
    refine setRS_add (s := { t with toks := t.toks + 1 }) so1 room1 fun h2 sb so2 => ?_
    have snoc : ks.take (i + 1) = ks.take i ++ [k] := by
      rw [List.take_add_one, ek]
      rfl
    have so3 : SetRS prog w h2 T (isIn (ks.take (i + 1))) (dds (ks.take (i + 1))).length := by
      have e1 : (fun j => isIn (ks.take i) j || decide (j = k)) = isIn (ks.take (i + 1)) := by
        funext j
        unfold isIn
        rw [snoc]
        simp [List.mem_append]
      have e2 : (if isIn (ks.take i) k = true then (dds (ks.take i)).length else (dds (ks.take i)).length + 1) = (dds (ks.take (i + 1))).length := by
        rw [snoc, dds_snoc]
        unfold isIn
        by_cases q : k ∈ ks.take i
        · rw [if_pos (decide_eq_true q), if_pos ((mem_dds _).mpr q)]
        · rw [if_neg (fun z => q (of_decide_eq_true z)), if_neg (fun z => q ((mem_dds _).mp z)), List.length_append]
          rfl
      rw [← e1, ← e2]
      exact so2
    refine wpAny_pure ⟨plainId_quiet F.plain_set_update_loop _, ih (i + 1) _ (by omega) less (W.frame _ t _ _ st1 (Nat.le_succ _) fun b q o e => ?_) so3 fun t2 mv2 so4 => ?_⟩
    · rw [sb.2 b (fun z : b = T => away (z ▸ q))]
      exact e
    · refine goal t2 (Moved.trans W.gtrans ((mv.mono wider).then_heap (Nat.le_succ _) fun b o q e => ?_) mv2) so4
      rw [sb.2 b (fun z : b = T => q (by rw [z]; exact List.mem_cons_self))]
      exact e
end
section
variable {prog : Program} {w : World} {A : Around} {E : Value → Shared → Prop} {s : Shared}
set_option maxHeartbeats 3200000 in
theorem call_setSL {l : Addr} {items : Array Value} (ks : List Str) {Q : Value → Shared → Prop} (calm : A.handled = none) (at_l : s.heap.IsList l items) (size : items.size = ks.length) (few : ks.length + 1 < scanBound)
    (keys : ∀ (i : Nat) (v : Value), items[i]? = some v → ∃ (k : Str) (tk : Tok), ks[i]? = some k ∧ v = .str k tk)
    (h : ∀ (g : Heap) (tk : Nat), SetRS prog w g s.heap.objs.size (isIn ks) (dds ks).length → (∀ b o, s.heap.get? b = some o → g.get? b = some o) → Q (.ref s.heap.objs.size) { s with heap := g, toks := tk }) :
    wpAny (model prog w) A (call (.type "set") [.ref l]) Q E s := by
  obtain ⟨c0, tl0, mro0⟩ := F.called_set.mro
  have made0 := F.called_set.made
  have sub0 := F.called_set.sub
  refine wpAny_call (codeAny_of_tree ?_)
  show wpAny _ _ (callAny (.type "set") _) _ _ _
  refine wpAny_pure ⟨Code.quiet_builtin _ (by decide +kernel), codeAny_builtin F.entry_type_call ?_⟩
  rw [Around.under_plain (weight_type_call_type "set" [.ref l] []) rfl]
  have nt0 := F.called_set.notType
  have cc0 := F.called_set.canCreate
  have tc0 := F.typeCall_set_1 (.ref l)
  repeat (any_goals (first | assumption | wp_step))
  refine codeAny_mono (code_set_new_led (.ref l) (E := E) (Q₁ := fun x t => ∃ b : Bool, b = (!w.params.followText "set-order") ∧ x = .ref s.heap.objs.size ∧ t = { s with heap := s.heap.push (noneIn b) }) ⟨_, rfl, rfl, rfl⟩) fun r t hr => ?_
  cases r with
  | error e => exact hr
  | ok fl =>
    cases fl with
    | next => exact (hr : False).elim
    | brk => exact (hr : False).elim
    | cont => exact (hr : False).elim
    | ret x =>
      obtain ⟨b0, eb0, rfl, rfl⟩ := hr
      have new0 : (s.heap.push (noneIn b0)).get? s.heap.objs.size = some (noneIn b0) := Heap.get?_push_size _ rfl
      have isS : Shared.TypeIs { s with heap := s.heap.push (noneIn b0) } (.ref s.heap.objs.size) "set" := ⟨_, new0, rfl⟩
      have li0 := F.called_set.init.lookup
      have bi0 := F.called_set.init.bind (.ref s.heap.objs.size)
      repeat (any_goals (first | assumption | wp_step))
      refine codeAny_mono (codeAny_call_builtin (R := wants (fun y t2 => y = .none ∧ ∃ (g : Heap) (tk : Nat), t2 = { s with heap := g, toks := tk } ∧ SetRS prog w g s.heap.objs.size (isIn ks) (dds ks).length ∧ (∀ b o, s.heap.get? b = some o → g.get? b = some o)) E)
        F.called_set.init.plain F.entry_set_init (check_set_init_1 isS ?_)) fun r2 t2 hr2 => ?_
      · obtain ⟨ol, hol, cl0, nl, dl0⟩ := at_l
        obtain ⟨ocls, odict, odata, oslots⟩ := ol
        simp only at cl0 dl0
        subst cl0
        subst dl0
        have hol1 : (s.heap.push (noneIn b0)).get? l = some { cls := .type "list", dict := odict, data := .seq items nl, slots := oslots } := Heap.get?_push_of_some _ hol
        have notS := F.sub_list_set
        have notF := F.sub_list_frozenset
        have notD : (Value.type "list" == Value.type "dict") = false := by decide
        have at1 : (s.heap.push (noneIn b0)).IsList l items := ⟨_, hol1, rfl, nl, rfl⟩
        refine init_goes (b := b0) new0 hol1 notS notF notD ?_
        refine wpAny_pyIter_list at1 ?_
        refine wpAny_bind (wpAny_runValue ?_)
        have lt0 : l < s.heap.objs.size := Heap.lt_size hol
        have calm3 : A.in1.in1.in1.handled = none := by simp [calm]
        have z1 : (s.heap.push (noneIn b0)).objs.size = s.heap.objs.size + 1 := Heap.size_push ..
        have apart : l ≠ (s.heap.push (noneIn b0)).objs.size := by
          rw [z1]
          exact Nat.ne_of_lt (Nat.lt_succ_of_lt lt0)
        have off : s.heap.objs.size ∉ [(s.heap.push (noneIn b0)).objs.size, l] := by
          rw [z1]
          intro q
          rcases List.mem_cons.mp q with q | q
          · exact absurd q (Nat.ne_of_lt (Nat.lt_succ_self _))
          · exact absurd (List.mem_singleton.mp q) (Nat.ne_of_gt lt0)
        refine fill_setS ((Walks.list calm3 _ l apart items).toS) s.heap.objs.size off ks size few keys (items.size - 0) 0 _ (by omega) (Nat.zero_le _) ⟨⟨_, Heap.get?_push_size _ rfl, rfl, rfl⟩, (at1.push _)⟩ ?first ?last
        case first =>
          have got : ((s.heap.push (noneIn b0)).push { cls := .type "list_iterator", data := .fields #[.ref l, .int 0 0] }).get? s.heap.objs.size = some (noneIn b0) := Heap.get?_push_of_some _ new0
          refine ⟨⟨_, #[], 0, _, got, ⟨rfl, rfl, rfl⟩, rfl, (fun e he => by simp at he), (by simp), (fun k => by simp [isIn]), (by decide), (by rfl), rfl, List.Pairwise.nil, led_or eb0⟩⟩
        case last =>
          intro t3 mv so
          obtain ⟨g, gn, dr, tk, os⟩ := t3
          have e1 : gn = s.gens := mv.gens
          have e2 : dr = s.drawn := mv.drawn
          have e3 : os = s.os := mv.os
          subst e1
          subst e2
          subst e3
          show wpAny _ _ _ _ _ _
          refine wpAny_pure ?_
          show wpAny _ _ (ret Value.none) _ _ _
          refine wpAny_pure ⟨rfl, g, tk, rfl, so, fun b o e => ?_⟩
          have below : b < s.heap.objs.size := Heap.lt_size e
          refine mv.heap b o (fun q => ?_) (Heap.get?_push_of_some _ (Heap.get?_push_of_some _ e))
          rcases List.mem_cons.mp q with q | q
          · exact absurd q (Nat.ne_of_lt below)
          · have q2 := List.mem_singleton.mp q
            rw [z1] at q2
            exact absurd q2 (Nat.ne_of_lt (Nat.lt_succ_of_lt below))
      · cases r2 with
        | error e => exact hr2
        | ok fl2 =>
          cases fl2 with
          | next => exact (hr2 : False).elim
          | brk => exact (hr2 : False).elim
          | cont => exact (hr2 : False).elim
          | ret y =>
            obtain ⟨rfl, g, tk, rfl, so, keep⟩ := hr2
            repeat (any_goals (first | assumption | wp_step))
            exact h _ _ so keep
end
section
variable {prog : Program} {w : World} {A : Around} {E : Value → Shared → Prop} {s : Shared}
set_option maxHeartbeats 3200000 in
theorem call_setST {l : Addr} {items : Array Value} (ks : List Str) {Q : Value → Shared → Prop} (calm : A.handled = none) (at_l : s.heap.IsTuple l items) (size : items.size = ks.length) (few : ks.length + 1 < scanBound)
    (keys : ∀ (i : Nat) (v : Value), items[i]? = some v → ∃ (k : Str) (tk : Tok), ks[i]? = some k ∧ v = .str k tk)
    (h : ∀ (g : Heap) (tk : Nat), SetRS prog w g s.heap.objs.size (isIn ks) (dds ks).length → (∀ b o, s.heap.get? b = some o → g.get? b = some o) → Q (.ref s.heap.objs.size) { s with heap := g, toks := tk }) :
    wpAny (model prog w) A (call (.type "set") [.ref l]) Q E s := by
  obtain ⟨c0, tl0, mro0⟩ := F.called_set.mro
  have made0 := F.called_set.made
  have sub0 := F.called_set.sub
  refine wpAny_call (codeAny_of_tree ?_)
  show wpAny _ _ (callAny (.type "set") _) _ _ _
  refine wpAny_pure ⟨Code.quiet_builtin _ (by decide +kernel), codeAny_builtin F.entry_type_call ?_⟩
  rw [Around.under_plain (weight_type_call_type "set" [.ref l] []) rfl]
  have nt0 := F.called_set.notType
  have cc0 := F.called_set.canCreate
  have tc0 := F.typeCall_set_1 (.ref l)
  repeat (any_goals (first | assumption | wp_step))
  refine codeAny_mono (code_set_new_led (.ref l) (E := E) (Q₁ := fun x t => ∃ b : Bool, b = (!w.params.followText "set-order") ∧ x = .ref s.heap.objs.size ∧ t = { s with heap := s.heap.push (noneIn b) }) ⟨_, rfl, rfl, rfl⟩) fun r t hr => ?_
  cases r with
  | error e => exact hr
  | ok fl =>
    cases fl with
    | next => exact (hr : False).elim
    | brk => exact (hr : False).elim
    | cont => exact (hr : False).elim
    | ret x =>
      obtain ⟨b0, eb0, rfl, rfl⟩ := hr
      have new0 : (s.heap.push (noneIn b0)).get? s.heap.objs.size = some (noneIn b0) := Heap.get?_push_size _ rfl
      have isS : Shared.TypeIs { s with heap := s.heap.push (noneIn b0) } (.ref s.heap.objs.size) "set" := ⟨_, new0, rfl⟩
      have li0 := F.called_set.init.lookup
      have bi0 := F.called_set.init.bind (.ref s.heap.objs.size)
      repeat (any_goals (first | assumption | wp_step))
      refine codeAny_mono (codeAny_call_builtin (R := wants (fun y t2 => y = .none ∧ ∃ (g : Heap) (tk : Nat), t2 = { s with heap := g, toks := tk } ∧ SetRS prog w g s.heap.objs.size (isIn ks) (dds ks).length ∧ (∀ b o, s.heap.get? b = some o → g.get? b = some o)) E)
        F.called_set.init.plain F.entry_set_init (check_set_init_1 isS ?_)) fun r2 t2 hr2 => ?_
      · obtain ⟨ol, hol, cl0, nl, dl0⟩ := at_l
        obtain ⟨ocls, odict, odata, oslots⟩ := ol
        simp only at cl0 dl0
        subst cl0
        subst dl0
        have hol1 : (s.heap.push (noneIn b0)).get? l = some { cls := .type "tuple", dict := odict, data := .seq items nl, slots := oslots } := Heap.get?_push_of_some _ hol
        have notS := F.sub_tuple_set
        have notF := F.sub_tuple_frozenset
        have notD : (Value.type "tuple" == Value.type "dict") = false := by decide
        have at1 : (s.heap.push (noneIn b0)).IsTuple l items := ⟨_, hol1, rfl, nl, rfl⟩
        refine init_goes (b := b0) new0 hol1 notS notF notD ?_
        refine wpAny_pyIter_tuple at1 ?_
        refine wpAny_bind (wpAny_runValue ?_)
        have lt0 : l < s.heap.objs.size := Heap.lt_size hol
        have calm3 : A.in1.in1.in1.handled = none := by simp [calm]
        have z1 : (s.heap.push (noneIn b0)).objs.size = s.heap.objs.size + 1 := Heap.size_push ..
        have apart : l ≠ (s.heap.push (noneIn b0)).objs.size := by
          rw [z1]
          exact Nat.ne_of_lt (Nat.lt_succ_of_lt lt0)
        have off : s.heap.objs.size ∉ [(s.heap.push (noneIn b0)).objs.size, l] := by
          rw [z1]
          intro q
          rcases List.mem_cons.mp q with q | q
          · exact absurd q (Nat.ne_of_lt (Nat.lt_succ_self _))
          · exact absurd (List.mem_singleton.mp q) (Nat.ne_of_gt lt0)
        refine fill_setS ((Walks.tuple calm3 _ l apart items).toS) s.heap.objs.size off ks size few keys (items.size - 0) 0 _ (by omega) (Nat.zero_le _) ⟨⟨_, Heap.get?_push_size _ rfl, rfl, rfl⟩, (at1.push _)⟩ ?first ?last
        case first =>
          have got : ((s.heap.push (noneIn b0)).push { cls := .type "tuple_iterator", data := .fields #[.ref l, .int 0 0] }).get? s.heap.objs.size = some (noneIn b0) := Heap.get?_push_of_some _ new0
          refine ⟨⟨_, #[], 0, _, got, ⟨rfl, rfl, rfl⟩, rfl, (fun e he => by simp at he), (by simp), (fun k => by simp [isIn]), (by decide), (by rfl), rfl, List.Pairwise.nil, led_or eb0⟩⟩
        case last =>
          intro t3 mv so
          obtain ⟨g, gn, dr, tk, os⟩ := t3
          have e1 : gn = s.gens := mv.gens
          have e2 : dr = s.drawn := mv.drawn
          have e3 : os = s.os := mv.os
          subst e1
          subst e2
          subst e3
          show wpAny _ _ _ _ _ _
          refine wpAny_pure ?_
          show wpAny _ _ (ret Value.none) _ _ _
          refine wpAny_pure ⟨rfl, g, tk, rfl, so, fun b o e => ?_⟩
          have below : b < s.heap.objs.size := Heap.lt_size e
          refine mv.heap b o (fun q => ?_) (Heap.get?_push_of_some _ (Heap.get?_push_of_some _ e))
          rcases List.mem_cons.mp q with q | q
          · exact absurd q (Nat.ne_of_lt below)
          · have q2 := List.mem_singleton.mp q
            rw [z1] at q2
            exact absurd q2 (Nat.ne_of_lt (Nat.lt_succ_of_lt below))
      · cases r2 with
        | error e => exact hr2
        | ok fl2 =>
          cases fl2 with
          | next => exact (hr2 : False).elim
          | brk => exact (hr2 : False).elim
          | cont => exact (hr2 : False).elim
          | ret y =>
            obtain ⟨rfl, g, tk, rfl, so, keep⟩ := hr2
            repeat (any_goals (first | assumption | wp_step))
            exact h _ _ so keep
end
end Gu
namespace Gu
open PySem PySem.Spec PyProof PyProof.Rows L2
/-! ### sorted(set(texts)) -/
def strV : Value → Str
  | .str x _ => x
  | _ => ⟨#[]⟩
def ltSv (v u : Value) : Bool := decide ((strV v).cps.toList < (strV u).cps.toList)
theorem swo_str : SrtO.Swo ltSv := by
  refine ⟨fun x y h => ?_, fun x y z h1 h2 => ?_⟩
  · have a := of_decide_eq_true (p := (strV x).cps.toList < (strV y).cps.toList) h
    exact decide_eq_false fun q => List.lt_irrefl _ (List.lt_trans a q)
  · have a := List.not_lt.mp (of_decide_eq_false (p := (strV y).cps.toList < (strV x).cps.toList) h1)
    have b := List.not_lt.mp (of_decide_eq_false (p := (strV z).cps.toList < (strV y).cps.toList) h2)
    exact decide_eq_false (List.not_lt.mpr (List.le_trans a b))
def IsTx (v : Value) : Prop := ∃ x t, v = Value.str x t
section
variable {prog : Program} {w : World} {A : Around} {E : Value → Shared → Prop} {s : Shared}
theorem str_cmp {vs : List Value} (hI : ∀ v ∈ vs, IsTx v) : SrtO.Cmp prog w A s oneType' (fun p => p.1 ∈ vs) (SrtO.lt2 ltSv) := by
  intro p q hm hm'
  obtain ⟨a, t, e⟩ := hI _ hm
  obtain ⟨b, u, e'⟩ := hI _ hm'
  show wpAny (model prog w) A (keyLt' oneType' p.1 q.1) (fun r s' => s' = s ∧ r = ltSv p.1 q.1) (fun _ _ => False) s
  rw [e, e', keyLt'_oneType]
  exact oneLt_str ⟨rfl, rfl⟩
theorem strsAre_of : ∀ {vs : List Value}, (∀ v ∈ vs, IsTx v) → StrsAre vs (vs.map strV)
  | [], _ => .nil
  | v :: vs, h => by
    obtain ⟨i, t, e⟩ := h v List.mem_cons_self
    subst e
    exact .cons i t (strsAre_of fun u hu => h u (List.mem_cons_of_mem _ hu))
theorem strs_sortable {a : Addr} {vs : List Value} (hI : ∀ v ∈ vs, IsTx v) (h2 : 2 ≤ vs.length) : SrtO.SortableO prog w A s a vs ltSv := by
  intro h' _
  refine ⟨oneType', fun Q E hq => ?_, str_cmp hI⟩
  match vs, hI, h2 with
  | v1 :: v2 :: rest, hI, _ =>
    rw [keyKind_strs (strsAre_of hI)]
    exact wpAny_pure hq
  | [], _, h => exact absurd h (by decide)
  | [v], _, h => exact absurd h (by simp)
/-- rising, none twice -/
def SU (js : List Str) : Prop := js.Pairwise fun a b => a.cps.toList < b.cps.toList
theorem su_of : ∀ {l : List Str}, l.Pairwise (fun a b => ¬ b.cps.toList < a.cps.toList) → l.Nodup → SU l
  | [], _, _ => List.Pairwise.nil
  | x :: l, h, d => by
    obtain ⟨h1, h2⟩ := List.pairwise_cons.mp h
    obtain ⟨d1, d2⟩ := List.nodup_cons.mp d
    refine List.pairwise_cons.mpr ⟨fun y hy => ?_, su_of h2 d2⟩
    have a := List.not_lt.mp (h1 y hy)
    rcases Decidable.em (x.cps.toList < y.cps.toList) with q | q
    · exact q
    · have e := List.le_antisymm (List.not_lt.mp q) a
      have e2 : x = y := by
        cases x
        cases y
        exact congrArg Str.mk (Array.ext' e.symm)
      exact absurd (e2 ▸ hy) d1
theorem su_one : ∀ {xs ys : List Str}, SU xs → SU ys → (∀ k, k ∈ xs ↔ k ∈ ys) → xs = ys
  | [], [], _, _, _ => rfl
  | [], y :: ys, _, _, h => absurd ((h y).2 List.mem_cons_self) (by simp)
  | x :: xs, [], _, _, h => absurd ((h x).1 List.mem_cons_self) (by simp)
  | x :: xs, y :: ys, h1, h2, h => by
    obtain ⟨a1, a2⟩ := List.pairwise_cons.mp h1
    obtain ⟨b1, b2⟩ := List.pairwise_cons.mp h2
    have e : x = y := by
      rcases List.mem_cons.mp ((h x).1 List.mem_cons_self) with q | q
      · exact q
      · rcases List.mem_cons.mp ((h y).2 List.mem_cons_self) with z | z
        · exact z.symm
        · exact absurd (List.lt_trans (b1 x q) (a1 y z)) (List.lt_irrefl _)
    subst e
    refine congrArg (x :: ·) (su_one a2 b2 fun k => ⟨fun q => ?_, fun q => ?_⟩)
    · rcases List.mem_cons.mp ((h k).1 (List.mem_cons_of_mem _ q)) with z | z
      · subst z
        exact absurd (a1 k q) (List.lt_irrefl _)
      · exact z
    · rcases List.mem_cons.mp ((h k).2 (List.mem_cons_of_mem _ q)) with z | z
      · subst z
        exact absurd (b1 k q) (List.lt_irrefl _)
      · exact z
theorem vals_strs : ∀ {vs : List Value}, (∀ v ∈ vs, IsTx v) → Vals ((vs.map strV).map V.str) vs
  | [], _ => .nil
  | v :: vs, h => by
    obtain ⟨i, t, e⟩ := h v List.mem_cons_self
    subst e
    exact .cons ⟨t, rfl⟩ (vals_strs fun u hu => h u (List.mem_cons_of_mem _ hu))
/-- sorted of such a set: a new list that rises, with its members -/
theorem sorted_setS {a : Addr} {S : Str → Bool} {n : Nat} {Q : Value → Shared → Prop} (R : SetRS prog w s.heap a S n) (hh : A.handled = none)
    (hQ : ∀ (s' : Shared) (p : Addr) (out : List Value) (c : Nat), (∀ b o, s.heap.get? b = some o → s'.heap.get? b = some o) → s'.gens = s.gens → s'.os = s.os → s.heap.objs.size ≤ p →
      s'.heap.get? p = some (seqObj "list" out.toArray c) → (∀ v ∈ out, IsTx v) → SU (out.map strV) → (∀ k, k ∈ out.map strV ↔ S k = true) → out.length = n → Q (.ref p) s') :
    wpAny (model prog w) A (call (.builtin "sorted") [.ref a]) Q E s := by
  obtain ⟨o, es, ep, t, ho, hex, hd, g, nd, hm, hb, hf, hn, hr, hl⟩ := R.ex
  refine PySem.Calls.call_function_entry kind_sorted plain_sorted entry_sorted (args_sorted1 _) ?_
  unfold Builtin.«sorted»
  refine wpAny_bind (m := checkCount "sorted" 1 1 _) (wpAny_pure ?_)
  refine wpAny_bind (collect_set (A := A.in1) hh ⟨o, ho, hex.1, hd⟩ hf hb hr hl fun s1 vs k1 hz g1 o1 pm => ?_)
  have hvl : vs.length = n := by rw [pm.length_eq, List.length_map, Array.length_toList]; exact hn
  have tx : ∀ v ∈ vs, IsTx v := fun v hv => by
    obtain ⟨e, he, q⟩ := List.mem_map.mp (pm.mem_iff.mp hv)
    obtain ⟨k, tk, h1, _⟩ := g e he
    exact ⟨k, tk, by rw [← q]; exact h1⟩
  have pk : (vs.map strV).Perm (es.toList.map skey) := by
    have q := pm.map strV
    rw [List.map_map] at q
    exact q
  have zl : vs.length ≤ sizeLine := by
    rw [hvl, ← hn]
    exact fits_of_scanBound hb
  refine wpAny_bind (wpAny_newList ?_ zl)
  have hoL : (s1.heap.push (seqObj "list" vs.toArray 0)).get? s1.heap.objs.size = some (seqObj "list" vs.toArray 0) := Heap.get?_push_size _ rfl
  refine wpAny_bind (wpAny_holding (wpAny_call_entry slot_list_sort ⟨_, hoL, rfl⟩ entry_list_sort
    (SrtO.list_sort_ord swo_str hoL zl (fun h2 => strs_sortable tx h2) fun out h1 h2 => ⟨_, rfl, ?_⟩) (args_list_sort _)))
  obtain ⟨c, hc⟩ := sortedHeap_at (vs := vs) (out := out.toArray) hoL
  have pn : (out.map strV).Perm (es.toList.map skey) := (h2.perm.map strV).trans pk
  refine wpAny_pure ⟨_, rfl, hQ _ s1.heap.objs.size out c (fun b u e => ?_) g1 o1 hz hc (fun v hv => tx v (h2.perm.mem_iff.mp hv))
    (su_of (List.pairwise_map.mpr (h1.imp fun {x y} h => of_decide_eq_false (p := (strV y).cps.toList < (strV x).cps.toList) h)) (pn.nodup_iff.mpr nd)) (fun k => by rw [pn.mem_iff, ← hm k]) ?_⟩
  · have q := k1 b u e
    have hlt := Heap.lt_size q
    show (sortedHeap (s1.heap.push (seqObj "list" vs.toArray 0)) s1.heap.objs.size vs out.toArray).get? b = some u
    rw [sortedHeap_old (Nat.ne_of_lt hlt) (by rw [size_push']; exact Nat.lt_succ_of_lt hlt)]
    exact Heap.get?_push_of_some _ q
  · rw [h2.perm.length_eq]; exact hvl
end
theorem str_at : ∀ {ks : List Str} {us : List Value}, Vals (ks.map V.str) us → ∀ (i : Nat) (v : Value), us[i]? = some v → ∃ (k : Str) (tk : Tok), ks[i]? = some k ∧ v = .str k tk
  | [], _, .nil, i, v, h => by simp at h
  | k :: ks, _, .cons r t, 0, v, h => by
    cases h
    obtain ⟨tk, e⟩ := r
    exact ⟨k, tk, rfl, e⟩
  | k :: ks, _, .cons r t, i + 1, v, h => str_at t i v h
/-- sorted(set(x)), x a list or a tuple of texts -/
def tSortSet (K : PySem.W.Frag) (ta : TE) : TE := fun σ H Q => ta σ H fun x G => ∃ (l : Addr) (ks : List Str), x = .ref l ∧ (SqL K G l (ks.map V.str) ∨ SqT K G l (ks.map V.str)) ∧ ks.length ≤ 4000 ∧
  ∀ (p : Addr) (js : List Str), SU js → (∀ k, k ∈ js ↔ k ∈ ks) → js.length ≤ 4000 → G p = none → Q (.ref p) (upd G p (.lst (js.map V.str)))
theorem pe_sortSet {X : Cx} {a : Expr} {ta : TE} {p p2 q pos : Pos} (hg : Gl X "sorted") (hm : X.mg "sorted" = none) (hg2 : Gl X "set") (hm2 : X.mg "set" = none) (ha : PE X a ta) (calm : X.calm = true := by rfl)
    (na : starEach [a] X.env = (false, eval a X.env) :: starEach [] X.env := by rfl) : PE X (.Call (.Name "sorted" p) [.Call (.Name "set" p2) [a] [] q] [] pos) (tSortSet X.K ta) := by
  refine ⟨fun pins s σ H Q I h => Call_ (ld_blt I hg hm boot_sorted (PyProof.Rows.callWith_builtin1 (PyProof.Rows.args_cons ?_ rfl) rfl rfl))⟩
  refine Call_ (ld_blt I hg2 hm2 boot_set (PyProof.Rows.callWith_type1 (PyProof.Rows.args_cons (thn (ha.run pins s σ H _ I h) fun v s1 ⟨x, G, I1, r1, q1⟩ => PyProof.Rows.args_nil ?_) na) na rfl))
  obtain ⟨l, ks, rfl, hq, few, q1⟩ := q1
  cases r1
  have fin : ∀ (g : Heap) (tk : Nat), SetRS X.prog X.w g s1.heap.objs.size (isIn ks) (dds ks).length → (∀ b o, s1.heap.get? b = some o → g.get? b = some o) →
      wpAny (model X.prog X.w) X.A (call (.builtin "sorted") [.ref s1.heap.objs.size]) (fun v s' => ∃ (y : V) (J : Hp), Inv X pins σ J s' ∧ RelV y v ∧ Q y J) X.xe { s1 with heap := g, toks := tk } := by
    intro g tk so keep
    have b1 := dds_len ks
    refine sorted_setS so (I1.ok.hd calm) fun s' pp out c k2 g2 o2 hp at2 tx su mem ln => ?_
    have sz : s1.heap.objs.size ≤ pp := by
      have q : s1.heap.objs.size < g.objs.size := by
        obtain ⟨o, es, ep, t, ho, _⟩ := so.ex
        exact Heap.lt_size ho
      exact Nat.le_trans (Nat.le_of_lt q) hp
    have z : (out.map strV).length ≤ 4000 := by rw [List.length_map, ln]; omega
    have kp : ∀ b o, s1.heap.get? b = some o → s'.heap.get? b = some o := fun b o e => k2 b o (keep b o e)
    have ln2 : ((out.map strV).map V.str).length ≤ sizeLine := by
      rw [List.length_map, sizeLine_eq]
      omega
    have hn : G pp = none := I1.hok.fresh sz
    have J : Inv X pins σ (upd G pp (.lst ((out.map strV).map V.str))) { s1 with heap := s'.heap, gens := s'.gens, drawn := s'.drawn, toks := s'.toks } :=
      I1.call (ch := []) (Un.laid kp sz hn) (I1.hok.laid kp sz ⟨ln2, out, c, vals_strs tx, at2⟩) (by rw [show s'.gens = s1.gens from g2]; exact I1.bare) (fun _ z => nomatch z)
    have e : s' = { s1 with heap := s'.heap, gens := s'.gens, drawn := s'.drawn, toks := s'.toks } := by
      cases s'
      cases s1
      cases o2
      rfl
    rw [e]
    exact ⟨.ref pp, _, J, rfl, q1 pp _ su (fun k => (mem k).trans (by unfold isIn; exact decide_eq_true_iff)) z hn⟩
  rcases hq with hq | hq
  · obtain ⟨its, r, pl, hz⟩ := I1.list hq
    have el : its.toArray.size = ks.length := by rw [List.size_toArray, ← r.length, List.length_map]
    exact call_setSL ks (I1.ok.hd calm) pl.isList el (by unfold scanBound; omega) (fun i v hv => str_at r i v (by simpa using hv)) fun g tk so keep => PyProof.Rows.args_nil (fin g tk so keep)
  · obtain ⟨its, r, pl, hz⟩ := I1.tuple hq
    have el : its.toArray.size = ks.length := by rw [List.size_toArray, ← r.length, List.length_map]
    exact call_setST ks (I1.ok.hd calm) pl el (by unfold scanBound; omega) (fun i v hv => str_at r i v (by simpa using hv)) fun g tk so keep => PyProof.Rows.args_nil (fin g tk so keep)
/-- the same where the fragment is named (in a comprehension) -/
theorem pe_sortSetK {X : Cx} {K : PySem.W.Frag} (hK : X.K = K) {a : Expr} {ta : TE} {p p2 q pos : Pos} (hg : Gl X "sorted") (hm : X.mg "sorted" = none) (hg2 : Gl X "set") (hm2 : X.mg "set" = none) (ha : PE X a ta) (calm : X.calm = true := by rfl)
    (na : starEach [a] X.env = (false, eval a X.env) :: starEach [] X.env := by rfl) : PE X (.Call (.Name "sorted" p) [.Call (.Name "set" p2) [a] [] q] [] pos) (tSortSet K ta) := by
  subst hK
  exact pe_sortSet hg hm hg2 hm2 ha calm na
theorem pe_tupleOfK {X : Cx} {K : PySem.W.Frag} (hK : X.K = K) {a : Expr} {ta : TE} {p pos : Pos} (hg : Gl X "tuple") (hm : X.mg "tuple" = none) (ha : PE X a ta) (na : starEach [a] X.env = (false, eval a X.env) :: starEach [] X.env := by rfl) :
    PE X (.Call (.Name "tuple" p) [a] [] pos) (tThen ta (kTup K)) := by
  subst hK
  exact pe_tupleOf hg hm ha na
end Gu
namespace Gu
open PySem PySem.Spec PyProof.Rows L2
/-! ### the program: orders, names in an order, meeting -/
section
variable {P : Program} {w : World} {K : PySem.W.Frag} {mg : Str → Option Value} {base : Heap} {C : Addr}
theorem cal_pOrders (B : Bi mg) (D : At K mg "orders" s_orders ps_orders) : Cal P w K mg base 1 "orders" ps_orders (spOrders K) := by
  refine D.cal sc_orders (fun vs H Q E h => ?_) (fun f cdv A outer s H vs Q E hr h => ?_)
  · obtain ⟨n, rfl, _⟩ := h
    rfl
  · obtain ⟨n, rfl, n5, k⟩ := h
    refine ⟨_, (pss_cons (ps_set (i := 1) sc_orders.nd rfl (.inl rfl) (pe_lst (pa_cons (pe_tup pa_nil) pa_nil)))
      (pss_cons (ps_for PassesOwn.never rfl (pi_range1 (by rfl) B.range (pa_cons (pv 0) pa_nil)) (pg_name (i := 2) sc_orders.nd rfl (.inl rfl))
      (pss_one (ps_setLc2 (wi1 := iRng1 (tCons (tVar 0) tNil)) (i := 1) (own := [("order", 3), ("place", 4)]) (vs1 := [4]) (by rfl) sc_orders.nd rfl rfl (sw_true rfl rfl rfl (by decide +kernel)) (pi_list (pv 1)) (blkOk_by (own := [("order", 3), ("place", 4)]) (N := ["many", "found", "size", "order", "place"]) (sc := defScope s_orders) (by decide +kernel)) (by decide) (fun _ _ _ _ _ => pg_name (i := 3) sc_orders.nd rfl (.inl rfl)) (fun _ _ _ _ _ => pts_nil) (fun _ _ _ _ _ => (pi_range1 (by rfl) B.range (pa_cons (pv 0) pa_nil))) (fun _ _ _ _ _ => pg_name (i := 4) sc_orders.nd rfl (.inl rfl)) (fun _ _ _ _ _ => (pts_one (pt_cmpR (r := rIn K true) op_notIn_seq (pv 4) (pv 3) (by rfl)))) (fun _ _ _ _ _ => (pe_op (r := rCatA K) op_catA (pv 3) (pe_tup (pa_cons (pv 4) pa_nil)))))))
      (pss_one (ps_ret (pv 1))))), ?_⟩
    refine ⟨Nat.zero_le _, fun e ne => ⟨by show 1 ≤ sizeLine; decide, fun q nq => ?_⟩⟩
    have s0 : Same H (upd (upd H e (.tup [])) q (.lst [.ref e])) := (same_new ne).trans (same_new nq)
    have o0 : OrdsAt K (upd (upd H e (.tup [])) q (.lst [.ref e])) q [(e, [])] := ⟨upd_same, fun o ho => by
      rw [List.mem_singleton.mp ho]
      exact .inl (.inl (same_new nq _ _ upd_same))⟩
    generalize upd (upd H e (.tup [])) q (.lst [.ref e]) = H0 at s0 o0
    refine ⟨_, rfl, _, rfl, by omega, by omega, ?_⟩
    rw [Int.toNat_natCast]
    refine for_range (lo := 0) (n := n) (fun i σ J => ∃ (fd : Addr) (os : List (Addr × List Nat)) (b : Option V), σ = [some (.int (n : Int)), some (.ref fd), b, none, none] ∧ OrdsAt K J fd os ∧ os.map (·.2) = orders n i ∧ Same H J) ⟨q, _, _, rfl, o0, rfl, s0⟩ ?_ ?_
    · rintro i σ J hi ⟨fd, os, b, rfl, hO, eO, sJ⟩
      have ol : os.length ≤ 720 := by
        have := congrArg List.length eO
        rw [List.length_map] at this
        rw [this]
        exact orders_len n (List.mem_range.mpr (by omega)) i (List.mem_range.mpr (by omega))
      refine ⟨_, rfl, fd, rfl, ⟨_, .inl (.inl hO.ls)⟩, fun M nM => lc2_out (walk_list (K := K) (a := fd) (xs := os.map fun o => V.ref o.1)) (fun j J1 => ∃ ms : List (Addr × List Nat), J1 M = some (.lst (ms.map fun o => V.ref o.1)) ∧ (∀ c ∈ ms, SqT K J1 c.1 (nums c.2) ∧ c.1 ≠ M) ∧ ms.map (·.2) = ((os.take j).map (·.2)).flatMap (grow n) ∧ Same J J1)
        ⟨[], upd_same, (fun c hc => by cases hc), rfl, same_new nM⟩ (fun j J1 _ ⟨_, _, _, _, s1⟩ => .inl (.inl (s1 _ _ hO.ls))) ?_ ?_⟩
      · rintro j v _ J1 hj ⟨ms, eM, hM, em, s1⟩ ⟨rfl, hv⟩
        rw [List.getElem?_map] at hv
        cases ej : os[j]? with
        | none =>
          rw [ej] at hv
          cases hv
        | some o =>
          rw [ej] at hv
          cases hv
          have mo : o ∈ os := List.mem_of_getElem? ej
          have oT := st_same s1 (hO.tp o mo)
          have ml : ms.length ≤ 4320 := by
            have a := congrArg List.length em
            rw [List.length_map] at a
            have b := grows_len n ((os.take j).map (·.2))
            rw [← a, List.length_map, List.length_take] at b
            have c : min j os.length * n ≤ 720 * 6 := Nat.mul_le_mul (by omega) n5
            omega
          refine ⟨rfl, yes (iteT ⟨_, rfl, _, rfl, by omega, by omega, lc2_in (walk_range (lo := 0) (n := (n : Int).toNat)) (fun i2 J2 => ∃ cs : List (Addr × List Nat), J2 M = some (.lst ((ms ++ cs).map fun o => V.ref o.1)) ∧ (∀ c ∈ ms ++ cs, SqT K J2 c.1 (nums c.2) ∧ c.1 ≠ M) ∧ cs.map (·.2) = ((List.range i2).filter fun a => decide (a ∉ o.2)).map (fun a => o.2 ++ [a]) ∧ Same J J2)
            ⟨[], by rw [List.append_nil]; exact eM, by rw [List.append_nil]; exact hM, rfl, s1⟩ (fun _ _ _ _ => trivial) ?_ ?_⟩)⟩
          · rintro i2 x _ J2 hi2 ⟨cs, eX, hc, ec, s2⟩ ⟨rfl, rfl⟩
            have hX : J M = none := nM
            have cl : cs.length ≤ i2 := by
              have a := congrArg List.length ec
              rw [List.length_map, List.length_map] at a
              rw [a]
              exact Nat.le_trans (List.length_filter_le ..) (Nat.le_of_eq List.length_range)
            have i5 : i2 < 6 := by omega
            have oT2 := st_same s2 (hO.tp o mo)
            refine ⟨rfl, _, rfl, _, rfl, o.1, nums o.2, rfl, .inr oT2, rfl, flat_nums _, _, rfl, ?_⟩
            rw [in_nums]
            refine ite2 (fun hb => ?_) (fun hb => ?_)
            · have hb : i2 ∉ o.2 := fun h => by
                rw [decide_eq_true h] at hb
                cases hb
              have last : ∀ (r : Addr) (G : Hp), Same J2 G → r ≠ M → SqT K G r (nums (o.2 ++ [i2])) → ∃ acc, G M = some (.lst acc) ∧ acc.length < sizeLine ∧ ∃ cs : List (Addr × List Nat), upd G M (.lst (acc ++ [.ref r])) M = some (.lst ((ms ++ cs).map fun o => V.ref o.1)) ∧ (∀ c ∈ ms ++ cs, SqT K (upd G M (.lst (acc ++ [.ref r]))) c.1 (nums c.2) ∧ c.1 ≠ M) ∧ cs.map (·.2) = ((List.range (i2 + 1)).filter fun a => decide (a ∉ o.2)).map (fun a => o.2 ++ [a]) ∧ Same J (upd G M (.lst (acc ++ [.ref r]))) := fun r G sG nr hr => by
                refine ⟨_, sG _ _ eX, small5000 (by rw [List.length_map, List.length_append]; omega), cs ++ [(r, o.2 ++ [i2])], ?_, fun c hcm => ?_, ?_, same_off (s2.trans sG) hX⟩
                · rw [upd_same, ← List.append_assoc, List.map_append (l₁ := ms ++ cs) (l₂ := [(r, o.2 ++ [i2])])]
                  rfl
                · rw [← List.append_assoc] at hcm
                  rcases List.mem_append.mp hcm with h | h
                  · exact ⟨st_upd (hc c h).2 (st_same sG (hc c h).1), (hc c h).2⟩
                  · rw [List.mem_singleton.mp h]
                    exact ⟨st_upd nr hr, nr⟩
                · rw [List.range_succ, List.filter_append, List.map_append, List.map_append, ec, List.filter_cons, decide_eq_true hb]
                  rfl
              refine ⟨_, rfl, _, rfl, by show 1 ≤ sizeLine; decide, fun u nu => ?_⟩
              have sU : Same J2 (upd J2 u (.tup [.int (0 + (i2 : Int))])) := same_new nu
              have nuX : u ≠ M := (ne_of_none eX nu).symm
              refine ⟨o.1, u, nums o.2, [.int (0 + (i2 : Int))], rfl, rfl, st_same sU oT2, .inl (.inl upd_same), Nat.le_of_lt (small1000 ?_), fun h0 => ?_, fun _ h => absurd h (by intro z; cases z), fun _ _ r nr => ?_⟩
              · have a := orders_each n (List.mem_range.mpr (by omega)) i (List.mem_range.mpr (by omega)) o.2 (eO ▸ List.mem_map_of_mem mo)
                show (nums o.2).length + 1 ≤ 1000
                unfold nums
                rw [List.length_map]
                omega
              · refine last u _ sU nuX ?_
                rw [nums_snoc, h0]
                exact .inl (.inl upd_same)
              · refine last r _ (sU.trans (same_new nr)) (ne_of_none (sU _ _ eX) nr).symm ?_
                rw [nums_snoc]
                exact .inl (.inl upd_same)
            · have hb : i2 ∈ o.2 := Decidable.byContradiction fun h => hb (by
                rw [decide_eq_false h]
                rfl)
              refine ⟨cs, eX, hc, ?_, s2⟩
              rw [List.range_succ, List.filter_append, List.map_append, ec, List.filter_cons, decide_eq_false (fun h => h hb)]
              simp only [Bool.false_eq_true, if_false, List.filter_nil, List.map_nil, List.append_nil]
          · rintro J2 ⟨cs, eX, hc, ec, s2⟩
            rw [Int.toNat_natCast] at ec
            refine ⟨ms ++ cs, eX, hc, ?_, s2⟩
            rw [List.map_append, em, ec, take_next ej, List.map_append, List.flatMap_append]
            simp only [List.map_cons, List.map_nil, List.flatMap_cons, List.flatMap_nil, List.append_nil]
            rfl
      · rintro J1 ⟨ms, eM, hM, em, s1⟩
        rw [List.length_map, List.take_length, eO] at em
        exact ⟨M, ms, _, rfl, ⟨eM, fun o ho => (hM o ho).1⟩, em, sJ.trans s1⟩
    · rintro σ J ⟨fd, os, b, rfl, hO, eO, sJ⟩
      exact ⟨_, rfl, k fd J os hO eO sJ⟩
def spNio (K : PySem.W.Frag) (Nm : Hp → Addr → Str → Int → Prop) : Sp := fun vs H Q _ => ∃ (x l o : Addr) (so : Str) (w : Int) (ts : List Str) (ns : List Nat), vs = [.ref x, .ref l, .ref o] ∧ Nm H x so w ∧ so ∈ sorts ∧ 6 ≤ w ∧ w ≤ 40 ∧ SqT K H l (ts.map V.str) ∧ (∀ t ∈ ts, Wd 200 t) ∧ SqT K H o (nums ns) ∧ ns.length ≤ 6 ∧ (∀ i ∈ ns, i < ts.length) ∧
  ∀ (p : Addr) (G : Hp), SqT K G p ((namesOf so w (pick ts ns)).map V.str) → Same H G → Q (.ref p) G
theorem nums_at {ns : List Nat} {j : Nat} {v : V} (h : (nums ns)[j]? = some v) : ∃ i, ns[j]? = some i ∧ v = .int (i : Int) := by
  unfold nums at h
  rw [List.getElem?_map] at h
  cases e : ns[j]? with
  | none =>
    rw [e] at h
    cases h
  | some i =>
    rw [e] at h
    exact ⟨i, rfl, (Option.some.inj h).symm⟩
theorem strs_at {ts : List Str} {i : Nat} {t : Str} (h : ts[i]? = some t) : atI (ts.map V.str) (i : Int) = some (V.str t) := atI_nat (by rw [List.getElem?_map, h]; rfl)
theorem cal_nio (B : Bi mg) (D : At K mg "named_in_order" s_named_in_order ps_named_in_order) {Nm : Hp → Addr → Str → Int → Prop} (nmS : ∀ {H G : Hp} {x : Addr} {so : Str} {w : Int}, Same H G → Nm H x so w → Nm G x so w) (C_named : Cal P w K mg base 4 "named" ps_named (spNamesP K Nm)) : Cal P w K mg base 5 "named_in_order" ps_named_in_order (spNio K Nm) := by
  refine D.cal sc_named_in_order (fun vs H Q E h => ?_) (fun f cdv A outer s H vs Q E hr h => ?_)
  · obtain ⟨x, l, o, so, w, ts, ns, rfl, _⟩ := h
    rfl
  · obtain ⟨x, l, o, so, w, ts, ns, rfl, hN, hso, w0, w1, hl, wt, ho, n6, il, k⟩ := h
    refine ⟨_, (pss_one (ps_ret (pe_own C_named hr (by decide) (by rfl) (pa_cons (pv 0) (pa_cons (pe_callTy call_tuple_of (by rfl) B.tuple (by decide +kernel) (pa_cons (pe_lc (own := [("place", 3)]) (by rfl) sc_named_in_order.nd (pi_tup (pv 2)) (blkOk_by (own := [("place", 3)]) (N := ["namer", "texts", "order", "place"]) (sc := defScope s_named_in_order) (by decide +kernel)) (fun _ _ _ _ _ => pg_name (i := 3) sc_named_in_order.nd rfl (.inl rfl)) (fun _ _ _ _ _ => pts_nil) (fun _ _ _ _ _ => (pe_ix (r := rIxT K) ix_tup (pv 1) (pv 3) (fun _ _ => rfl)))) pa_nil)) pa_nil))))), ?_⟩
    refine ⟨_, rfl, _, rfl, o, rfl, ⟨_, ho⟩, fun M nM => lc_tup (K := K) (a := o) (xs := nums ns) (fun j J => J M = some (.lst ((pick ts (ns.take j)).map V.str)) ∧ Same H J)
      ⟨upd_same, same_new nM⟩ (fun j J _ ⟨_, sJ⟩ => st_same sJ ho) ?_ ?_⟩
    · rintro j v J hj ⟨eM, sJ⟩
      obtain ⟨i, hi, rfl⟩ := nums_at hj
      obtain ⟨t, ht, et, mt⟩ := pick_at (il i (List.mem_of_getElem? hi))
      refine ⟨rfl, yes (iteT ⟨_, rfl, _, rfl, l, _, _, _, rfl, rfl, st_same sJ hl, strs_at ht, _, eM, small1000 ?_, ?_, same_off sJ nM⟩)⟩
      · rw [List.length_map, pick_len, List.length_take]
        omega
      · rw [upd_same, take_next hi]
        unfold pick
        rw [List.map_append, List.map_append]
        show some (HO.lst (_ ++ [V.str t])) = some (HO.lst (_ ++ [V.str ((ts[i]?).getD Str.empty)]))
        rw [et]
    rintro J ⟨eM, sJ⟩
    have nl : (nums ns).length = ns.length := by
      unfold nums
      rw [List.length_map]
    rw [nl, List.take_length] at eM
    refine ⟨M, _, rfl, .inl ⟨.inl (.inl eM), fun T nT => ?_⟩⟩
    refine ⟨x, T, so, w, pick ts ns, rfl, nmS (sJ.trans (same_new nT)) hN, hso, w0, w1, .inl (.inl upd_same), by rw [pick_len]; exact n6, pick_wd il wt, fun p G hp sG => k p G hp (sJ.trans ((same_new nT).trans sG))⟩
def Met (K : PySem.W.Frag) (H : Hp) (so : Str) (w : Int) (ts : List Str) (v : V) : Prop := match firstMeet so w ts with
  | none => v = .non
  | some o => ∃ r, v = .ref r ∧ SqT K H r (nums o)
def spMeet (K : PySem.W.Frag) (Nm : Hp → Addr → Str → Int → Prop) : Sp := fun vs H Q _ => ∃ (x l : Addr) (so : Str) (w : Int) (ts : List Str), vs = [.ref x, .ref l] ∧ Nm H x so w ∧ so ∈ sorts ∧ 6 ≤ w ∧ w ≤ 40 ∧ SqT K H l (ts.map V.str) ∧ ts.length ≤ 6 ∧ (∀ t ∈ ts, Wd 200 t) ∧
  ∀ (v : V) (G : Hp), Same H G → Met K G so w ts v → Q v G
theorem cal_meet (B : Bi mg) (D : At K mg "meeting" s_meeting ps_meeting) (C_check_namer : Cal P w K mg base 1 "check_namer" ps_check_namer (spCheckNamer C)) (C_check_texts : Cal P w K mg base 2 "check_texts" ps_check_texts (spCheckTexts K)) (C_orders : Cal P w K mg base 1 "orders" ps_orders (spOrders K)) (C_named_in_order : Cal P w K mg base 5 "named_in_order" ps_named_in_order (spNio K (NmAt C))) : Cal P w K mg base 6 "meeting" ps_meeting (spMeet K (NmAt C)) := by
  refine D.cal sc_meeting (fun vs H Q E h => ?_) (fun f cdv A outer s H vs Q E hr h => ?_)
  · obtain ⟨x, l, so, w, ts, rfl, _⟩ := h
    rfl
  · obtain ⟨x, l, so, w, ts, rfl, hN, hso, w0, w1, hl, t5, wt, k⟩ := h
    have tl : (ts.map V.str).length = ts.length := List.length_map ..
    refine ⟨_, (pss_cons (ps_expr (pe_own C_check_namer hr (by decide) (by rfl) (pa_cons (pv 0) pa_nil)))
      (pss_cons (ps_expr (pe_own C_check_texts hr (by decide) (by rfl) (pa_cons (pv 1) (pa_cons (pe_cst B.MOST_LISTED (by rfl)) pa_nil))))
      (pss_cons (ps_for PassesOwn.never rfl (pi_list (pe_own C_orders hr (by decide) (by rfl) (pa_cons (pe_callB call_len (by rfl) B.len (by decide +kernel) (pa_cons (pv 1) pa_nil)) pa_nil))) (pg_name (i := 2) sc_meeting.nd rfl (.inl rfl))
      (pss_one (ps_if (pt_cmpR op_lt (pe_lenSetK (by rfl) B.len (by rfl) B.set (pe_own C_named_in_order hr (by decide) (by rfl) (pa_cons (pv 0) (pa_cons (pv 1) (pa_cons (pv 2) pa_nil))))) (pe_callB call_len (by rfl) B.len (by decide +kernel) (pa_cons (pv 1) pa_nil)) (nomark _)) (pss_one (ps_ret (pv 2))) pss_nil)))
      (pss_one (ps_ret pe_non))))), ?_⟩
    refine ⟨_, rfl, x, so, w, rfl, hN, ?_⟩
    refine ⟨_, rfl, l, ts, 6, rfl, hl, by omega, wt, fun G1 s1 => ?_⟩
    refine ⟨_, rfl, _, _, rfl, .inr ⟨_, st_same s1 hl, rfl⟩, ts.length, by rw [tl]; rfl, t5, fun p G2 os hO eO s2 => ?_⟩
    have s12 := s1.trans s2
    have mem : ∀ o ∈ os, o.2 ∈ orders ts.length ts.length := fun o ho => by
      rw [← eO]
      exact List.mem_map_of_mem ho
    refine ⟨p, rfl, ⟨_, .inl (.inl hO.ls)⟩, for_list (K := K) (a := p) (xs := os.map fun o => V.ref o.1) (fun j σ J => ∃ u, σ = [some (.ref x), some (.ref l), u] ∧ Same G2 J ∧ ∀ o ∈ os.take j, meetB so w ts o.2 = false) ⟨none, rfl, Same.refl G2, fun o ho => by cases ho⟩ (fun j σ J _ ⟨_, _, sJ, _⟩ => .inl (.inl (sJ _ _ hO.ls))) ?_ ?_⟩
    · rintro j v σ J hj ⟨u, rfl, sJ, no⟩
      rw [List.getElem?_map] at hj
      cases ej : os[j]? with
      | none =>
        rw [ej] at hj
        cases hj
      | some o =>
        rw [ej] at hj
        cases hj
        have mo := List.mem_of_getElem? ej
        obtain ⟨lt, ol⟩ := ord_lt t5 (mem o mo)
        refine ⟨_, rfl, _, rfl, _, rfl, x, l, o.1, so, w, ts, o.2, rfl, hN.same (s12.trans sJ), hso, w0, w1, st_same (s12.trans sJ) hl, wt, st_same sJ (hO.tp o mo), by omega, lt, fun q G3 hq s3 => ?_⟩
        have nl : (namesOf so w (pick ts o.2)).length = ts.length := by
          rw [names_len, pick_len, ol]
        refine ⟨q, (namesOf so w (pick ts o.2)).map Sum.inr, rfl, .inr (by rw [keysS]; exact hq), by rw [List.length_map]; omega, ?_⟩
        rw [keysS_len]
        refine ⟨_, rfl, _, _, rfl, .inr ⟨_, st_same (s12.trans (sJ.trans s3)) hl, rfl⟩, _, _, rfl, rfl, _, rfl, ?_⟩
        rw [tl]
        have e : decide (((dds (namesOf so w (pick ts o.2))).length : Int) < (ts.length : Int)) = meetB so w ts o.2 := decide_eq_decide.mpr (by omega)
        have e2 : decide ((((dds (namesOf so w (pick ts o.2))).length : Nat) : Int) < (ts.length : Int)) = meetB so w ts o.2 := e
        refine ite2 (fun hb => ?_) (fun hb => ?_)
        · have hb : meetB so w ts o.2 = true := by
            rw [← e2]
            exact hb
          refine ⟨_, rfl, k _ _ (s12.trans (sJ.trans s3)) ?_⟩
          have f : firstMeet so w ts = some o.2 := by
            unfold firstMeet
            rw [← eO, List.find?_map]
            have : os.find? (meetB so w ts ∘ fun x => x.2) = some o := by
              have sp : os = os.take j ++ o :: os.drop (j + 1) := by
                have := List.take_append_drop j os
                rw [List.drop_eq_getElem_cons (List.getElem?_eq_some_iff.mp ej).1, (List.getElem?_eq_some_iff.mp ej).2] at this
                exact this.symm
              rw [sp, List.find?_append, List.find?_eq_none.mpr (fun y hy => by
                show ¬ meetB so w ts y.2 = true
                rw [no y hy]
                intro h
                cases h), List.find?_cons]
              show (match meetB so w ts o.2 with | true => some o | false => _) = some o
              rw [hb]
            rw [this]
            rfl
          unfold Met
          rw [f]
          exact ⟨o.1, rfl, st_same (sJ.trans s3) (hO.tp o mo)⟩
        · have hb : meetB so w ts o.2 = false := by
            rw [← e2]
            exact Bool.eq_false_iff.mpr hb
          refine ⟨_, rfl, sJ.trans s3, fun y hy => ?_⟩
          rw [take_next ej] at hy
          rcases List.mem_append.mp hy with hy | hy
          · exact no y hy
          · rw [List.mem_singleton.mp hy]
            exact hb
    · rintro σ J ⟨u, rfl, sJ, no⟩
      rw [List.length_map, List.take_length] at no
      refine k _ _ (s12.trans sJ) ?_
      have f : firstMeet so w ts = none := by
        unfold firstMeet
        rw [← eO]
        refine List.find?_eq_none.mpr fun y hy => ?_
        obtain ⟨o, ho, rfl⟩ := List.mem_map.mp hy
        rw [no o ho]
        intro h
        cases h
      unfold Met
      rw [f]
end
end Gu
namespace Gu
open PySem PySem.Spec PyProof PyProof.Rows L2
/-! ### the program: orders (of tuples whose object is known), possible names -/
structure OrdsF (H : Hp) (a : Addr) (os : List (Addr × List Nat)) : Prop where
  ls : H a = some (.lst (os.map fun o => V.ref o.1))
  tp : ∀ o ∈ os, FT H o.1 (nums o.2)
theorem ft_upd {G : Hp} {c X : Addr} {xs : List V} {o : HO} (n : c ≠ X) (h : FT G c xs) : FT (upd G X o) c xs := by
  obtain ⟨u, h, r⟩ := h
  exact ⟨u, by rw [upd_ne n]; exact h, r⟩
theorem ft_ne {G : Hp} {r M : Addr} {xs ys : List V} (h : FT G r xs) (e : G M = some (.lst ys)) : r ≠ M := fun q => by
  obtain ⟨u, h, _⟩ := h
  rw [q, e] at h
  cases h
def spOrdersF : Sp := fun vs H Q _ => ∃ n : Nat, vs = [.int (n : Int)] ∧ n ≤ 6 ∧ ∀ (p : Addr) (G : Hp) (os : List (Addr × List Nat)), OrdsF G p os → os.map (·.2) = orders n n → Same H G → Q (.ref p) G
section
variable {P : Program} {w : World} {K : PySem.W.Frag} {mg : Str → Option Value} {base : Heap} {C : Addr}
theorem cal_pOrdersF (B : Bi mg) (D : At K mg "orders" s_orders ps_orders) : Cal P w K mg base 1 "orders" ps_orders (spOrdersF) := by
  refine D.cal sc_orders (fun vs H Q E h => ?_) (fun f cdv A outer s H vs Q E hr h => ?_)
  · obtain ⟨n, rfl, _⟩ := h
    rfl
  · obtain ⟨n, rfl, n5, k⟩ := h
    refine ⟨_, (pss_cons (ps_set (i := 1) sc_orders.nd rfl (.inl rfl) (pe_lst (pa_cons (pe_tupF pa_nil) pa_nil)))
      (pss_cons (ps_for PassesOwn.never rfl (pi_range1 (by rfl) B.range (pa_cons (pv 0) pa_nil)) (pg_name (i := 2) sc_orders.nd rfl (.inl rfl))
      (pss_one (ps_setLc2 (wi1 := iRng1 (tCons (tVar 0) tNil)) (i := 1) (own := [("order", 3), ("place", 4)]) (vs1 := [4]) (by rfl) sc_orders.nd rfl rfl (sw_true rfl rfl rfl (by decide +kernel)) (pi_list (pv 1)) (blkOk_by (own := [("order", 3), ("place", 4)]) (N := ["many", "found", "size", "order", "place"]) (sc := defScope s_orders) (by decide +kernel)) (by decide) (fun _ _ _ _ _ => pg_name (i := 3) sc_orders.nd rfl (.inl rfl)) (fun _ _ _ _ _ => pts_nil) (fun _ _ _ _ _ => (pi_range1 (by rfl) B.range (pa_cons (pv 0) pa_nil))) (fun _ _ _ _ _ => pg_name (i := 4) sc_orders.nd rfl (.inl rfl)) (fun _ _ _ _ _ => (pts_one (pt_cmpR (r := rIn K true) op_notIn_seq (pv 4) (pv 3) (by rfl)))) (fun _ _ _ _ _ => (pe_op (r := rCatF ()) op_catF (pv 3) (pe_tupF (pa_cons (pv 4) pa_nil)))))))
      (pss_one (ps_ret (pv 1))))), ?_⟩
    refine ⟨Nat.zero_le _, fun e G0 sG0 fe ne => ⟨by show 1 ≤ sizeLine; decide, fun q nq => ?_⟩⟩
    have s0 : Same H (upd G0 q (.lst [.ref e])) := sG0.trans (same_new nq)
    have o0 : OrdsF (upd G0 q (.lst [.ref e])) q [(e, [])] := ⟨upd_same, fun o ho => by
      rw [List.mem_singleton.mp ho]
      exact fe.same (same_new nq)⟩
    generalize upd G0 q (.lst [.ref e]) = H0 at s0 o0
    refine ⟨_, rfl, _, rfl, by omega, by omega, ?_⟩
    rw [Int.toNat_natCast]
    refine for_range (lo := 0) (n := n) (fun i σ J => ∃ (fd : Addr) (os : List (Addr × List Nat)) (b : Option V), σ = [some (.int (n : Int)), some (.ref fd), b, none, none] ∧ OrdsF J fd os ∧ os.map (·.2) = orders n i ∧ Same H J) ⟨q, _, _, rfl, o0, rfl, s0⟩ ?_ ?_
    · rintro i σ J hi ⟨fd, os, b, rfl, hO, eO, sJ⟩
      have ol : os.length ≤ 720 := by
        have := congrArg List.length eO
        rw [List.length_map] at this
        rw [this]
        exact orders_len n (List.mem_range.mpr (by omega)) i (List.mem_range.mpr (by omega))
      refine ⟨_, rfl, fd, rfl, ⟨_, .inl (.inl hO.ls)⟩, fun M nM => lc2_out (walk_list (K := K) (a := fd) (xs := os.map fun o => V.ref o.1)) (fun j J1 => ∃ ms : List (Addr × List Nat), J1 M = some (.lst (ms.map fun o => V.ref o.1)) ∧ (∀ c ∈ ms, FT J1 c.1 (nums c.2) ∧ c.1 ≠ M) ∧ ms.map (·.2) = ((os.take j).map (·.2)).flatMap (grow n) ∧ Same J J1)
        ⟨[], upd_same, (fun c hc => by cases hc), rfl, same_new nM⟩ (fun j J1 _ ⟨_, _, _, _, s1⟩ => .inl (.inl (s1 _ _ hO.ls))) ?_ ?_⟩
      · rintro j v _ J1 hj ⟨ms, eM, hM, em, s1⟩ ⟨rfl, hv⟩
        rw [List.getElem?_map] at hv
        cases ej : os[j]? with
        | none =>
          rw [ej] at hv
          cases hv
        | some o =>
          rw [ej] at hv
          cases hv
          have mo : o ∈ os := List.mem_of_getElem? ej
          have oT := FT.same s1 (hO.tp o mo)
          have ml : ms.length ≤ 4320 := by
            have a := congrArg List.length em
            rw [List.length_map] at a
            have b := grows_len n ((os.take j).map (·.2))
            rw [← a, List.length_map, List.length_take] at b
            have c : min j os.length * n ≤ 720 * 6 := Nat.mul_le_mul (by omega) n5
            omega
          refine ⟨rfl, yes (iteT ⟨_, rfl, _, rfl, by omega, by omega, lc2_in (walk_range (lo := 0) (n := (n : Int).toNat)) (fun i2 J2 => ∃ cs : List (Addr × List Nat), J2 M = some (.lst ((ms ++ cs).map fun o => V.ref o.1)) ∧ (∀ c ∈ ms ++ cs, FT J2 c.1 (nums c.2) ∧ c.1 ≠ M) ∧ cs.map (·.2) = ((List.range i2).filter fun a => decide (a ∉ o.2)).map (fun a => o.2 ++ [a]) ∧ Same J J2)
            ⟨[], by rw [List.append_nil]; exact eM, by rw [List.append_nil]; exact hM, rfl, s1⟩ (fun _ _ _ _ => trivial) ?_ ?_⟩)⟩
          · rintro i2 x _ J2 hi2 ⟨cs, eX, hc, ec, s2⟩ ⟨rfl, rfl⟩
            have hX : J M = none := nM
            have cl : cs.length ≤ i2 := by
              have a := congrArg List.length ec
              rw [List.length_map, List.length_map] at a
              rw [a]
              exact Nat.le_trans (List.length_filter_le ..) (Nat.le_of_eq List.length_range)
            have i5 : i2 < 6 := by omega
            have oT2 := FT.same s2 (hO.tp o mo)
            refine ⟨rfl, _, rfl, _, rfl, o.1, nums o.2, rfl, .inr oT2.sq, rfl, flat_nums _, _, rfl, ?_⟩
            rw [in_nums]
            refine ite2 (fun hb => ?_) (fun hb => ?_)
            · have hb : i2 ∉ o.2 := fun h => by
                rw [decide_eq_true h] at hb
                cases hb
              have last : ∀ (r : Addr) (G : Hp), Same J2 G → r ≠ M → FT G r (nums (o.2 ++ [i2])) → ∃ acc, G M = some (.lst acc) ∧ acc.length < sizeLine ∧ ∃ cs : List (Addr × List Nat), upd G M (.lst (acc ++ [.ref r])) M = some (.lst ((ms ++ cs).map fun o => V.ref o.1)) ∧ (∀ c ∈ ms ++ cs, FT (upd G M (.lst (acc ++ [.ref r]))) c.1 (nums c.2) ∧ c.1 ≠ M) ∧ cs.map (·.2) = ((List.range (i2 + 1)).filter fun a => decide (a ∉ o.2)).map (fun a => o.2 ++ [a]) ∧ Same J (upd G M (.lst (acc ++ [.ref r]))) := fun r G sG nr hr => by
                refine ⟨_, sG _ _ eX, small5000 (by rw [List.length_map, List.length_append]; omega), cs ++ [(r, o.2 ++ [i2])], ?_, fun c hcm => ?_, ?_, same_off (s2.trans sG) hX⟩
                · rw [upd_same, ← List.append_assoc, List.map_append (l₁ := ms ++ cs) (l₂ := [(r, o.2 ++ [i2])])]
                  rfl
                · rw [← List.append_assoc] at hcm
                  rcases List.mem_append.mp hcm with h | h
                  · exact ⟨ft_upd (hc c h).2 (FT.same sG (hc c h).1), (hc c h).2⟩
                  · rw [List.mem_singleton.mp h]
                    exact ⟨ft_upd nr hr, nr⟩
                · rw [List.range_succ, List.filter_append, List.map_append, List.map_append, ec, List.filter_cons, decide_eq_true hb]
                  rfl
              refine ⟨_, rfl, _, rfl, by show 1 ≤ sizeLine; decide, fun u Gu sU fu nu => ?_⟩
              refine ⟨o.1, u, nums o.2, [.int (0 + (i2 : Int))], rfl, rfl, FT.same sU oT2, fu, Nat.le_of_lt (small1000 ?_), fun r G sG fr => ?_⟩
              · have a := orders_each n (List.mem_range.mpr (by omega)) i (List.mem_range.mpr (by omega)) o.2 (eO ▸ List.mem_map_of_mem mo)
                show (nums o.2).length + 1 ≤ 1000
                unfold nums
                rw [List.length_map]
                omega
              · exact last r G (sU.trans sG) (ft_ne fr ((sU.trans sG) _ _ eX)) (by rw [nums_snoc]; exact fr)
            · have hb : i2 ∈ o.2 := Decidable.byContradiction fun h => hb (by
                rw [decide_eq_false h]
                rfl)
              refine ⟨cs, eX, hc, ?_, s2⟩
              rw [List.range_succ, List.filter_append, List.map_append, ec, List.filter_cons, decide_eq_false (fun h => h hb)]
              simp only [Bool.false_eq_true, if_false, List.filter_nil, List.map_nil, List.append_nil]
          · rintro J2 ⟨cs, eX, hc, ec, s2⟩
            rw [Int.toNat_natCast] at ec
            refine ⟨ms ++ cs, eX, hc, ?_, s2⟩
            rw [List.map_append, em, ec, take_next ej, List.map_append, List.flatMap_append]
            simp only [List.map_cons, List.map_nil, List.flatMap_cons, List.flatMap_nil, List.append_nil]
            rfl
      · rintro J1 ⟨ms, eM, hM, em, s1⟩
        rw [List.length_map, List.take_length, eO] at em
        exact ⟨M, ms, _, rfl, ⟨eM, fun o ho => (hM o ho).1⟩, em, sJ.trans s1⟩
    · rintro σ J ⟨fd, os, b, rfl, hO, eO, sJ⟩
      exact ⟨_, rfl, k fd J os hO eO sJ⟩
end
end Gu
namespace Gu
open PySem PySem.Spec PyProof PyProof.Rows L2
/-! ### orders are all orders; possible names -/
theorem mem_grow {n : Nat} {o q : List Nat} : q ∈ grow n o ↔ ∃ a, a < n ∧ a ∉ o ∧ q = o ++ [a] := by
  unfold grow
  rw [List.mem_map]
  constructor
  · rintro ⟨a, ha, rfl⟩
    obtain ⟨h1, h2⟩ := List.mem_filter.mp ha
    exact ⟨a, List.mem_range.mp h1, of_decide_eq_true h2, rfl⟩
  · rintro ⟨a, h1, h2, rfl⟩
    exact ⟨a, List.mem_filter.mpr ⟨List.mem_range.mpr h1, decide_eq_true h2⟩, rfl⟩
theorem mem_orders {n : Nat} : ∀ (k : Nat) (o : List Nat), o ∈ orders n k ↔ o.length = k ∧ o.Nodup ∧ ∀ i ∈ o, i < n
  | 0, o => by
    show o ∈ [[]] ↔ _
    rw [List.mem_singleton]
    constructor
    · rintro rfl
      exact ⟨rfl, List.nodup_nil, fun i h => by cases h⟩
    · rintro ⟨h, _⟩
      exact List.length_eq_zero_iff.mp h
  | k + 1, o => by
    show o ∈ (orders n k).flatMap (grow n) ↔ _
    rw [List.mem_flatMap]
    constructor
    · rintro ⟨q, hq, ho⟩
      obtain ⟨a, h1, h2, rfl⟩ := mem_grow.mp ho
      obtain ⟨l, d, b⟩ := (mem_orders k q).mp hq
      refine ⟨by rw [List.length_append, l]; rfl, ?_, fun i hi => ?_⟩
      · rw [List.nodup_append]
        refine ⟨d, List.nodup_cons.mpr ⟨List.not_mem_nil, List.nodup_nil⟩, fun x hx y hy e => ?_⟩
        rw [List.mem_singleton.mp hy] at e
        exact h2 (e ▸ hx)
      · rcases List.mem_append.mp hi with h | h
        · exact b i h
        · rw [List.mem_singleton.mp h]
          exact h1
    · rintro ⟨l, d, b⟩
      have ne : o ≠ [] := fun e => by
        rw [e] at l
        cases l
      have e := List.dropLast_concat_getLast ne
      rw [← e] at d b
      obtain ⟨d1, _, d2⟩ := List.nodup_append.mp d
      refine ⟨o.dropLast, (mem_orders k _).mpr ⟨by rw [List.length_dropLast]; omega, d1, fun i hi => b i (List.mem_append_left _ hi)⟩, mem_grow.mpr ⟨o.getLast ne, b _ (List.mem_append_right _ (List.mem_singleton.mpr rfl)), fun h => d2 _ h _ (List.mem_singleton.mpr rfl) rfl, e.symm⟩⟩
/-- the name of the text at pl in this order -/
def nameIn (so : Str) (w : Int) (ts : List Str) (pl : Nat) (o : List Nat) : Str := ((namesOf so w (pick ts o))[o.idxOf pl]?).getD Str.empty
def possOf (so : Str) (w : Int) (ts : List Str) (pl : Nat) : List Str := (orders ts.length ts.length).map (nameIn so w ts pl)
/-- all names that it gets, rising, none twice -/
def Poss (so : Str) (w : Int) (ts : List Str) (pl : Nat) (js : List Str) : Prop := SU js ∧ ∀ k, k ∈ js ↔ k ∈ possOf so w ts pl
theorem Poss.one {so : Str} {w : Int} {ts : List Str} {pl : Nat} {xs ys : List Str} (a : Poss so w ts pl xs) (b : Poss so w ts pl ys) : xs = ys := su_one a.1 b.1 fun k => (a.2 k).trans (b.2 k).symm
theorem ord_has {n : Nat} (h : n ≤ 6) {o : List Nat} (ho : o ∈ orders n n) {pl : Nat} (hp : pl < n) : o.idxOf pl < n ∧ o[o.idxOf pl]? = some pl ∧ ∀ m, m < o.idxOf pl → o[m]? ≠ some pl := by
  have m : pl ∈ o := (ord_ok h ho).mem_iff.mpr (List.mem_range.mpr hp)
  have l := List.idxOf_lt_length_of_mem m
  refine ⟨by rw [← (ord_lt h ho).2]; exact l, ?_, fun k hk e => ?_⟩
  · rw [List.getElem?_eq_getElem l]
    exact congrArg some (List.getElem_idxOf l)
  · obtain ⟨h1, h2⟩ := List.getElem?_eq_some_iff.mp e
    have nd : o.Nodup := ((mem_orders n o).mp ho).2.1
    have q := List.getElem_idxOf l
    rw [← q] at h2
    have := (List.getElem_inj nd).mp h2
    omega
section
variable {X : Cx}
/-- t.index(i), the first place -/
def rIdxI (K : PySem.W.Frag) : V → List V → Hp → VK → Prop := fun x xs H Q => ∃ (p : Addr) (o : List Nat) (i j : Nat), x = .ref p ∧ xs = [.int (i : Int)] ∧ SqT K H p (nums o) ∧ o[j]? = some i ∧ (∀ m, m < j → o[m]? ≠ some i) ∧ Q (.int (j : Nat)) H
theorem mt_tup_indexI : MtR X "tuple.index" (rIdxI X.K) := by
  intro pins s σ H x xs v us Q I rx rs h
  obtain ⟨p, o, i, j, rfl, rfl, hq, hy, hno, q⟩ := h
  cases rx
  obtain ⟨u, rfl, t, rfl⟩ := vals1 rs
  obtain ⟨its, r, pl, hz⟩ := I.tuple hq
  obtain ⟨⟨cls, dd, dt, sl⟩, ho, hc, n, hd⟩ := pl
  simp only at hc hd
  subst hc
  subst hd
  have hl : its.toArray.size = o.length := by rw [List.size_toArray, ← r.length]; unfold nums; rw [List.length_map]
  have hj : j < its.toArray.size := by rw [hl]; exact (List.getElem?_eq_some_iff.mp hy).1
  have at' : ∀ (m : Nat) (hm : m < its.toArray.size), ∃ (y : Nat) (t' : Tok), o[m]? = some y ∧ its.toArray[m] = Value.int (y : Int) t' := fun m hm => by
    have hm' : m < o.length := by rw [← hl]; exact hm
    obtain ⟨w, hw, t', hw'⟩ := r.get (i := m) (x := .int (o[m] : Int)) (by unfold nums; simp [hm'])
    refine ⟨o[m], t', List.getElem?_eq_getElem hm', ?_⟩
    have e := (List.getElem?_eq_some_iff.mp hw).2
    rw [← hw', ← e]
    simp
  refine call_meets PySem.F.slot_tuple_index ⟨_, ho, rfl⟩ PySem.F.entry_tuple_index (PySem.F.args_tuple_index_2 _ _) (TI.tuple_indexAt p its.toArray n dd sl (.int (i : Int) t) (eqU (.int (i : Int))) j hj ?_ ?_)
    ⟨ho, fun w hw => mem_eqAt (x := .int (i : Int)) ⟨t, rfl⟩ rfl r (flat_nums o) w (by simpa using hw), ⟨.int (j : Nat), H, I.tok _, ⟨_, rfl⟩, q⟩⟩
  · obtain ⟨y, t', h1, h2⟩ := at' j hj
    rw [hy] at h1
    cases h1
    rw [h2]
    show (((i : Int)) == (i : Int)) = true
    exact beq_self_eq_true _
  · intro m hm hmj
    obtain ⟨y, t', h1, h2⟩ := at' m hm
    rw [h2]
    show (((y : Int)) == (i : Int)) = false
    exact beq_eq_false_iff_ne.mpr fun e => hno m hmj (by rw [h1]; exact congrArg some (by omega))
end
section
variable {P : Program} {w : World} {K : PySem.W.Frag} {mg : Str → Option Value} {base : Heap} {C : Addr}
def spPoss (K : PySem.W.Frag) (Nm : Hp → Addr → Str → Int → Prop) : Sp := fun vs H Q _ => ∃ (x l : Addr) (so : Str) (w : Int) (ts : List Str) (pl : Nat), vs = [.ref x, .ref l, .int (pl : Int)] ∧ Nm H x so w ∧ so ∈ sorts ∧ 6 ≤ w ∧ w ≤ 40 ∧ SqT K H l (ts.map V.str) ∧ ts.length ≤ 6 ∧ (∀ t ∈ ts, Wd 200 t) ∧ pl < ts.length ∧
  ∀ (p : Addr) (G : Hp) (js : List Str), Poss so w ts pl js → SqT K G p (js.map V.str) → Same H G → Q (.ref p) G
theorem cal_poss (B : Bi mg) (D : At K mg "possible_names" s_possible_names ps_possible_names) (C_check_namer : Cal P w K mg base 1 "check_namer" ps_check_namer (spCheckNamer C)) (C_check_texts : Cal P w K mg base 2 "check_texts" ps_check_texts (spCheckTexts K)) (C_is_integer : Cal P w K mg base 1 "is_integer" ps_is_integer (spIsInteger K))
    (C_orders : Cal P w K mg base 1 "orders" ps_orders spOrdersF) (C_named_in_order : Cal P w K mg base 5 "named_in_order" ps_named_in_order (spNio K (NmAt C))) : Cal P w K mg base 6 "possible_names" ps_possible_names (spPoss K (NmAt C)) := by
  refine D.cal sc_possible_names (fun vs H Q E h => ?_) (fun f cdv A outer s H vs Q E hr h => ?_)
  · obtain ⟨x, l, so, w, ts, pl, rfl, _⟩ := h
    rfl
  · obtain ⟨x, l, so, w, ts, pl, rfl, hN, hso, w0, w1, hl, t5, wt, hp, k⟩ := h
    have tl : (ts.map V.str).length = ts.length := List.length_map ..
    refine ⟨_, (pss_cons (ps_expr (pe_own C_check_namer hr (by decide) (by rfl) (pa_cons (pv 0) pa_nil)))
      (pss_cons (ps_expr (pe_own C_check_texts hr (by decide) (by rfl) (pa_cons (pv 1) (pa_cons (pe_cst B.MOST_LISTED (by rfl)) pa_nil))))
      (pss_cons (ps_if (pt_not (pt_val (pe_own C_is_integer hr (by decide) (by rfl) (pa_cons (pv 2) (pa_cons pe_int (pa_cons (pe_op op_sub (pe_callB call_len (by rfl) B.len (by decide +kernel) (pa_cons (pv 1) pa_nil)) pe_int) pa_nil)))))) pss_never pss_nil)
      (pss_cons (ps_setLc (i := 3) (own := [("order", 4)]) (by rfl) sc_possible_names.nd rfl rfl (sw_true rfl rfl rfl (by decide +kernel)) (pi_list (pe_own C_orders hr (by decide) (by rfl) (pa_cons (pe_callB call_len (by rfl) B.len (by decide +kernel) (pa_cons (pv 1) pa_nil)) pa_nil))) (blkOk_by (own := [("order", 4)]) (N := ["namer", "texts", "place", "found", "order"]) (sc := defScope s_possible_names) (by decide +kernel)) (fun _ _ _ _ _ => pg_name (i := 4) sc_possible_names.nd rfl (.inl rfl)) (fun _ _ _ _ _ => pts_nil) (fun _ _ _ _ _ => (pe_ix (r := rIxT K) ix_tup (pe_own C_named_in_order hr (by decide) (by rfl) (pa_cons (pv 0) (pa_cons (pv 1) (pa_cons (pv 4) pa_nil)))) (pe_bmF (r := rIdxI K) PySem.F.plainAttrs_tuple PySem.F.slot_tuple_index PySem.F.type_tuple_index mt_tup_indexI (pv 4) (pa_cons (pv 2) pa_nil)) (fun _ _ => rfl))))
      (pss_one (ps_ret (pe_callTy call_tuple_of (by rfl) B.tuple (by decide +kernel) (pa_cons (pe_sortSetK (K := K) (by rfl) (by rfl) B.sorted (by rfl) B.set (pv 3)) pa_nil)))))))), ?_⟩
    refine ⟨_, rfl, x, so, w, rfl, hN, ?_⟩
    refine ⟨_, rfl, l, ts, 6, rfl, hl, by omega, wt, fun G1 s1 => ?_⟩
    refine ⟨_, rfl, _, rfl, _, _, rfl, .inr ⟨_, st_same s1 hl, rfl⟩, _, _, rfl, rfl, _, _, _, rfl, .inl ⟨_, rfl, _, rfl, ?_⟩⟩
    rw [tl, decide_eq_true (by omega : (0 : Int) ≤ (pl : Int) ∧ (pl : Int) ≤ (ts.length : Int) - 1)]
    refine iteF ?_
    refine ⟨_, rfl, _, _, rfl, .inr ⟨_, st_same s1 hl, rfl⟩, ts.length, by rw [tl]; rfl, t5, fun p G2 os hO eO s2 => ?_⟩
    have s12 := s1.trans s2
    have mem : ∀ o ∈ os, o.2 ∈ orders ts.length ts.length := fun o ho => by
      rw [← eO]
      exact List.mem_map_of_mem ho
    have ol : os.length ≤ 720 := by
      have := congrArg List.length eO
      rw [List.length_map] at this
      rw [this]
      exact orders_len ts.length (List.mem_range.mpr (by omega)) ts.length (List.mem_range.mpr (by omega))
    refine ⟨p, rfl, ⟨_, .inl (.inl hO.ls)⟩, fun M nM => lc_list (K := K) (a := p) (xs := os.map fun o => V.ref o.1) (fun j J => J M = some (.lst (((os.take j).map fun o => nameIn so w ts pl o.2).map V.str)) ∧ Same G2 J)
      ⟨upd_same, same_new nM⟩ (fun j J _ ⟨_, sJ⟩ => .inl (.inl (sJ _ _ hO.ls))) ?_ ?_⟩
    · rintro j v J hj ⟨eM, sJ⟩
      rw [List.getElem?_map] at hj
      cases ej : os[j]? with
      | none =>
        rw [ej] at hj
        cases hj
      | some o =>
        rw [ej] at hj
        cases hj
        have mo := List.mem_of_getElem? ej
        obtain ⟨lt, oll⟩ := ord_lt t5 (mem o mo)
        obtain ⟨i1, i2, i3⟩ := ord_has t5 (mem o mo) hp
        have hoT := FT.same sJ (hO.tp o mo)
        refine ⟨rfl, yes (iteT ⟨_, rfl, _, rfl, _, rfl, x, l, o.1, so, w, ts, o.2, rfl, hN.same (s12.trans sJ), hso, w0, w1, st_same (s12.trans sJ) hl, wt, hoT.sq, by omega, lt, fun q G3 hq s3 => ?_⟩)⟩
        have nl : (namesOf so w (pick ts o.2)).length = ts.length := by rw [names_len, pick_len, oll]
        have hoT3 := FT.same s3 hoT
        refine ⟨_, rfl, ⟨_, _, rfl, hoT3⟩, _, rfl, _, o.2, pl, _, rfl, rfl, hoT3.sq, i2, i3, ?_⟩
        have ag : (namesOf so w (pick ts o.2))[o.2.idxOf pl]? = some (nameIn so w ts pl o.2) := by
          unfold nameIn
          rw [List.getElem?_eq_getElem (by omega)]
          rfl
        refine ⟨_, _, _, _, rfl, rfl, hq, strs_at ag, _, s3 _ _ eM, small1000 ?_, ?_, same_off (sJ.trans s3) nM⟩
        · rw [List.length_map, List.length_map, List.length_take]
          omega
        · rw [upd_same, take_next ej, List.map_append, List.map_append]
          rfl
    rintro J ⟨eM, sJ⟩
    rw [List.length_map, List.take_length] at eM
    have eP : os.map (fun o => nameIn so w ts pl o.2) = possOf so w ts pl := by
      unfold possOf
      rw [← eO, List.map_map]
      rfl
    rw [eP] at eM
    have pll : (possOf so w ts pl).length ≤ 4000 := by
      rw [← eP, List.length_map]
      omega
    refine ⟨_, rfl, M, possOf so w ts pl, rfl, .inl (.inl (.inl eM)), pll, fun q js su mem2 jl nq => ?_⟩
    refine ⟨q, js.map V.str, rfl, .inl ⟨.inl (.inl upd_same), fun T nT => ?_⟩⟩
    exact k T _ js ⟨su, mem2⟩ (.inl (.inl upd_same)) (s12.trans (sJ.trans ((same_new nq).trans (same_new nT))))
end
end Gu
namespace Gu
open PySem PySem.Spec PyProof.Rows L2
/-! ### methods -/
structure MethAt (K : PySem.W.Frag) (C : Addr) (m q : Str) (st : Stmt) (ps : List Str) : Prop where
  ex : ∃ (f : Addr) (fd : FuncData), Meth K C m f ∧ Fun K m q st f fd ∧ Binds K fd ps []
structure CalM (P : Program) (w : World) (K : PySem.W.Frag) (mg : Str → Option Value) (base : Heap) (k : Nat) (C : Addr) (m : Str) (ps : List Str) (sp : Sp) : Prop where
  ex : ∃ (f : Addr) (fd : FuncData), Meth K C m f ∧ FnOk P w K mg base CX0 k f fd ps sp ∧ Binds K fd ps []
section
variable {P : Program} {w : World} {K : PySem.W.Frag} {mg : Str → Option Value} {base : Heap} {C : Addr}
theorem MethAt.cal {m q : Str} {st : Stmt} {N ps : List Str} {k : Nat} {sp : Sp} (D : MethAt K C m q st ps) (S : FnScope N ps (defScope st)) (len : ∀ vs H Q E, sp vs H Q E → vs.length = ps.length)
    (body : ∀ (f : Addr) (cdv : Value) (A : Around) (outer : List Env) (s : Shared) (H : Hp) (vs : List V) (Q : VK) (E : XK), Room k (A.deeper (envOfC q (defScope st) s.heap.objs.size f cdv)) → sp vs H Q E →
      ∃ t, PSs (cxOf CX0 P w K mg base N q (defScope st) f cdv A outer s H E).nox (defBody st) t ∧ t { nx := fun _ G => Q .non G, rt := Q } (start N vs) H) : CalM P w K mg base (k + 1) C m ps sp := by
  obtain ⟨f, fd, M, F, b⟩ := D.ex
  exact ⟨f, fd, M, F.ok S len (body f), b⟩
end
section
variable {X : Cx} {k j : Nat} {m : Str} {ps : List Str} {sp : Sp} {apos pos : Pos} {o e : Expr} {es : List Expr} {t : TA} {ta : TE} {C : Addr}
theorem pe_mth (c : CalM X.prog X.w X.K X.mg X.base k C m ps sp) (cl : Cls X.K C) (hr : Room j X.A) (hk : k ≤ j) (he : PE X o ta) (ha : PA X (e :: es) t) {pl : Sem Bool}
    (hst : starEach (e :: es) X.env = (false, eval e X.env) :: starEach es X.env := by rfl) (hpl : (backTo pos (starEach es X.env)).any (·.1) = false := by rfl)
    (ht : eval (.Call (.Attribute o m apos) (e :: es) [] pos) X.env = (do
      let ov ← eval o X.env
      standAt apos.atName
      let (f, first) ← holding [ov] (getMethod ov m pl)
      callWith pos f first (backTo pos (starEach (e :: es) X.env)) (backToKw pos (keywordEach [] X.env))) := by rfl) : PE X (.Call (.Attribute o m apos) (e :: es) [] pos) (tMeth C m sp [] E0 ta t) := by
  obtain ⟨f, fd, M, F, b⟩ := c.ex
  exact pe_meth he cl M F (hr.mono hk) b .nil pass0 ha hst hpl ht
theorem pe_mth0 (c : CalM X.prog X.w X.K X.mg X.base k C m ps sp) (cl : Cls X.K C) (hr : Room j X.A) (hk : k ≤ j) (he : PE X o ta) {pl : Sem Bool}
    (ht : eval (.Call (.Attribute o m apos) [] [] pos) X.env = (do
      let ov ← eval o X.env
      standAt apos.atName
      let (f, first) ← holding [ov] (getMethod ov m pl)
      callWith pos f first (backTo pos (starEach [] X.env)) (backToKw pos (keywordEach [] X.env))) := by rfl) : PE X (.Call (.Attribute o m apos) [] [] pos) (tMeth C m sp [] E0 ta tNil) := by
  obtain ⟨f, fd, M, F, b⟩ := c.ex
  exact pe_meth0 he cl M F (hr.mono hk) b .nil pass0 ht
end
/-! ### shelves in the heap -/
abbrev Prs := List (Str × Str)
def txts (ps : Prs) : List V := (ps.map (·.1)).map V.str
def nms (ps : Prs) : List V := (ps.map (·.2)).map V.str
structure Sf where
  so : Str
  w : Int
  ps : Prs
  past : List Prs
  busy : Bool
structure PrsOk (ps : Prs) : Prop where
  len : ps.length ≤ 20
  wd : ∀ q ∈ ps, Wd 200 q.1 ∧ Wd 203 q.2
structure Sf.ok (S : Sf) : Prop where
  so : S.so ∈ sorts
  w0 : 6 ≤ S.w
  w1 : S.w ≤ 40
  ps : PrsOk S.ps
  past : ∀ ps ∈ S.past, PrsOk ps
  few : S.past.length ≤ 500
def sflds (n a b c : Addr) (z : Bool) : List (Str × V) := [("namer", .ref n), ("busy", .bl z), ("texts", .ref a), ("names", .ref b), ("past", .ref c)]
section
variable {n a b c d : Addr} {z y : Bool}
theorem sf_namer : (sflds n a b c z).lookup ("namer" : Str) = some (.ref n) := rfl
theorem sf_busy : (sflds n a b c z).lookup ("busy" : Str) = some (.bl z) := rfl
theorem sf_texts : (sflds n a b c z).lookup ("texts" : Str) = some (.ref a) := rfl
theorem sf_names : (sflds n a b c z).lookup ("names" : Str) = some (.ref b) := rfl
theorem sf_past : (sflds n a b c z).lookup ("past" : Str) = some (.ref c) := rfl
theorem put_busy : putF "busy" (.bl y) (sflds n a b c z) = sflds n a b c y := rfl
theorem put_texts : putF "texts" (.ref d) (sflds n a b c z) = sflds n d b c z := rfl
theorem put_names : putF "names" (.ref d) (sflds n a b c z) = sflds n a d c z := rfl
theorem put_past : putF "past" (.ref d) (sflds n a b c z) = sflds n a b d z := rfl
end
def PairAt (H : Hp) (q : Addr) (ps : Prs) : Prop := ∃ a b, H q = some (.tup [.ref a, .ref b]) ∧ H a = some (.tup (txts ps)) ∧ FT H b (nms ps)
def PastAt (H : Hp) (c : Addr) (past : List Prs) : Prop := ∃ qs : List (Addr × Prs), H c = some (.tup (qs.map fun q => V.ref q.1)) ∧ qs.map (·.2) = past ∧ ∀ q ∈ qs, PairAt H q.1 q.2
structure ShelfAt (C N : Addr) (H : Hp) (s : Addr) (S : Sf) : Prop where
  ex : ∃ dx n a b c, H s = some (.ins C dx (sflds n a b c S.busy)) ∧ NmAt N H n S.so S.w ∧ H a = some (.tup (txts S.ps)) ∧ FT H b (nms S.ps) ∧ PastAt H c S.past
/-- what stands, but at the places of l -/
def Kp (l : List Addr) (H G : Hp) : Prop := ∀ b o, H b = some o → b ∉ l → G b = some o
theorem Kp.refl {l : List Addr} {H : Hp} : Kp l H H := fun _ _ e _ => e
theorem Kp.trans {l : List Addr} {H G J : Hp} (a : Kp l H G) (b : Kp l G J) : Kp l H J := fun c o e n => b c o (a c o e n) n
theorem Kp.same {l : List Addr} {H G : Hp} (s : Same H G) : Kp l H G := fun b o e _ => s b o e
theorem Kp.mono {l m : List Addr} {H G : Hp} (k : Kp l H G) (h : ∀ b ∈ l, b ∈ m) : Kp m H G := fun b o e n => k b o e fun z => n (h b z)
theorem Kp.lad {p : Addr} {H G : Hp} (L : Ladled p H G) : Kp [p] H G := fun b o e n => L.keep b o e fun z => n (List.mem_singleton.mpr z)
theorem PairAt.same {H G : Hp} {q : Addr} {ps : Prs} (s : Same H G) (h : PairAt H q ps) : PairAt G q ps := by
  obtain ⟨a, b, e1, e2, e3⟩ := h
  exact ⟨a, b, s _ _ e1, s _ _ e2, e3.same s⟩
theorem PastAt.same {H G : Hp} {c : Addr} {past : List Prs} (s : Same H G) (h : PastAt H c past) : PastAt G c past := by
  obtain ⟨qs, e, h1, h2⟩ := h
  exact ⟨qs, s _ _ e, h1, fun q hq => (h2 q hq).same s⟩
theorem ShelfAt.same {C N : Addr} {H G : Hp} {s : Addr} {S : Sf} (k : Same H G) (h : ShelfAt C N H s S) : ShelfAt C N G s S := by
  obtain ⟨dx, n, a, b, c, e0, e1, e2, e3, e4⟩ := h.ex
  exact ⟨dx, n, a, b, c, k _ _ e0, e1.same k, k _ _ e2, e3.same k, e4.same k⟩
/-- at the places of l stand pots and shelves -/
def Muts (C N : Addr) (l : List Addr) (H : Hp) : Prop := ∀ b ∈ l, Pot H b ∨ ∃ S, ShelfAt C N H b S
section
variable {C N : Addr} {l : List Addr} {H G : Hp}
theorem Muts.tup (m : Muts C N l H) {q : Addr} {xs : List V} (e : H q = some (.tup xs)) : q ∉ l := fun hq => by
  rcases m q hq with ⟨x, y, z, f⟩ | ⟨S, h⟩
  · rw [e] at f
    cases f
  · obtain ⟨_, _, _, _, _, f, _⟩ := h.ex
    rw [e] at f
    cases f
theorem Muts.ft (m : Muts C N l H) {q : Addr} {xs : List V} (h : FT H q xs) : q ∉ l := fun hq => by
  obtain ⟨o, e, _⟩ := h
  rcases m q hq with ⟨x, y, z, f⟩ | ⟨S, h⟩
  · rw [e] at f
    cases f
  · obtain ⟨_, _, _, _, _, f, _⟩ := h.ex
    rw [e] at f
    cases f
theorem FT.kp (m : Muts C N l H) (k : Kp l H G) {q : Addr} {xs : List V} (h : FT H q xs) : FT G q xs := by
  have n := m.ft h
  obtain ⟨o, e, r⟩ := h
  exact ⟨o, k _ _ e n, r⟩
theorem nfl_len (so : Str) (w : Int) : (nflds so w).length ≤ 2 := by
  unfold nflds
  exact Nat.le_trans (length_putF _ _ _) (Nat.succ_le_succ (length_putF _ _ _))
theorem Muts.nm (m : Muts C N l H) {M q : Addr} {so : Str} {w : Int} (h : NmAt M H q so w) : q ∉ l := fun hq => by
  obtain ⟨dx, e⟩ := h
  rcases m q hq with ⟨x, y, z, f⟩ | ⟨S, h⟩
  · rw [e] at f
    cases f
  · obtain ⟨_, _, _, _, _, f, _⟩ := h.ex
    rw [e] at f
    injection f with f
    injection f with _ _ f
    have l2 := nfl_len so w
    rw [f] at l2
    exact absurd l2 (by show ¬ (5 ≤ 2); decide)
theorem PairAt.kp (m : Muts C N l H) (k : Kp l H G) {q : Addr} {ps : Prs} (h : PairAt H q ps) : PairAt G q ps := by
  obtain ⟨a, b, e1, e2, e3⟩ := h
  exact ⟨a, b, k _ _ e1 (m.tup e1), k _ _ e2 (m.tup e2), e3.kp m k⟩
theorem PastAt.kp (m : Muts C N l H) (k : Kp l H G) {c : Addr} {past : List Prs} (h : PastAt H c past) : PastAt G c past := by
  obtain ⟨qs, e, h1, h2⟩ := h
  exact ⟨qs, k _ _ e (m.tup e), h1, fun q hq => (h2 q hq).kp m k⟩
theorem NmAt.kp (m : Muts C N l H) (k : Kp l H G) {M q : Addr} {so : Str} {w : Int} (h : NmAt M H q so w) : NmAt M G q so w := by
  have nq := m.nm h
  obtain ⟨dx, e⟩ := h
  exact ⟨dx, k _ _ e nq⟩
/-- a shelf that is none of them stands -/
theorem ShelfAt.kp (m : Muts C N l H) (k : Kp l H G) {s : Addr} {S : Sf} (h : ShelfAt C N H s S) (n : s ∉ l) : ShelfAt C N G s S := by
  obtain ⟨dx, n1, a, b, c, e0, e1, e2, e3, e4⟩ := h.ex
  exact ⟨dx, n1, a, b, c, k _ _ e0 n, e1.kp m k, k _ _ e2 (m.tup e2), e3.kp m k, e4.kp m k⟩
end
/-- one text comes -/
def Sf.come (S : Sf) (t : Str) : Sf := { S with ps := S.ps ++ [(t, nameOf S.so S.w t S.ps)], past := S.past ++ [S.ps] }
/-- the one at i goes -/
def Sf.go (S : Sf) (i : Nat) : Sf := { S with ps := S.ps.take i ++ S.ps.drop (i + 1), past := S.past ++ [S.ps] }
end Gu
namespace Gu
open PySem PySem.Spec PyProof.Rows L2
/-! ### the class Shelf -/
structure ShlC (K : PySem.W.Frag) (mg : Str → Option Value) (C : Addr) : Prop where
  cl : Cls K C
  nN : NoAttr K C "namer"
  nB : NoAttr K C "busy"
  nT : NoAttr K C "texts"
  nM : NoAttr K C "names"
  nP : NoAttr K C "past"
  g : mg "Shelf" = some (.ref C)
theorem kp_upd {s : Addr} {H : Hp} {o : HO} : Kp [s] H (upd H s o) := fun b x e n => by
  rw [upd_ne fun z => n (List.mem_singleton.mpr z)]
  exact e
theorem nextOf_ps (so : Str) (w : Int) (t : Str) (ps : Prs) : nextOf so w t (ps.map (·.1)) (ps.map (·.2)) = nameOf so w t ps := by
  have e : (alike w t (ps.map (·.1))).length = (mates w t ps).length := by
    unfold mates alike
    rw [List.filter_map, List.length_map]
    rfl
  unfold nextOf nameOf countedOf freeP
  rw [e]
theorem sl_okU {K : PySem.W.Frag} {H : Hp} {a : Addr} {xs : List V} {Q : VK} {lo hi : Option Int} (ha : H a = some (.tup xs)) (q : ∀ U G, Same H G → G U = some (.tup (cutV xs lo hi)) → Q (.ref U) G) : rSlA K (.ref a) lo hi H Q := by
  refine ⟨a, xs, rfl, .inl (.inl ha), fun ⟨e1, e2⟩ => q a H (Same.refl H) ?_, fun _ p np => q p _ (same_new np) upd_same⟩
  unfold cutV
  rw [e1, e2, List.drop_zero, Nat.sub_zero, List.take_length]
  exact ha
theorem catU {K : PySem.W.Frag} {H : Hp} {a b : Addr} {xs ys : List V} {Q : VK} (ha : H a = some (.tup xs)) (hb : H b = some (.tup ys)) (hl : xs.length + ys.length ≤ sizeLine) (q : ∀ U G, Same H G → G U = some (.tup (xs ++ ys)) → Q (.ref U) G) : rCatA K (.ref a) (.ref b) H Q := by
  refine ⟨a, b, xs, ys, rfl, rfl, .inl (.inl ha), .inl (.inl hb), hl, fun e => q b H (Same.refl H) ?_, fun _ e => q a H (Same.refl H) ?_, fun _ _ p np => q p _ (same_new np) upd_same⟩
  · rw [e]
    exact hb
  · rw [e, List.append_nil]
    exact ha
section
variable {P : Program} {w : World} {K : PySem.W.Frag} {mg : Str → Option Value} {base : Heap} {C N : Addr}
/-! check_text, for texts -/
def spCheckTextW : Sp := fun vs H Q _ => ∃ t : Str, vs = [.str t] ∧ Wd 200 t ∧ ∀ G, Same H G → Q .non G
theorem cal_checkTextW (B : Bi mg) (D : At K mg "check_text" s_check_text ps_check_text) (C_is_text : Cal P w K mg base 1 "is_text" ps_is_text (spIsText K)) : Cal P w K mg base 2 "check_text" ps_check_text spCheckTextW := by
  refine D.cal sc_check_text (fun vs H Q E h => ?_) (fun f cdv A outer s H vs Q E hr h => ?_)
  · obtain ⟨t, rfl, _⟩ := h
    rfl
  · obtain ⟨t, rfl, wt, k⟩ := h
    have tl : t.length ≤ 200 := wt.len
    refine ⟨_, (pss_one (ps_if (pt_not (pt_val (pe_own C_is_text hr (by decide) (by rfl) (pa_cons (pv 0) (pa_cons (pe_cst B.MOST_TEXT (by rfl)) pa_nil))))) pss_never pss_nil)), ?_⟩
    refine ⟨_, rfl, _, _, rfl, .inl ⟨t, rfl, by omega, fun G sG => ⟨_, rfl, ?_⟩⟩⟩
    rw [show isTxt t 200 = true from wd_isTxt wt]
    exact iteF (k G sG)
/-! Shelf.__init__ -/
def spShInit (C N : Addr) : Sp := fun vs H Q _ => ∃ (x dx n : Addr) (so : Str) (w : Int), vs = [.ref x, .ref n] ∧ H x = some (.ins C dx []) ∧ NmAt N H n so w ∧ ∀ G, Kp [x] H G → ShelfAt C N G x ⟨so, w, [], [], false⟩ → Q .non G
theorem ok_shinit {f : Addr} {fd : FuncData} (B : Bi mg) (S : ShlC K mg C) (F : Fun K "__init__" "Shelf.__init__" s_Shelf_init f fd) (C_check_namer : Cal P w K mg base 1 "check_namer" ps_check_namer (spCheckNamer N)) : FnOk P w K mg base CX0 2 f fd ps_Shelf_init (spShInit C N) := by
  refine F.ok sc_Shelf_init (fun vs H Q E h => ?_) (fun cdv A outer s H vs Q E hr h => ?_)
  · obtain ⟨x, dx, n, so, w, rfl, _⟩ := h
    rfl
  · obtain ⟨x, dx, n, so, w, rfl, hx, hN, k⟩ := h
    have nx : n ≠ x := fun z => by
      obtain ⟨d, e⟩ := hN
      rw [z, hx] at e
      injection e with e
      injection e with _ _ e
      have a := nflds_rule so w
      rw [← e] at a
      cases a
    refine ⟨_, (pss_cons (ps_expr (pe_own C_check_namer hr (by decide) (by rfl) (pa_cons (pv 1) pa_nil)))
      (pss_cons (ps_fld (pv 0) (pv 1) rfl)
      (pss_cons (ps_fld (pv 0) pe_bl rfl)
      (pss_cons (ps_fld (pv 0) (pe_tup pa_nil) rfl)
      (pss_cons (ps_fld (pv 0) (pe_tupF pa_nil) rfl)
      (pss_one (ps_fld (pv 0) (pe_tup pa_nil) rfl))))))), ?_⟩
    refine ⟨_, rfl, n, so, w, rfl, hN, ?_⟩
    refine ⟨_, rfl, _, rfl, x, C, dx, [], rfl, hx, S.cl, S.nN, by decide, ?_⟩
    generalize hG : upd H x _ = G1
    have k1 : Kp [x] H G1 := hG ▸ kp_upd
    have e1 : G1 x = some (.ins C dx [("namer", .ref n)]) := by rw [← hG]; exact upd_same
    clear hG
    refine ⟨_, rfl, x, C, dx, _, rfl, e1, S.cl, S.nB, by show 1 < 1000; decide, ?_⟩
    generalize hG : upd G1 x _ = G2
    have k2 : Kp [x] G1 G2 := hG ▸ kp_upd
    have e2 : G2 x = some (.ins C dx [("namer", .ref n), ("busy", .bl false)]) := by rw [← hG]; exact upd_same
    clear hG
    refine ⟨by show 0 ≤ sizeLine; decide, fun a na => ?_⟩
    generalize hG : upd G2 a _ = G3
    have s3 : Same G2 G3 := hG ▸ same_new na
    have ea : G3 a = some (.tup []) := by rw [← hG]; exact upd_same
    clear hG
    have nax : a ≠ x := fun z => by rw [z, e2] at na; cases na
    refine ⟨_, rfl, x, C, dx, _, rfl, s3 _ _ e2, S.cl, S.nT, by show 2 < 1000; decide, ?_⟩
    generalize hG : upd G3 x _ = G4
    have k4 : Kp [x] G3 G4 := hG ▸ kp_upd
    have e4 : G4 x = some (.ins C dx [("namer", .ref n), ("busy", .bl false), ("texts", .ref a)]) := by rw [← hG]; exact upd_same
    clear hG
    refine ⟨by show 0 ≤ sizeLine; decide, fun b G5 s5 eb nb => ?_⟩
    have nbx : b ≠ x := fun z => by rw [z, e4] at nb; cases nb
    refine ⟨_, rfl, x, C, dx, _, rfl, s5 _ _ e4, S.cl, S.nM, by show 3 < 1000; decide, ?_⟩
    generalize hG : upd G5 x _ = G6
    have k6 : Kp [x] G5 G6 := hG ▸ kp_upd
    have e6 : G6 x = some (.ins C dx [("namer", .ref n), ("busy", .bl false), ("texts", .ref a), ("names", .ref b)]) := by rw [← hG]; exact upd_same
    clear hG
    refine ⟨by show 0 ≤ sizeLine; decide, fun c nc => ?_⟩
    generalize hG : upd G6 c _ = G7
    have s7 : Same G6 G7 := hG ▸ same_new nc
    have ec : G7 c = some (.tup []) := by rw [← hG]; exact upd_same
    clear hG
    have ncx : c ≠ x := fun z => by rw [z, e6] at nc; cases nc
    refine ⟨_, rfl, x, C, dx, _, rfl, s7 _ _ e6, S.cl, S.nP, by show 4 < 1000; decide, ?_⟩
    generalize hG : upd G7 x _ = G8
    have k8 : Kp [x] G7 G8 := hG ▸ kp_upd
    have e8 : G8 x = some (.ins C dx (sflds n a b c false)) := by rw [← hG]; exact upd_same
    clear hG
    have no : ∀ {b : Addr}, b ≠ x → b ∉ [x] := fun h z => h (List.mem_singleton.mp z)
    have kA : Kp [x] H G8 := k1.trans (k2.trans ((Kp.same s3).trans (k4.trans ((Kp.same s5).trans (k6.trans ((Kp.same s7).trans k8))))))
    refine k G8 kA ⟨dx, n, a, b, c, e8, ?_, k8 _ _ (s7 _ _ (k6 _ _ (s5 _ _ (k4 _ _ ea (no nax))) (no nax))) (no nax), ?_, [], k8 _ _ ec (no ncx), rfl, fun q hq => by cases hq⟩
    · obtain ⟨d, e⟩ := hN
      exact ⟨d, kA _ _ e (no nx)⟩
    · obtain ⟨o, e, r⟩ := eb
      exact ⟨o, k8 _ _ (s7 _ _ (k6 _ _ e (no nbx))) (no nbx), r⟩
/-! Shelf.become -/
def spBecome (C N : Addr) : Sp := fun vs H Q _ => ∃ (s a b : Addr) (S : Sf) (ps : Prs), vs = [.ref s, .ref a, .ref b] ∧ ShelfAt C N H s S ∧ S.past.length ≤ 10000 ∧ H a = some (.tup (txts ps)) ∧ FT H b (nms ps) ∧ ∀ G, Kp [s] H G → ShelfAt C N G s { S with ps := ps, past := S.past ++ [S.ps] } → Q .non G
theorem cal_become (B : Bi mg) (Z : ShlC K mg C) (D : MethAt K C "become" "Shelf.become" s_Shelf_become ps_Shelf_become) : CalM P w K mg base 1 C "become" ps_Shelf_become (spBecome C N) := by
  refine D.cal sc_Shelf_become (fun vs H Q E h => ?_) (fun f cdv A outer s H vs Q E hr h => ?_)
  · obtain ⟨s, a, b, S, ps, rfl, _⟩ := h
    rfl
  · obtain ⟨s, a, b, S, ps, rfl, hS, few, ha, hb, k⟩ := h
    obtain ⟨dx, n, a0, b0, c0, e0, e1, e2, e3, qs, e4, q1, q2⟩ := hS.ex
    have ql : qs.length = S.past.length := by rw [← q1, List.length_map]
    refine ⟨_, (pss_cons (ps_fld (pv 0) (pe_op op_catA (pe_fld (pv 0) rfl) (pe_tup (pa_cons (pe_tup (pa_cons (pe_fld (pv 0) rfl) (pa_cons (pe_fld (pv 0) rfl) pa_nil))) pa_nil))) rfl)
      (pss_cons (ps_fld (pv 0) (pv 1) rfl)
      (pss_one (ps_fld (pv 0) (pv 2) rfl)))), ?_⟩
    refine ⟨_, rfl, s, C, dx, _, _, rfl, e0, Z.cl, Z.nP, sf_past, _, rfl, s, C, dx, _, _, rfl, e0, Z.cl, Z.nT, sf_texts, _, rfl, s, C, dx, _, _, rfl, e0, Z.cl, Z.nM, sf_names, by show 2 ≤ sizeLine; decide, fun q nq => ?_⟩
    generalize hG : upd H q _ = G1
    have s1 : Same H G1 := hG ▸ same_new nq
    have eq : G1 q = some (.tup [.ref a0, .ref b0]) := by rw [← hG]; exact upd_same
    clear hG
    refine ⟨by show 1 ≤ sizeLine; decide, fun u nu => ?_⟩
    generalize hG : upd G1 u _ = G2
    have s2 : Same G1 G2 := hG ▸ same_new nu
    have eu : G2 u = some (.tup [.ref q]) := by rw [← hG]; exact upd_same
    clear hG
    refine catU (s2 _ _ (s1 _ _ e4)) eu ?_ fun U G3 s3 eU => ?_
    · rw [List.length_map, List.length_singleton, sizeLine_eq]
      omega
    have sA := s1.trans (s2.trans s3)
    refine ⟨_, rfl, s, C, dx, _, rfl, sA _ _ e0, Z.cl, Z.nP, by show 5 < 1000; decide, ?_⟩
    rw [put_past]
    generalize hG : upd G3 s _ = G4
    have k4 : Kp [s] G3 G4 := hG ▸ kp_upd
    have f4 : G4 s = some (.ins C dx (sflds n a0 b0 U S.busy)) := by rw [← hG]; exact upd_same
    clear hG
    refine ⟨_, rfl, _, rfl, s, C, dx, _, rfl, f4, Z.cl, Z.nT, by show 5 < 1000; decide, ?_⟩
    rw [put_texts]
    generalize hG : upd G4 s _ = G5
    have k5 : Kp [s] G4 G5 := hG ▸ kp_upd
    have f5 : G5 s = some (.ins C dx (sflds n a b0 U S.busy)) := by rw [← hG]; exact upd_same
    clear hG
    refine ⟨_, rfl, _, rfl, s, C, dx, _, rfl, f5, Z.cl, Z.nM, by show 5 < 1000; decide, ?_⟩
    rw [put_names]
    generalize hG : upd G5 s _ = G6
    have k6 : Kp [s] G5 G6 := hG ▸ kp_upd
    have f6 : G6 s = some (.ins C dx (sflds n a b U S.busy)) := by rw [← hG]; exact upd_same
    clear hG
    have kB : Kp [s] G3 G6 := k4.trans (k5.trans k6)
    have kA : Kp [s] H G6 := (Kp.same sA).trans kB
    have m : Muts C N [s] H := fun x hx => .inr ⟨S, by rw [List.mem_singleton.mp hx]; exact hS⟩
    have off : ∀ {H2 : Hp} {x : Addr} {xs : List V}, Same H H2 → H2 x = some (.tup xs) → x ∉ [s] := fun {H2 x xs} h e z => by
      have := h _ _ e0
      rw [List.mem_singleton.mp z, this] at e
      cases e
    refine k G6 kA ⟨dx, n, a, b, U, f6, e1.kp m kA, kA _ _ ha (m.tup ha), hb.kp m kA, qs ++ [(q, S.ps)], ?_, by rw [List.map_append, q1]; rfl, fun x hx => ?_⟩
    · rw [List.map_append]
      exact kB _ _ eU (off sA eU)
    · rcases List.mem_append.mp hx with hx | hx
      · exact (q2 x hx).kp m kA
      · rw [List.mem_singleton.mp hx]
        have eq3 := s3 _ _ (s2 _ _ eq)
        exact ⟨a0, b0, kB _ _ eq3 (off sA eq3), kA _ _ e2 (m.tup e2), e3.kp m kA⟩
end
end Gu
namespace Gu
open PySem PySem.Spec PyProof.Rows L2
theorem cutV_hd (xs : List V) (i : Nat) : cutV xs none (some (i : Int)) = xs.take i := by
  unfold cutV
  rw [HT.sIx_none, HT.sIx_nat, List.drop_zero, Nat.sub_zero, List.take_eq_take_iff]
  omega
theorem cutV_bk (xs : List V) (i : Nat) : cutV xs (some (i : Int)) none = xs.drop i := by
  unfold cutV
  rw [show HT.sIx xs.length xs.length none = xs.length from rfl, HT.sIx_nat]
  rcases Nat.lt_or_ge i xs.length with h | h
  · rw [Nat.min_eq_left (Nat.le_of_lt h), List.take_of_length_le (by rw [List.length_drop]; exact Nat.le_refl _)]
  · rw [Nat.min_eq_right h, Nat.sub_self, List.take_zero, List.drop_eq_nil_of_le h]
theorem noPartS {σ : L2.St} {H : Hp} {Q : Option Int → Hp → Prop} (h : Q none H) : tNoPart σ H Q := h
theorem wd_len {n : Nat} {t : Str} (h : Wd n t) : t.length ≤ n := h.len
section
variable {P : Program} {w : World} {K : PySem.W.Frag} {mg : Str → Option Value} {base : Heap} {C N : Addr}
theorem txts_cat (ps : Prs) (t y : Str) : txts ps ++ [.str t] = txts (ps ++ [(t, y)]) := by
  unfold txts
  rw [List.map_append, List.map_append]
  rfl
theorem nms_cat (ps : Prs) (t y : Str) : nms ps ++ [.str y] = nms (ps ++ [(t, y)]) := by
  unfold nms
  rw [List.map_append, List.map_append]
  rfl
theorem txts_go (ps : Prs) (i : Nat) : (txts ps).take i ++ (txts ps).drop (i + 1) = txts (ps.take i ++ ps.drop (i + 1)) := by
  unfold txts
  rw [List.map_append, List.map_append, List.map_take, List.map_take, List.map_drop, List.map_drop]
theorem nms_go (ps : Prs) (i : Nat) : (nms ps).take i ++ (nms ps).drop (i + 1) = nms (ps.take i ++ ps.drop (i + 1)) := by
  unfold nms
  rw [List.map_append, List.map_append, List.map_take, List.map_take, List.map_drop, List.map_drop]
theorem txts_len (ps : Prs) : (txts ps).length = ps.length := by
  unfold txts
  rw [List.length_map, List.length_map]
theorem nms_len (ps : Prs) : (nms ps).length = ps.length := by
  unfold nms
  rw [List.length_map, List.length_map]
/-! let_come -/
def spLetCome (C N : Addr) : Sp := fun vs H Q _ => ∃ (s : Addr) (t : Str) (S : Sf), vs = [.ref s, .str t] ∧ ShelfAt C N H s S ∧ S.ok ∧ Wd 200 t ∧ S.ps.length < 20 ∧ ∀ G, Kp [s] H G → ShelfAt C N G s (S.come t) → Q (.str (nameOf S.so S.w t S.ps)) G
theorem cal_letCome (B : Bi mg) (Z : ShlC K mg C) (D : MethAt K C "let_come" "Shelf.let_come" s_Shelf_let_come ps_Shelf_let_come) (C_check_text : Cal P w K mg base 2 "check_text" ps_check_text spCheckTextW) (C_name_of_next : Cal P w K mg base 3 "name_of_next" ps_name_of_next (spNextQ K N)) (M_become : CalM P w K mg base 1 C "become" ps_Shelf_become (spBecome C N)) : CalM P w K mg base 4 C "let_come" ps_Shelf_let_come (spLetCome C N) := by
  refine D.cal sc_Shelf_let_come (fun vs H Q E h => ?_) (fun f cdv A outer s H vs Q E hr h => ?_)
  · obtain ⟨s, t, S, rfl, _⟩ := h
    rfl
  · obtain ⟨s, t, S, rfl, hS, ok, wt, l20, k⟩ := h
    have tl := wd_len wt
    refine ⟨_, (pss_cons (ps_expr (pe_own C_check_text hr (by decide) (by rfl) (pa_cons (pv 1) pa_nil)))
      (pss_cons (ps_if (pt_cmpR op_ge (pe_callB call_len_seq (by rfl) B.len (by decide +kernel) (pa_cons (pe_fld (pv 0) rfl) pa_nil)) (pe_cst B.MOST_SHELVED (by rfl)) (nomark _)) pss_never pss_nil)
      (pss_cons (ps_set (i := 2) sc_Shelf_let_come.nd rfl (.inl rfl) (pe_own C_name_of_next hr (by decide) (by rfl) (pa_cons (pe_fld (pv 0) rfl) (pa_cons (pv 1) (pa_cons (pe_fld (pv 0) rfl) (pa_cons (pe_fld (pv 0) rfl) pa_nil))))))
      (pss_cons (ps_expr (pe_mth M_become Z.cl hr (by decide) (pv 0) (pa_cons (pe_op op_catA (pe_fld (pv 0) rfl) (pe_tup (pa_cons (pv 1) pa_nil))) (pa_cons (pe_op op_catF (pe_fld (pv 0) rfl) (pe_tupF (pa_cons (pv 2) pa_nil))) pa_nil))))
      (pss_one (ps_ret (pv 2))))))), ?_⟩
    refine ⟨_, rfl, t, rfl, wt, fun G1 s1 => ?_⟩
    have hS1 := hS.same s1
    obtain ⟨dx, n, a, b, c, e0, e1, e2, e3, e4⟩ := id hS1.ex
    refine ⟨_, rfl, s, C, dx, _, _, rfl, e0, Z.cl, Z.nT, sf_texts, a, _, rfl, .inr (.inl (.inl e2)), _, _, rfl, rfl, _, rfl, ?_⟩
    rw [txts_len, decide_eq_false (show ¬ (20 : Int) ≤ (S.ps.length : Int) by omega)]
    refine iteF ?_
    refine ⟨_, rfl, s, C, dx, _, _, rfl, e0, Z.cl, Z.nN, sf_namer, _, rfl, _, rfl, s, C, dx, _, _, rfl, e0, Z.cl, Z.nT, sf_texts, _, rfl, s, C, dx, _, _, rfl, e0, Z.cl, Z.nM, sf_names, ?_⟩
    refine ⟨n, a, b, S.so, S.w, t, S.ps.map (fun q : Str × Str => q.1), S.ps.map (fun q : Str × Str => q.2), rfl, e1, by omega, .inl (.inl e2), by rw [List.length_map]; omega, fun u hu => ?_, e3.sq, by rw [List.length_map]; omega, fun G2 s2 => ?_⟩
    · obtain ⟨q, hq, rfl⟩ := List.mem_map.mp hu
      exact (ok.ps.wd q hq).1
    rw [nextOf_ps]
    have hS2 := hS1.same s2
    have e0 := s2 _ _ e0
    have e2 := s2 _ _ e2
    have e3 := e3.same s2
    refine ⟨_, rfl, s, dx, _, rfl, e0, rfl, ?_⟩
    refine ⟨_, rfl, s, C, dx, _, _, rfl, e0, Z.cl, Z.nT, sf_texts, _, rfl, by show 1 ≤ sizeLine; decide, fun q nq => ?_⟩
    generalize hG : upd G2 q _ = G3
    have s3 : Same G2 G3 := hG ▸ same_new nq
    have eq : G3 q = some (.tup [.str t]) := by rw [← hG]; exact upd_same
    clear hG
    refine catU (s3 _ _ e2) eq (by rw [txts_len, List.length_singleton, sizeLine_eq]; omega) fun U G4 s4 eU => ?_
    rw [txts_cat S.ps t (nameOf S.so S.w t S.ps)] at eU
    have e0 := s4 _ _ (s3 _ _ e0)
    have e3 := (e3.same s3).same s4
    refine ⟨_, rfl, s, C, dx, _, _, rfl, e0, Z.cl, Z.nM, sf_names, _, rfl, by show 1 ≤ sizeLine; decide, fun u G5 s5 eu nu => ?_⟩
    refine ⟨b, u, _, _, rfl, rfl, e3.same s5, eu, (by rw [nms_len, List.length_singleton, sizeLine_eq]; omega), fun W G6 s6 eW => ?_⟩
    rw [nms_cat S.ps t (nameOf S.so S.w t S.ps)] at eW
    have sA := s3.trans (s4.trans (s5.trans s6))
    refine ⟨s, U, W, S, S.ps ++ [(t, nameOf S.so S.w t S.ps)], rfl, hS2.same sA, by have := ok.few; omega, s6 _ _ (s5 _ _ eU), eW, fun G7 k7 h7 => ?_⟩
    exact ⟨_, rfl, k G7 ((Kp.same (s1.trans (s2.trans sA))).trans k7) h7⟩
/-! let_go -/
def spLetGo (C N : Addr) : Sp := fun vs H Q _ => ∃ (s : Addr) (y t : Str) (S : Sf) (j : Nat), vs = [.ref s, .str y] ∧ ShelfAt C N H s S ∧ S.ok ∧ S.ps[j]? = some (t, y) ∧ (∀ m, m < j → (S.ps.map (·.2))[m]? ≠ some y) ∧ ∀ G, Kp [s] H G → ShelfAt C N G s (S.go j) → Q (.str t) G
theorem cal_letGo (B : Bi mg) (Z : ShlC K mg C) (D : MethAt K C "let_go" "Shelf.let_go" s_Shelf_let_go ps_Shelf_let_go) (M_become : CalM P w K mg base 1 C "become" ps_Shelf_become (spBecome C N)) : CalM P w K mg base 2 C "let_go" ps_Shelf_let_go (spLetGo C N) := by
  refine D.cal sc_Shelf_let_go (fun vs H Q E h => ?_) (fun f cdv A outer s H vs Q E hr h => ?_)
  · obtain ⟨s, y, t, S, j, rfl, _⟩ := h
    rfl
  · obtain ⟨s, y, t, S, j, rfl, hS, ok, hj, first, k⟩ := h
    obtain ⟨dx, n, a, b, c, e0, e1, e2, e3, e4⟩ := id hS.ex
    have jl : j < S.ps.length := (List.getElem?_eq_some_iff.mp hj).1
    have pl := ok.ps.len
    have yin : (S.ps.map (·.2))[j]? = some y := by rw [List.getElem?_map, hj]; rfl
    refine ⟨_, (pss_cons (ps_if (PW.pt (pw_or (pt_not (pt_val (pe_callB call_isi (by rfl) B.isinstance (by decide +kernel) (pa_cons (pv 1) (pa_cons (pe_bltn (v := .ty "str") (by rfl) B.str (by decide +kernel) rfl) pa_nil))))) (pw_or1 (pt_cmpR op_notIn_seq (pv 1) (pe_fld (pv 0) rfl) (by rfl))))) pss_never pss_nil)
      (pss_cons (ps_set (i := 2) sc_Shelf_let_go.nd rfl (.inl rfl) (pe_bmF PySem.F.plainAttrs_tuple PySem.F.slot_tuple_index PySem.F.type_tuple_index L2.mt_tup_index (pe_fld (pv 0) rfl) (pa_cons (pv 1) pa_nil)))
      (pss_cons (ps_set (i := 3) sc_Shelf_let_go.nd rfl (.inl rfl) (pe_ix ix_tup (pe_fld (pv 0) rfl) (pv 2) (fun _ _ => rfl)))
      (pss_cons (ps_expr (pe_mth M_become Z.cl hr (by decide) (pv 0) (pa_cons (pe_op op_catA (pe_slice sl_tupA (pe_fld (pv 0) rfl) po_none (po_some (pv 2))) (pe_slice sl_tupA (pe_fld (pv 0) rfl) (po_some (pe_op op_add (pv 2) pe_int)) po_none)) (pa_cons (pe_op op_catF (pe_slice sl_tupF (pe_fld (pv 0) rfl) po_none (po_some (pv 2))) (pe_slice sl_tupF (pe_fld (pv 0) rfl) (po_some (pe_op op_add (pv 2) pe_int)) po_none)) pa_nil))))
      (pss_one (ps_ret (pv 3))))))), ?_⟩
    obtain ⟨ty, i1, i2⟩ := Isa.str_str (K := K) (H := H) (z := y)
    refine ⟨_, rfl, _, _, ty, _, true, rfl, .ty _, i1, i2, _, rfl, iteF ?_⟩
    refine ⟨_, rfl, _, rfl, s, C, dx, _, _, rfl, e0, Z.cl, Z.nM, sf_names, b, _, rfl, .inr e3.sq, rfl, flat_strs _, _, rfl, ?_⟩
    rw [show inV (V.str y) (nms S.ps) = true by unfold nms; rw [in_strs]; exact decide_eq_true (List.mem_of_getElem? yin)]
    refine iteF ?_
    refine ⟨_, rfl, s, C, dx, _, _, rfl, e0, Z.cl, Z.nM, sf_names, ⟨b, _, rfl, e3⟩, _, rfl, b, S.ps.map (fun q : Str × Str => q.2), y, j, rfl, rfl, e3.sq, yin, first, ?_⟩
    refine ⟨_, rfl, s, C, dx, _, _, rfl, e0, Z.cl, Z.nT, sf_texts, _, rfl, a, _, _, .str t, rfl, rfl, .inl (.inl e2), atI_nat (j := j) (by unfold txts; rw [List.getElem?_map, List.getElem?_map, hj]; rfl), ?_⟩
    refine ⟨_, rfl, s, dx, _, rfl, e0, rfl, ?_⟩
    refine ⟨_, rfl, s, C, dx, _, _, rfl, e0, Z.cl, Z.nT, sf_texts, _, rfl, _, rfl, sl_okU e2 fun U1 G1 s1 f1 => ?_⟩
    rw [cutV_hd] at f1
    refine ⟨_, rfl, s, C, dx, _, _, rfl, s1 _ _ e0, Z.cl, Z.nT, sf_texts, _, rfl, _, _, rfl, rfl, _, rfl, noPartS (sl_okU (s1 _ _ e2) fun U2 G2 s2 f2 => ?_)⟩
    have f2 : G2 U2 = some (.tup (cutV (txts S.ps) (some ((j + 1 : Nat) : Int)) none)) := f2
    rw [cutV_bk] at f2
    refine catU (s2 _ _ f1) f2 ?_ fun U3 G3 s3 f3 => ?_
    · rw [List.length_take, List.length_drop, txts_len, sizeLine_eq]
      omega
    rw [txts_go] at f3
    have s13 := s1.trans (s2.trans s3)
    have e0 := s13 _ _ e0
    have e3 := e3.same s13
    refine ⟨_, rfl, s, C, dx, _, _, rfl, e0, Z.cl, Z.nM, sf_names, _, rfl, _, rfl, b, _, rfl, e3, fun W1 G4 s4 g1 => ?_⟩
    rw [cutV_hd] at g1
    refine ⟨_, rfl, s, C, dx, _, _, rfl, s4 _ _ e0, Z.cl, Z.nM, sf_names, _, rfl, _, _, rfl, rfl, _, rfl, noPartS ⟨b, _, rfl, e3.same s4, fun W2 G5 s5 g2 => ?_⟩⟩
    have g2 : FT G5 W2 (cutV (nms S.ps) (some ((j + 1 : Nat) : Int)) none) := g2
    rw [cutV_bk] at g2
    refine ⟨W1, W2, _, _, rfl, rfl, g1.same s5, g2, ?_, fun W3 G6 s6 g3 => ?_⟩
    · rw [List.length_take, List.length_drop, nms_len, sizeLine_eq]
      omega
    rw [nms_go] at g3
    have s46 := s4.trans (s5.trans s6)
    refine ⟨s, U3, W3, S, S.ps.take j ++ S.ps.drop (j + 1), rfl, hS.same (s13.trans s46), by have := ok.few; omega, s46 _ _ f3, g3, fun G7 k7 h7 => ?_⟩
    exact ⟨_, rfl, k G7 ((Kp.same (s13.trans s46)).trans k7) h7⟩
/-! check_not_busy, add, remove -/
def spCalmS (C N : Addr) : Sp := fun vs H Q _ => ∃ (s : Addr) (S : Sf), vs = [.ref s] ∧ ShelfAt C N H s S ∧ S.busy = false ∧ Q .non H
theorem cal_notBusy (B : Bi mg) (Z : ShlC K mg C) (D : MethAt K C "check_not_busy" "Shelf.check_not_busy" s_Shelf_check_not_busy ps_Shelf_check_not_busy) : CalM P w K mg base 1 C "check_not_busy" ps_Shelf_check_not_busy (spCalmS C N) := by
  refine D.cal sc_Shelf_check_not_busy (fun vs H Q E h => ?_) (fun f cdv A outer s H vs Q E hr h => ?_)
  · obtain ⟨s, S, rfl, _⟩ := h
    rfl
  · obtain ⟨s, S, rfl, hS, bz, k⟩ := h
    obtain ⟨dx, n, a, b, c, e0, _⟩ := id hS.ex
    refine ⟨_, (pss_one (ps_if (pt_val (pe_fld (pv 0) rfl)) pss_never pss_nil)), ?_⟩
    rw [bz] at e0
    exact ⟨_, rfl, s, C, dx, _, _, rfl, e0, Z.cl, Z.nB, sf_busy, _, rfl, iteF k⟩
def spAdd (C N : Addr) : Sp := fun vs H Q _ => ∃ (s : Addr) (t : Str) (S : Sf), vs = [.ref s, .str t] ∧ ShelfAt C N H s S ∧ S.ok ∧ S.busy = false ∧ Wd 200 t ∧ S.ps.length < 20 ∧ ∀ G, Kp [s] H G → ShelfAt C N G s (S.come t) → Q (.str (nameOf S.so S.w t S.ps)) G
theorem cal_add (B : Bi mg) (Z : ShlC K mg C) (D : MethAt K C "add" "Shelf.add" s_Shelf_add ps_Shelf_add) (M_check_not_busy : CalM P w K mg base 1 C "check_not_busy" ps_Shelf_check_not_busy (spCalmS C N)) (M_let_come : CalM P w K mg base 4 C "let_come" ps_Shelf_let_come (spLetCome C N)) : CalM P w K mg base 5 C "add" ps_Shelf_add (spAdd C N) := by
  refine D.cal sc_Shelf_add (fun vs H Q E h => ?_) (fun f cdv A outer s H vs Q E hr h => ?_)
  · obtain ⟨s, t, S, rfl, _⟩ := h
    rfl
  · obtain ⟨s, t, S, rfl, hS, ok, bz, wt, l20, k⟩ := h
    obtain ⟨dx, n, a, b, c, e0, _⟩ := id hS.ex
    refine ⟨_, (pss_cons (ps_expr (pe_mth0 M_check_not_busy Z.cl hr (by decide) (pv 0)))
      (pss_one (ps_ret (pe_mth M_let_come Z.cl hr (by decide) (pv 0) (pa_cons (pv 1) pa_nil))))), ?_⟩
    refine ⟨_, rfl, s, dx, _, rfl, e0, rfl, s, S, rfl, hS, bz, ?_⟩
    exact ⟨_, rfl, s, dx, _, rfl, e0, rfl, _, rfl, s, t, S, rfl, hS, ok, wt, l20, k⟩
def spRemove (C N : Addr) : Sp := fun vs H Q _ => ∃ (s : Addr) (y t : Str) (S : Sf) (j : Nat), vs = [.ref s, .str y] ∧ ShelfAt C N H s S ∧ S.ok ∧ S.busy = false ∧ S.ps[j]? = some (t, y) ∧ (∀ m, m < j → (S.ps.map (·.2))[m]? ≠ some y) ∧ ∀ G, Kp [s] H G → ShelfAt C N G s (S.go j) → Q (.str t) G
theorem cal_remove (B : Bi mg) (Z : ShlC K mg C) (D : MethAt K C "remove" "Shelf.remove" s_Shelf_remove ps_Shelf_remove) (M_check_not_busy : CalM P w K mg base 1 C "check_not_busy" ps_Shelf_check_not_busy (spCalmS C N)) (M_let_go : CalM P w K mg base 2 C "let_go" ps_Shelf_let_go (spLetGo C N)) : CalM P w K mg base 3 C "remove" ps_Shelf_remove (spRemove C N) := by
  refine D.cal sc_Shelf_remove (fun vs H Q E h => ?_) (fun f cdv A outer s H vs Q E hr h => ?_)
  · obtain ⟨s, y, t, S, j, rfl, _⟩ := h
    rfl
  · obtain ⟨s, y, t, S, j, rfl, hS, ok, bz, hj, first, k⟩ := h
    obtain ⟨dx, n, a, b, c, e0, _⟩ := id hS.ex
    refine ⟨_, (pss_cons (ps_expr (pe_mth0 M_check_not_busy Z.cl hr (by decide) (pv 0)))
      (pss_one (ps_ret (pe_mth M_let_go Z.cl hr (by decide) (pv 0) (pa_cons (pv 1) pa_nil))))), ?_⟩
    refine ⟨_, rfl, s, dx, _, rfl, e0, rfl, s, S, rfl, hS, bz, ?_⟩
    exact ⟨_, rfl, s, dx, _, rfl, e0, rfl, _, rfl, s, y, t, S, j, rfl, hS, ok, hj, first, k⟩
end
end Gu
namespace Gu
open PySem PySem.Spec PyProof.Rows L2
/-! shelves alone: made, their length, what they are written as -/
structure ShInitAt (K : PySem.W.Frag) (C : Addr) : Prop where
  ex : ∃ (f : Addr) (fd : FuncData), Mk K C f ∧ Fun K "__init__" "Shelf.__init__" s_Shelf_init f fd ∧ Binds K fd ps_Shelf_init []
theorem same_mk {H : Hp} {x dx C : Addr} (nx : H x = none) (nd : H dx = none) (ne : dx ≠ x) : Same H (upd (upd H dx (.own x)) x (.ins C dx [])) := (same_new nd).trans (same_new (by rw [upd_ne fun z => ne z.symm]; exact nx))
section
variable {X : Cx} {n : Nat} {C f : Addr} {fd : FuncData} {ps : List Str} {sp : Sp}
/-- len of what has its own __len__ -/
theorem call_lenOwn (F : FnOk X.prog X.w X.K X.mg X.base CX0 n f fd ps sp) (hb : Binds X.K fd ps []) (hr : Room (n + 1) X.A) (hs : PySem.W.findIn X.K (.ref C) "__len__" = some (some (.ref f))) (hf : PySem.W.isFn X.K (.ref f) = true) :
    CallR X (.builtin "len") (fun vs H Q => ∃ (a dx : Addr) (fs : List (Str × V)), vs = [.ref a] ∧ H a = some (.ins C dx fs) ∧ sp [.ref a] H (fun v G => ∃ z : Int, v = .int z ∧ (0 ≤ z ∧ z < 2 ^ 63) ∧ Q (.int z) G) E0) := by
  intro pins s σ H vs us Q I r h
  obtain ⟨a, dx, fs, rfl, ha, want⟩ := h
  cases r with
  | cons r rr =>
    cases rr
    cases (show _ = Value.ref a from r)
    obtain ⟨m1, J, _⟩ := ins_get I.hok ha
    obtain ⟨od, J, _⟩ := J.look
    obtain ⟨m, fr⟩ := I.fr
    refine PySem.W.len_K fr I.ok.mod.kin J hs hf ?_
    have e0 : Env0 X.prog X.w X.K X.mg X.base X.A.in1 X.stack s H := I.env0.in1
    have bt := hb s [.ref a] I.kIn (F.len _ _ _ _ want)
    rw [List.append_nil] at bt
    refine wpAny_call (codeAny_mono (F.run X.A.in1 X.stack s H ⟨[.ref a], []⟩ [.ref a] [.ref a] _ E0 hr.in1 e0 bt (.cons rfl .nil) want) fun r s1 h1 => ?_)
    cases r with
    | error e => exact (h1 : False).elim
    | ok fl =>
      cases fl with
      | ret v =>
        obtain ⟨z, G, I1, rz, b, rfl, z0, q⟩ := I.after h1
        obtain ⟨tk, rfl⟩ := rz
        exact ⟨z0, .int b, G, I1.tok _, ⟨_, rfl⟩, q⟩
      | next => exact (h1 : False).elim
      | brk => exact (h1 : False).elim
      | cont => exact (h1 : False).elim
end
section
variable {X : Cx} {n : Nat} {C f : Addr} {fd : FuncData} {ps : List Str} {sp : Sp}
/-- repr of such an instance -/
theorem call_reprOwn (F : FnOk X.prog X.w X.K X.mg X.base CX0 n f fd ps sp) (hb : Binds X.K fd ps []) (hr : Room (n + 1) X.A) (hs : PySem.W.findIn X.K (.ref C) "__repr__" = some (some (.ref f))) (hf : PySem.W.isFn X.K (.ref f) = true) :
    CallR X (.builtin "repr") (fun vs H Q => ∃ (a dx : Addr) (fs : List (Str × V)), vs = [.ref a] ∧ H a = some (.ins C dx fs) ∧ sp [.ref a] H (fun v G => ∃ z, v = .str z ∧ Q (.str z) G) E0) := by
  intro pins s σ H vs us Q I r h
  obtain ⟨a, dx, fs, rfl, ha, want⟩ := h
  cases r with
  | cons r rr =>
    cases rr
    cases (show _ = Value.ref a from r)
    obtain ⟨m1, J, _⟩ := ins_get I.hok ha
    obtain ⟨od, J, _⟩ := J.look
    obtain ⟨m, fr⟩ := I.fr
    refine PySem.W.repr_K (by have := hu_of hr; exact this) fr I.ok.mod.kin J hs hf ?_
    have e0 : Env0 X.prog X.w X.K X.mg X.base X.A.in1 X.stack s H := I.env0.in1
    have bt := hb s [.ref a] I.kIn (F.len _ _ _ _ want)
    rw [List.append_nil] at bt
    refine wpAny_call (codeAny_mono (F.run X.A.in1 X.stack s H ⟨[.ref a], []⟩ [.ref a] [.ref a] _ E0 hr.in1 e0 bt (.cons rfl .nil) want) fun r s1 h1 => ?_)
    cases r with
    | error e => exact (h1 : False).elim
    | ok fl =>
      cases fl with
      | ret v =>
        obtain ⟨z, G, I1, rz, b, rfl, q⟩ := I.after h1
        obtain ⟨tk, rfl⟩ := rz
        exact ⟨.str b, G, I1, ⟨tk, rfl⟩, q⟩
      | next => exact (h1 : False).elim
      | brk => exact (h1 : False).elim
      | cont => exact (h1 : False).elim
end
section
variable {P : Program} {w : World} {K : PySem.W.Frag} {mg : Str → Option Value} {base : Heap} {C N M : Addr}
theorem mak_sh (B : Bi mg) (S : ShlC K mg C) (D : ShInitAt K C) (C_check_namer : Cal P w K mg base 1 "check_namer" ps_check_namer (spCheckNamer N)) : Mak P w K mg base 2 "Shelf" C (spShInit C N) := by
  obtain ⟨f, fd, M, F, b⟩ := D.ex
  exact ⟨f, fd, ps_Shelf_init, M, ok_shinit B S F C_check_namer, S.g, b⟩
def spLenS (C N : Addr) : Sp := fun vs H Q _ => ∃ (s : Addr) (S : Sf), vs = [.ref s] ∧ ShelfAt C N H s S ∧ S.ok ∧ Q (.int (S.ps.length : Nat)) H
theorem ok_lenS {f : Addr} {fd : FuncData} (B : Bi mg) (Z : ShlC K mg C) (F : Fun K "__len__" "Shelf.__len__" s_Shelf_len f fd) : FnOk P w K mg base CX0 1 f fd ps_Shelf_len (spLenS C N) := by
  refine F.ok sc_Shelf_len (fun vs H Q E h => ?_) (fun cdv A outer s H vs Q E hr h => ?_)
  · obtain ⟨s, S, rfl, _⟩ := h
    rfl
  · obtain ⟨s, S, rfl, hS, ok, k⟩ := h
    obtain ⟨dx, n, a, b, c, e0, e1, e2, e3, e4⟩ := id hS.ex
    refine ⟨_, (pss_one (ps_ret (pe_callB call_len_seq (by rfl) B.len (by decide +kernel) (pa_cons (pe_fld (pv 0) rfl) pa_nil)))), ?_⟩
    refine ⟨_, rfl, s, C, dx, _, _, rfl, e0, Z.cl, Z.nT, sf_texts, a, _, rfl, .inr (.inl (.inl e2)), ?_⟩
    rw [txts_len]
    exact k
theorem mid_id {t : TE} {σ : L2.St} {H : Hp} {Q : VK} (h : t σ H Q) : tMid t σ H Q := ⟨Q, h, fun _ _ q => q⟩
theorem napp_lenS (a b : Str) : (a ++ b).length = a.length + b.length := by
  show (a ++ b).cps.toList.length = a.cps.toList.length + b.cps.toList.length
  rw [str_app, List.length_append]
def shelfLine (n : Nat) : Str := Str.empty ++ (("Shelf(" : String) : Str) ++ ((toString (n : Int) : String) : Str) ++ ((" texts)" : String) : Str)
def spReprS (C N : Addr) : Sp := fun vs H Q _ => ∃ (s : Addr) (S : Sf), vs = [.ref s] ∧ ShelfAt C N H s S ∧ S.ok ∧ Q (.str (shelfLine S.ps.length)) H
theorem ok_reprS {f : Addr} {fd : FuncData} (B : Bi mg) (Z : ShlC K mg C) (F : Fun K "__repr__" "Shelf.__repr__" s_Shelf_repr f fd) : FnOk P w K mg base CX0 1 f fd ps_Shelf_repr (spReprS C N) := by
  refine F.ok sc_Shelf_repr (fun vs H Q E h => ?_) (fun cdv A outer s H vs Q E hr h => ?_)
  · obtain ⟨s, S, rfl, _⟩ := h
    rfl
  · obtain ⟨s, S, rfl, hS, ok, k⟩ := h
    obtain ⟨dx, n, a, b, c, e0, e1, e2, e3, e4⟩ := id hS.ex
    have pl := ok.ps.len
    refine ⟨_, (pss_one (ps_ret (pe_joined (.cons pe_str (.cons (pe_fmt (pe_callB call_len_seq (by rfl) B.len (by decide +kernel) (pa_cons (pe_fld (pv 0) rfl) pa_nil))) (.cons pe_str .nil)))))), ?_⟩
    have l1 : (("Shelf(" : String) : Str).length = 6 := by decide +kernel
    have l2 : ((" texts)" : String) : Str).length = 7 := by decide +kernel
    have l5 : (Str.empty).length = 0 := rfl
    have big : ∀ n : Nat, n ≤ 200 → n ≤ sizeLine := fun n h => Nat.le_of_lt (small1000 (by omega))
    have w2 := (wd_digit2 (i := ((S.ps.length : Nat) : Int)) (by omega) (by omega)).len
    have lg : ((S.ps.length : Nat) : Int).natAbs.log2 < 1920 := Nat.lt_of_lt_of_le (PySem.Flt.log2_lt_of (k := 6) (by decide) (show ((S.ps.length : Nat) : Int).natAbs < 2 ^ 6 by omega)) (by decide)
    refine ⟨_, rfl, big _ ?_, _, rfl, s, C, dx, _, _, rfl, e0, Z.cl, Z.nT, sf_texts, a, _, rfl, .inr (.inl (.inl e2)), ?_⟩
    · exact Nat.le_trans (Nat.le_of_eq (napp_lenS _ _)) (by rw [l5, l1]; decide)
    rw [txts_len]
    have ll : ((toString ((S.ps.length : Nat) : Int) : String) : Str).length ≤ 2 := w2
    refine .inr ⟨_, rfl, lg, _, rfl, big _ ?_, _, rfl, big _ ?_, k⟩
    · rw [napp_lenS, napp_lenS]
      omega
    · rw [napp_lenS, napp_lenS, napp_lenS]
      omega
end
end Gu
namespace Gu
open PySem PySem.Spec PyProof.Rows L2
theorem no_space {n : Nat} {t : Str} (h : Wd n t) : 32 ∉ TL.tl t := fun z => absurd (h.sgn 32 z) (by decide +kernel)
theorem str_len (t : Str) : t.length = t.cps.toList.length := by
  have := TL.len_tl t
  unfold TL.tl at this
  omega
theorem nbase_nz {w : Int} {t : Str} (h6 : 6 ≤ w) (ht : t.length ≠ 0) : (nbase w t).length ≠ 0 := by
  rw [str_len, show (nbase w t).cps.toList = _ from cutS_head t (by omega), List.length_take, ← str_len]
  omega
theorem app_nz {a b : Str} (h : b.length ≠ 0) : (a ++ b).length ≠ 0 := by
  rw [str_len, str_app, List.length_append, ← str_len, ← str_len]
  omega
theorem ending_nz (n : Int) : (ending n).length ≠ 0 := by
  unfold ending
  rw [str_len, str_app, List.length_append, show (("~" : String) : Str).cps.toList.length = 1 by decide +kernel]
  omega
theorem name_nz {w : Int} {t : Str} (ps : Prs) (h6 : 6 ≤ w) (ht : t.length ≠ 0) : (nameOf "count" w t ps).length ≠ 0 := by
  unfold nameOf
  rw [if_pos rfl]
  by_cases h : (mates w t ps).length = 0
  · rw [if_pos h]
    exact nbase_nz h6 ht
  · rw [if_neg h, numbered_other (by decide)]
    exact app_nz (ending_nz _)
theorem Sf.come_ok {S : Sf} {t : Str} (ok : S.ok) (l20 : S.ps.length < 20) (wt : Wd 200 t) (few : S.past.length < 500) : (S.come t).ok := by
  refine ⟨ok.so, ok.w0, ok.w1, ⟨?_, fun q hq => ?_⟩, fun ps h => ?_, ?_⟩
  · show (S.ps ++ [_]).length ≤ 20
    rw [List.length_append, List.length_singleton]
    omega
  · rcases List.mem_append.mp hq with hq | hq
    · exact ok.ps.wd q hq
    · rw [List.mem_singleton.mp hq]
      exact ⟨wt, wd_nameQ wt (by omega)⟩
  · rcases List.mem_append.mp h with h | h
    · exact ok.past ps h
    · rw [List.mem_singleton.mp h]
      exact ok.ps
  · show (S.past ++ [_]).length ≤ 500
    rw [List.length_append, List.length_singleton]
    omega
theorem go_mem {ps : Prs} {j : Nat} {q : Str × Str} (h : q ∈ ps.take j ++ ps.drop (j + 1)) : q ∈ ps := by
  rcases List.mem_append.mp h with h | h
  · exact List.mem_of_mem_take h
  · exact List.mem_of_mem_drop h
theorem go_len {ps : Prs} {j : Nat} (h : j < ps.length) : (ps.take j ++ ps.drop (j + 1)).length + 1 = ps.length := by
  rw [List.length_append, List.length_take, List.length_drop]
  omega
theorem Sf.go_ok {S : Sf} {j : Nat} (ok : S.ok) (hj : j < S.ps.length) (few : S.past.length < 500) : (S.go j).ok := by
  refine ⟨ok.so, ok.w0, ok.w1, ⟨?_, fun q hq => ok.ps.wd q (go_mem hq)⟩, fun ps h => ?_, ?_⟩
  · have := go_len hj
    have := ok.ps.len
    show (S.ps.take j ++ S.ps.drop (j + 1)).length ≤ 20
    omega
  · rcases List.mem_append.mp h with h | h
    · exact ok.past ps h
    · rw [List.mem_singleton.mp h]
      exact ok.ps
  · show (S.past ++ [_]).length ≤ 500
    rw [List.length_append, List.length_singleton]
    omega
theorem first_of_name {y : Str} : ∀ {ps : Prs} {i : Nat}, (ps.map (·.2))[i]? = some y → ∃ (j : Nat) (t : Str), ps[j]? = some (t, y) ∧ ∀ m : Nat, m < j → (ps.map (·.2))[m]? ≠ some y
  | [], i, h => by simp at h
  | q :: ps, i, h => by
    by_cases e : q.2 = y
    · exact ⟨0, q.1, by rw [List.getElem?_cons_zero, ← e], fun m hm => absurd hm (by omega)⟩
    · cases i with
      | zero =>
        rw [List.map_cons, List.getElem?_cons_zero] at h
        exact absurd (Option.some.inj h) e
      | succ i =>
        rw [List.map_cons, List.getElem?_cons_succ] at h
        obtain ⟨j, t, h1, h2⟩ := first_of_name h
        refine ⟨j + 1, t, by rw [List.getElem?_cons_succ]; exact h1, fun m hm => ?_⟩
        cases m with
        | zero =>
          rw [List.map_cons, List.getElem?_cons_zero]
          exact fun z => e (Option.some.inj z)
        | succ m =>
          rw [List.map_cons, List.getElem?_cons_succ]
          exact h2 m (by omega)
theorem filt_first {y t : Str} : ∀ {ps : Prs} {j : Nat}, ps[j]? = some (t, y) → (∀ m, m < j → (ps.map (·.2))[m]? ≠ some y) → ((ps.filter fun q => decide (q.2 = y)).map (·.1))[0]? = some t
  | [], j, h, _ => by simp at h
  | q :: ps, 0, h, _ => by
    rw [List.getElem?_cons_zero] at h
    have h := Option.some.inj h
    rw [List.filter_cons_of_pos (by rw [h]; exact decide_eq_true rfl), List.map_cons, List.getElem?_cons_zero, h]
  | q :: ps, j + 1, h, first => by
    have e : q.2 ≠ y := fun z => first 0 (by omega) (by rw [List.map_cons, List.getElem?_cons_zero, z])
    rw [List.filter_cons_of_neg (by simp [e])]
    rw [List.getElem?_cons_succ] at h
    exact filt_first h fun m hm z => first (m + 1) (by omega) (by rw [List.map_cons, List.getElem?_cons_succ]; exact z)
end Gu
namespace Gu
theorem off1 {a b : PySem.Addr} (h : a ≠ b) : a ∉ [b] := fun z => h (List.mem_singleton.mp z)
end Gu
namespace Gu
open PySem PySem.Spec PyProof.Rows L2
section
variable {C N M : Addr} {J G : Hp} {p q c s s2 : Addr} {S : Sf} {xs : List V}
theorem lst_no_shelf (h : ShelfAt C N J s S) (e : J q = some (.lst xs)) : q ≠ s := fun z => by
  obtain ⟨_, _, _, _, _, f, _⟩ := h.ex
  rw [← z, e] at f
  cases f
theorem muts_pot (hp : Pot J p) : Muts C N [p] J := fun b hb => .inl (by rw [List.mem_singleton.mp hb]; exact hp)
theorem muts_sh (h : ShelfAt C N J s S) : Muts C N [s] J := fun b hb => .inr ⟨S, by rw [List.mem_singleton.mp hb]; exact h⟩
theorem pot_kp (hp : Pot J p) (k : Kp [s] J G) (n : p ≠ s) : Pot G p := by
  obtain ⟨a, b, d, f⟩ := hp
  exact ⟨a, b, d, k _ _ f (off1 n)⟩
/-- where a list changes, what stands elsewhere stands -/
theorem kpL (k : Kp [q] J G) (e : J q = some (.lst xs)) {b : Addr} {o : HO} (f : J b = some o) (n : ∀ ys, o ≠ .lst ys) : G b = some o := k b o f fun z => n xs (by
  rw [List.mem_singleton.mp z, e] at f
  exact (Option.some.inj f).symm)
theorem NmAt.kpL (k : Kp [q] J G) (e : J q = some (.lst xs)) {b : Addr} {so : Str} {w : Int} (h : NmAt N J b so w) : NmAt N G b so w := by
  obtain ⟨dx, f⟩ := h
  exact ⟨dx, Gu.kpL k e f fun ys z => by cases z⟩
theorem FT.kpL (k : Kp [q] J G) (e : J q = some (.lst xs)) {b : Addr} {ys : List V} (h : FT J b ys) : FT G b ys := by
  obtain ⟨o, f, r⟩ := h
  exact ⟨o, Gu.kpL k e f (fun ys z => by cases z), r⟩
theorem ShelfAt.kpL (k : Kp [q] J G) (e : J q = some (.lst xs)) (h : ShelfAt C N J s S) : ShelfAt C N G s S := by
  have t : ∀ {b : Addr} {ys : List V}, J b = some (.tup ys) → G b = some (.tup ys) := fun f => Gu.kpL k e f fun ys z => by cases z
  obtain ⟨dx, n1, a, b, c, e0, e1, e2, e3, qs, e4, e5, e6⟩ := h.ex
  refine ⟨dx, n1, a, b, c, Gu.kpL k e e0 (fun ys z => by cases z), e1.kpL k e, t e2, e3.kpL k e, qs, t e4, e5, fun x hx => ?_⟩
  obtain ⟨u, v, g1, g2, g3⟩ := e6 x hx
  exact ⟨u, v, t g1, t g2, g3.kpL k e⟩
end
end Gu
namespace Gu
open PySem PySem.Spec PyProof.Rows L2
section
variable {P : Program} {w : World} {K : PySem.W.Frag} {mg : Str → Option Value} {base : Heap}
/-! ### _law_word -/
def spWord (K : PySem.W.Frag) : Sp := fun vs H Q _ => ∃ (p l : Addr) (ys : List Str), vs = [.ref p, .ref l] ∧ Pot H p ∧ SqL K H l (ys.map V.str) ∧ l ≠ p ∧ 0 < ys.length ∧ ys.length < 1000 ∧ (∀ y ∈ ys, 0 < y.cps.toList.length ∧ Wd 12 y) ∧ ∀ (y : Str) (G : Hp), Ladled p H G → Wd 200 y → Q (.str y) G
theorem rep_sgn {z y : Str} {k : Nat} (a : ∀ c ∈ z.cps.toList, c ∈ abc.cps.toList) (e : y.cps.toList = (List.replicate k z.cps.toList).flatten) : ∀ c ∈ y.cps.toList, c ∈ abc.cps.toList := by
  intro c hc
  rw [e] at hc
  obtain ⟨l, hl, h⟩ := List.mem_flatten.mp hc
  rw [(List.mem_replicate.mp hl).2] at h
  exact a c h
theorem rep_len {z y : Str} {k : Nat} (a : z.cps.toList.length ≤ 12) (hk : k ≤ 200) (e : y.cps.toList = (List.replicate k z.cps.toList).flatten) : y.length ≤ sizeLine := by
  show y.cps.toList.length ≤ sizeLine
  rw [e, PyProof.Rows.lm_len_rep_flat, sizeLine_eq]
  have := Nat.mul_le_mul hk a
  omega
theorem cal_word (B : Bi mg) (D : At K mg "_law_word" s_law_word ps_law_word) (C_law_draw : Cal P w K mg base 1 "_law_draw" ps_law_draw spLadle) (C_law_one : Cal P w K mg base 2 "_law_one" ps_law_one (spOneOf K)) (C_law_stem : Cal P w K mg base 2 "_law_stem" ps_law_stem spStem) : Cal P w K mg base 3 "_law_word" ps_law_word (spWord K) := by
  refine D.cal sc_law_word (fun vs H Q E h => ?_) (fun f cdv A outer s H vs Q E hr h => ?_)
  · obtain ⟨p, l, ys, rfl, _⟩ := h
    rfl
  · obtain ⟨p, l, ys, rfl, hp, hl, np, y0, y1, hy, k⟩ := h
    refine ⟨_, (pss_cons (ps_par (i := 2) (j := 3) (by rfl) sc_law_word.nd rfl rfl (by decide) rfl rfl (pa_cons (pe_own C_law_draw hr (by decide) (by rfl) (pa_cons (pv 0) (pa_cons pe_int pa_nil))) (pa_cons (pe_own C_law_one hr (by decide) (by rfl) (pa_cons (pv 0) (pa_cons (pv 1) pa_nil))) pa_nil)) (by rfl))
      (pss_cons (ps_if (pt_cmpR op_lt (pv 2) pe_int (nomark _)) (pss_one (ps_ret (pv 3))) pss_nil)
      (pss_cons (ps_if (pt_cmpR op_lt (pv 2) pe_int (nomark _)) (pss_one (ps_ret (pe_op op_add_str (pe_op op_add_str (pv 3) pe_str) (pe_callTy call_str_int (by rfl) B.str (by decide +kernel) (pa_cons (pe_op op_add pe_int (pe_own C_law_draw hr (by decide) (by rfl) (pa_cons (pv 0) (pa_cons pe_int pa_nil)))) pa_nil))))) pss_nil)
      (pss_cons (ps_if (pt_cmpR op_eq (pv 2) pe_int (nomark _)) (pss_one (ps_ret (pe_slice sl_str (pv 3) po_none (po_some (pe_own C_law_draw hr (by decide) (by rfl) (pa_cons (pv 0) (pa_cons (pe_op op_add (pe_callB call_len (by rfl) B.len (by decide +kernel) (pa_cons (pv 3) pa_nil)) pe_int) pa_nil))))))) pss_nil)
      (pss_cons (ps_if (pt_cmpR op_eq (pv 2) pe_int (nomark _)) (pss_one (ps_ret (pe_slice sl_str (pe_op op_mul_str (pv 3) pe_int) po_none (po_some (pe_own C_law_one hr (by decide) (by rfl) (pa_cons (pv 0) (pa_cons (pe_lst (pa_cons pe_int (pa_cons pe_int (pa_cons pe_int (pa_cons pe_int pa_nil))))) pa_nil))))))) pss_nil)
      (pss_one (ps_ret (pe_mid (pe_ifExp (pt_cmpR op_eq (pv 2) pe_int (nomark _)) (pe_op op_add_str (pv 3) (pe_own C_law_stem hr (by decide) (by rfl) (pa_cons (pv 0) (pa_cons pe_int pa_nil)))) (pe_own C_law_stem hr (by decide) (by rfl) (pa_cons (pv 0) (pa_cons pe_int pa_nil)))))))))))), ?_⟩
    refine ⟨_, rfl, p, 9, rfl, hp, by decide, by decide, fun way G1 w0 w1 L1 => ?_⟩
    refine ⟨_, rfl, _, rfl, p, L1.pot, l, _, rfl, L1.seq np hl, np, by rw [List.length_map]; exact y0, by rw [List.length_map]; exact y1, fun v G2 hv L2 => ?_⟩
    obtain ⟨z, hz, rfl⟩ := List.mem_map.mp hv
    obtain ⟨z0, wz⟩ := hy z hz
    have zl := wz.len
    have ez : z.length = z.cps.toList.length := rfl
    have M2 : Ladled p H G2 := L1.trans L2
    refine ⟨_, _, rfl, ?_⟩
    -- way < 3
    refine ⟨_, rfl, _, _, rfl, rfl, _, rfl, ite2 (fun _ => ?_) (fun _ => ?_)⟩
    · exact ⟨_, rfl, k z G2 M2 (wz.mono (by decide))⟩
    -- way < 5
    refine ⟨_, rfl, _, _, rfl, rfl, _, rfl, ite2 (fun _ => ?_) (fun _ => ?_)⟩
    · refine ⟨_, rfl, _, _, rfl, rfl, by rw [sizeLine_eq]; have e1 : (("~" : String) : Str).length = 1 := by decide +kernel
                                         omega, _, rfl, p, 3, rfl, M2.pot, by decide, by decide, fun d G3 d0 d1 L3 => ?_⟩
      have M3 := M2.trans L3
      refine ⟨_, _, rfl, rfl, _, rfl, ?_, ?_⟩
      · exact log_small (by omega) (by omega)
      · have wd := wd_digit (i := 2 + d) (by omega) (by omega)
        have wt : Wd 1 ("~" : String) := wd_lit (by decide +kernel)
        have w1 : Wd 13 (z ++ (("~" : String) : Str)) := wz.app wt (by decide)
        exact ⟨_, _, rfl, rfl, Nat.le_of_lt (small1000 (Nat.le_trans (Nat.add_le_add w1.len wd.len) (by decide))), k _ _ M3 ((w1.app wd (by decide)).mono (Nat.le_refl _))⟩
    -- way == 5
    refine ⟨_, rfl, rfl, _, rfl, ite2 (fun _ => ?_) (fun _ => ?_)⟩
    · refine ⟨_, rfl, _, rfl, _, rfl, _, _, rfl, ⟨Nat.le_of_lt (small1000 (by omega)), rfl⟩, _, _, rfl, rfl, p, _, rfl, M2.pot, by omega, by omega, fun d G3 d0 d1 L3 => ?_⟩
      exact ⟨d, rfl, z, rfl, Nat.le_of_lt (small1000 (by omega)), k _ _ (M2.trans L3) (wz.cut _ _ |>.mono (by decide))⟩
    -- way == 6
    refine ⟨_, rfl, rfl, _, rfl, ite2 (fun _ => ?_) (fun _ => ?_)⟩
    · refine ⟨_, rfl, z, 200, rfl, rfl, by decide, by decide, by omega, by omega, fun y ey => ?_⟩
      refine ⟨_, rfl, by show 4 ≤ sizeLine; decide, fun q nq => ?_⟩
      refine ⟨p, M2.pot.same (same_new nq), q, _, rfl, .inl (.inl upd_same), M2.pot.off nq, by decide, by decide, fun v G3 hv L3 => ?_⟩
      obtain ⟨b, b0, b1, rfl⟩ : ∃ b : Int, 0 ≤ b ∧ b ≤ 200 ∧ v = .int b := by
        rcases List.mem_cons.mp hv with rfl | hv
        · exact ⟨40, by decide, by decide, rfl⟩
        rcases List.mem_cons.mp hv with rfl | hv
        · exact ⟨41, by decide, by decide, rfl⟩
        rcases List.mem_cons.mp hv with rfl | hv
        · exact ⟨199, by decide, by decide, rfl⟩
        rcases List.mem_cons.mp hv with rfl | hv
        · exact ⟨200, by decide, by decide, rfl⟩
        cases hv
      exact ⟨b, rfl, y, rfl, rep_len zl (by decide) ey, k _ _ ((M2.new nq).trans L3) (wd_head (rep_sgn wz.sgn ey) b0 b1)⟩
    -- way == 7
    refine ⟨fun v J => ∃ y, v = .str y ∧ Ladled p H J ∧ Wd 200 y, ?_, ?_⟩
    · refine ⟨_, rfl, rfl, _, rfl, ite2 (fun _ => ?_) (fun _ => ?_)⟩
      · refine ⟨_, rfl, _, rfl, p, 3, rfl, M2.pot, by decide, by decide, fun y G3 L3 yl wy => ?_⟩
        have y3 := wy.len
        have ey : y.length = y.cps.toList.length := rfl
        refine ⟨_, _, rfl, rfl, Nat.le_of_lt (small1000 (by omega)), _, rfl, M2.trans L3, wz.app wy (by decide)⟩
      · refine ⟨_, rfl, p, 12, rfl, M2.pot, by decide, by decide, fun y G3 L3 yl wy => ?_⟩
        exact ⟨_, rfl, M2.trans L3, wy.mono (by decide)⟩
    · rintro _ J ⟨y, rfl, L, W⟩
      exact k y J L W
end
end Gu
namespace Gu
open PySem PySem.Spec PyProof.Rows L2 Builtin
/-! ### bool of what has its own __len__ -/
theorem truthy_lenK {prog : Program} {w : World} {A : Around} {E : Value → Shared → Prop} {s : Shared} {K : PySem.W.Frag} {x C L f : Addr} {h₀ : Heap} {m : Str → Option Value} {ox : Obj} {od : Option Obj} {Q : Bool → Shared → Prop} (F : Fr h₀ L s.heap m) (X₀ : K.In h₀) (I : PySem.W.InstAt s.heap x ox C od) (hb : PySem.W.findIn K (.ref C) "__bool__" = some none) (hs : PySem.W.findIn K (.ref C) "__len__" = some (some (.ref f))) (hf : PySem.W.isFn K (.ref f) = true)
    (h : wpAny (model prog w) A.in1 (call (.ref f) [.ref x]) (fun r s' => match r with | .int n _ => (0 ≤ n ∧ n < 2 ^ 63) ∧ Q (n != 0) { s' with toks := s'.toks + 1 } | _ => False) E s) : wpAny (model prog w) A (truthy (.ref x)) Q E s := by
  have X := X₀.keeps F.keep
  have key : wpAny (model prog w) A (runValue (.builtin "len" ⟨[.ref x], []⟩)) (fun r s' => ∃ n t, r = .int n t ∧ Q (n != 0) s') E s := by
    refine wpAny_runValue (codeAny_builtin entry_len ?_)
    rw [Around.under_plainId plain_len _]
    unfold Builtin.«len»
    refine wpAny_bind (m := oneArg "len" _) (wpAny_pure ?_)
    refine wpAny_bind (m := callSpecial? (.ref x) (Str.ofString "__len__")) (PySem.W.special_fn X I hs (beq_iff_eq.mp hf) (wpAny_mono h (fun r s' hr => ?_) fun _ _ y => y))
    cases r <;> first | exact hr.elim | skip
    rename_i n u
    obtain ⟨⟨h0, h1⟩, hq⟩ := hr
    refine wpAny_bind (wpAny_holding (wpAny_pure ?_))
    refine wpAny_bind (wpAny_letGo ?_)
    show wpAny _ _ (if n < 0 then _ else _) _ _ _
    rw [if_neg (by omega)]
    show wpAny _ _ (if n ≥ 2 ^ 63 then _ else _) _ _ _
    rw [if_neg (by omega)]
    exact wpAny_bind (wpAny_mkInt (wpAny_pure ⟨_, _, rfl, hq⟩))
  unfold truthy
  refine wpAny_bind (m := callSpecial? (.ref x) (Str.ofString "__bool__")) (wpAny_bind (wpAny_bind (I.type.here ((PySem.W.looks_findIn X hb).here (wpAny_pure ?_)))))
  refine wpAny_bind (wpAny_bind (I.type.here ((PySem.W.looks_findIn X hs).here ?_)))
  exact wpAny_bind (wpAny_mono key (fun r s' h' => by obtain ⟨n, t, rfl, hq⟩ := h'; exact wpAny_pure hq) fun _ _ e => e)
theorem bool_newIn {prog : Program} {w : World} (x : Value) : MeetsIn prog w (Builtin.«bool.__new__» ⟨[.type "bool", x], []⟩) (fun A R s => wpAny (model prog w) A.in1 (truthy x) (fun b s1 => R (.ok (.ret (.bool b))) s1) (fun e s1 => R (.error e) s1) s) := .of_wp fun A R s h => by
  have f1 := F.conv_sub_bool
  have tr : ∀ (Q : Bool → Shared → Prop) (E : Value → Shared → Prop), (∀ b s1, R (.ok (.ret (.bool b))) s1 → Q b s1) → (∀ e s1, R (.error e) s1 → E e s1) → wpAny (model prog w) A.in1 (truthy x) Q E s := fun Q E h1 h2 => wpAny_mono h h1 h2
  obtain ⟨s1, s2, s3, s4, s5⟩ := s
  repeat (any_goals (first | assumption | (with_reducible refine tr _ _ ?_ ?_) | wp_step))
  · intro b t hb
    exact wpAny_pure ⟨_, rfl, hb⟩
  · exact fun _ _ z => z
section
variable {X : Cx} {n : Nat} {C f : Addr} {fd : FuncData} {ps : List Str} {sp : Sp}
/-- bool of it: whether its length is not 0 -/
theorem call_boolLen (Fn : FnOk X.prog X.w X.K X.mg X.base CX0 n f fd ps sp) (hb : Binds X.K fd ps []) (hr : Room (n + 3) X.A) (nb : PySem.W.findIn X.K (.ref C) "__bool__" = some none) (hs : PySem.W.findIn X.K (.ref C) "__len__" = some (some (.ref f))) (hf : PySem.W.isFn X.K (.ref f) = true) :
    CallR X (.type "bool") (fun vs H Q => ∃ (a dx : Addr) (fs : List (Str × V)), vs = [.ref a] ∧ H a = some (.ins C dx fs) ∧ sp [.ref a] H (fun v G => ∃ z : Int, v = .int z ∧ (0 ≤ z ∧ z < 2 ^ 63) ∧ Q (.bl (z != 0)) G) E0) := by
  intro pins s σ H vs us Q I r h
  obtain ⟨a, dx, fs, rfl, ha, want⟩ := h
  cases r with
  | cons r rr =>
    cases rr
    cases (show _ = Value.ref a from r)
    obtain ⟨m1, J, _⟩ := ins_get I.hok ha
    obtain ⟨od, J, _⟩ := J.look
    obtain ⟨m, fr⟩ := I.fr
    refine callType_newIn F.called_bool F.newNe_bool (F.typeCall_bool_1 _) (F.newCall_bool_1 _) (fun obj => F.args_object_init_2 obj _) F.entry_bool_new (bool_newIn _) ?_
    refine truthy_lenK fr I.ok.mod.kin J nb hs hf ?_
    have hr3 : Room n X.A.in1.in1.in1 := ((show Room (n + 2) X.A.in1 from Room.in1 hr) |> fun r => (show Room (n + 1) X.A.in1.in1 from Room.in1 r)).in1
    have e0 : Env0 X.prog X.w X.K X.mg X.base X.A.in1.in1.in1 X.stack s H := I.env0.in1.in1.in1
    have bt := hb s [.ref a] I.kIn (Fn.len _ _ _ _ want)
    rw [List.append_nil] at bt
    refine wpAny_call (codeAny_mono (Fn.run X.A.in1.in1.in1 X.stack s H ⟨[.ref a], []⟩ [.ref a] [.ref a] _ E0 hr3 e0 bt (.cons rfl .nil) want) fun r s1 h1 => ?_)
    cases r with
    | error e => exact (h1 : False).elim
    | ok fl =>
      cases fl with
      | ret v =>
        obtain ⟨z, G, I1, rz, b, rfl, z0, q⟩ := I.after h1
        obtain ⟨tk, rfl⟩ := rz
        exact ⟨z0, rfl, .bl (b != 0), G, I1.tok _, rfl, q⟩
      | next => exact (h1 : False).elim
      | brk => exact (h1 : False).elim
      | cont => exact (h1 : False).elim
end
end Gu
namespace Gu
open PySem PySem.Spec PyProof.Rows L2
/-! ### what a Namer is worth beside its fields: ==, !=, repr, truth -/
structure ShE (K : PySem.W.Frag) (C : Addr) : Prop where
  ci : PySem.W.isClsIn K C = true
  ti : PySem.W.typeIn K (.ref C) = some (.type "type")
  ne : PySem.W.findIn K (.ref C) "__ne__" = some (some (.builtin "object.__ne__"))
  nb : PySem.W.findIn K (.ref C) "__bool__" = some none
  nl : PySem.W.findIn K (.ref C) "__len__" = some none
  ob : PySem.W.mroIn K C (.type "object") = some true
  eq : ∃ (f : Addr) (fd : FuncData), PySem.W.findIn K (.ref C) "__eq__" = some (some (.ref f)) ∧ PySem.W.isFn K (.ref f) = true ∧ Fun K "__eq__" "Namer.__eq__" s_Namer_eq f fd ∧ Binds K fd ps_Namer_eq []
  re : ∃ (f : Addr) (fd : FuncData), PySem.W.findIn K (.ref C) "__repr__" = some (some (.ref f)) ∧ PySem.W.isFn K (.ref f) = true ∧ Fun K "__repr__" "Namer.__repr__" s_Namer_repr f fd ∧ Binds K fd ps_Namer_repr []
theorem far_type {K : PySem.W.Frag} {C : Addr} {T : String} {l : List Value} (h : PySem.fastBuiltinMro T = some l) (n : l.contains (.ref C) = false) : PySem.W.subIn K (.type T) (.ref C) = some false := by
  show (PySem.fastBuiltinMro T).map (·.contains (.ref C)) = some false
  rw [h]
  exact congrArg some n
theorem far_tuple {K : PySem.W.Frag} {C : Addr} : PySem.W.subIn K (.type "tuple") (.ref C) = some false := far_type (l := [.type "tuple", .type "object"]) (by kernel_rfl) (by simp)
theorem far_str {K : PySem.W.Frag} {C : Addr} : PySem.W.subIn K (.type "str") (.ref C) = some false := far_type (l := [.type "str", .type "object"]) (by kernel_rfl) (by simp)
theorem ShE.no {K : PySem.W.Frag} {C : Addr} (S : ShE K C) {T : String} (h : PySem.W.subIn K (.type T) (.ref C) = some false) : PySem.W.kitOne K (.type T) (.ref C) = some false := by
  have c : ((PySem.W.clsIn K C).isSome && PySem.W.typeIn K (.ref C) == some (.type "type")) = true := by
    rw [S.ti, show (PySem.W.clsIn K C).isSome = true from S.ci]
    rfl
  show (if (Value.type T == Value.ref C) = true then some true else PySem.W.kitCls K (.type T) (.ref C)) = some false
  rw [if_neg (by simp)]
  show (if ((PySem.W.clsIn K C).isSome && PySem.W.typeIn K (.ref C) == some (.type "type")) = true then PySem.W.subIn K (.type T) (.ref C) else none) = some false
  rw [if_pos c]
  exact h
theorem first_of {K : PySem.W.Frag} {C : Addr} {t : Value} (h : PySem.W.subIn K t (.ref C) = some false) : PySem.W.notFirst K C t = true := by
  unfold PySem.W.notFirst
  rw [h]
  simp
theorem first_self {K : PySem.W.Frag} {C : Addr} : PySem.W.notFirst K C (.ref C) = true := by
  unfold PySem.W.notFirst
  simp
section
variable {X : Cx} {n : Nat} {C f : Addr} {fd : FuncData} {ps : List Str} {sp : Sp}
/-- a def called with an instance and one thing more gives a bool: from the promise to the machine -/
theorem run_two {pins : List (Addr × Obj)} {σ : L2.St} {H : Hp} {s : Shared} {A : Around} {R : Bool → Hp → Prop} {x : Addr} {y : V} {u : Value} (F : FnOk X.prog X.w X.K X.mg X.base CX0 n f fd ps sp) (hb : Binds X.K fd ps []) (hr : Room n A) (fr : A.frames = X.A.frames) (I : Inv X pins σ H s) (ry : RelV y u)
    (h : sp [.ref x, y] H (fun v G => ∃ b, v = .bl b ∧ R b G) E0) : wpAny (model X.prog X.w) A (call (.ref f) [.ref x, u]) (fun v s1 => ∃ b, v = .bool b ∧ ∃ G, Inv X pins σ G s1 ∧ R b G) X.xe s := by
  have r2 : Vals [V.ref x, y] [Value.ref x, u] := .cons rfl (.cons ry .nil)
  have l2 := F.len _ _ _ _ h
  have e0 : Env0 X.prog X.w X.K X.mg X.base A X.stack s H := by
    have e := I.env0
    exact ⟨by rw [fr]; exact e.frames, e.mod, e.bs, e.bsz, e.funs, e.frf, e.hok, e.bare⟩
  have bt := hb s [.ref x, u] I.kIn l2
  rw [List.append_nil] at bt
  refine wpAny_call (codeAny_mono (F.run A X.stack s H ⟨[.ref x, u], []⟩ [.ref x, u] [.ref x, y] _ E0 hr e0 bt r2 h) fun r s1 h1 => ?_)
  cases r with
  | error e => exact (h1 : False).elim
  | ok fl =>
    cases fl with
    | ret v =>
      obtain ⟨z, G, I1, rz, b, rfl, q⟩ := I.after h1
      cases (show v = Value.bool b from rz)
      exact ⟨b, rfl, G, I1, q⟩
    | next => exact (h1 : False).elim
    | brk => exact (h1 : False).elim
    | cont => exact (h1 : False).elim
def rOwn (C : Addr) (K : PySem.W.Frag) (sp : Sp) (neg : Bool) : R2 := fun x y H Q => ∃ (a dx : Addr) (fs : List (Str × V)) (t : Value), x = .ref a ∧ H a = some (.ins C dx fs) ∧ TyX K H y t ∧ PySem.W.notFirst K C t = true ∧
  sp [.ref a, y] H (fun v G => ∃ b, v = .bl b ∧ Q (.bl (if neg then !b else b)) G) E0
theorem op_eqOwn (F : FnOk X.prog X.w X.K X.mg X.base CX0 n f fd ps sp) (hb : Binds X.K fd ps []) (hr : Room n X.A) (hs : PySem.W.findIn X.K (.ref C) "__eq__" = some (some (.ref f))) (hf : PySem.W.isFn X.K (.ref f) = true) : OpR X (compareOp .Eq) (rOwn C X.K sp false) := by
  intro pins s σ H x y v u Q I rx ry h
  obtain ⟨a, dx, fs, t, rfl, ha, ty, nf, want⟩ := h
  cases rx
  obtain ⟨m1, J, _⟩ := ins_get I.hok ha
  obtain ⟨od, J, _⟩ := J.look
  obtain ⟨m, fr⟩ := I.fr
  obtain ⟨Pt, kx, pt, _⟩ := kit_of I ry ty
  show wpAny (model X.prog X.w) X.A (richCompare .Eq (.ref a) u) (EP X pins σ Q) X.xe s
  refine PySem.W.cmp_K (op := .Eq) (tb := t) hr.units0 fr I.ok.mod.kin J (kx.ty _ _ I.kIn pt) nf hs hf ?_
  refine wpAny_mono (run_two (R := fun b G => Q (.bl b) G) F hb hr rfl I ry want) (fun r s1 h1 => ?_) fun _ _ e => e
  obtain ⟨b, rfl, G, I1, q⟩ := h1
  exact ⟨.bl b, G, I1, rfl, q⟩
theorem ne_slot {A : Around} {s : Shared} {x : Addr} {u : Value} {ox : Obj} {od : Option Obj} {K : PySem.W.Frag} {prog : Program} {w : World} {E : Value → Shared → Prop} {Q : Value → Shared → Prop} (hu : A.units + 1 < cLine) (inK : K.In s.heap) (J : PySem.W.InstAt s.heap x ox C od) (ob : PySem.W.mroIn K C (.type "object") = some true)
    (he : PySem.W.findIn K (.ref C) "__eq__" = some (some (.ref f))) (hf : PySem.W.isFn K (.ref f) = true) (h : wpAny (model prog w) A.in1 (call (.ref f) [.ref x, u]) (fun v s1 => ∃ b, v = .bool b ∧ Q (.bool (!b)) s1) E s) :
    wpAny (model prog w) A (call (.builtin "object.__ne__") [.ref x, u]) Q E s := by
  have isObj : PySem.W.Looks (model prog w) s.heap (isInstance (.ref x) (.type "object")) true := J.type.andThen (PySem.W.looks_mroIn inK ob)
  refine wpAny_call (codeAny_call_builtin F.cmp_object.ne.plain F.cmpEntry_ne (PySem.W.check_slot F.cmpKind_ne F.cmpSplit_ne isObj (F.cmpArgs_ne _ _) ?_))
  show wpAny (model prog w) A.in1 (Builtin.«object.__ne__» ⟨[.ref x, u], []⟩) _ E s
  unfold Builtin.«object.__ne__»
  refine wpAny_bind (m := slotArgs "__ne__" 1 _) (wpAny_pure ?_)
  refine wpAny_bind (wpAny_cRoomFor (by exact hu) ?_)
  refine wpAny_bind (PySem.W.ifBound_K inK J he hf (wpAny_mono h (fun v s1 h1 => ?_) fun _ _ e => e))
  obtain ⟨b, rfl, q⟩ := h1
  refine wpAny_bind (wpAny_truthy_bool ?_)
  exact wpAny_pure q
/-- != by the own == -/
theorem op_neOwn (F : FnOk X.prog X.w X.K X.mg X.base CX0 n f fd ps sp) (hb : Binds X.K fd ps []) (hr : Room (n + 1) X.A) (S : PySem.W.findIn X.K (.ref C) "__ne__" = some (some (.builtin "object.__ne__"))) (ob : PySem.W.mroIn X.K C (.type "object") = some true)
    (hs : PySem.W.findIn X.K (.ref C) "__eq__" = some (some (.ref f))) (hf : PySem.W.isFn X.K (.ref f) = true) : OpR X (compareOp .NotEq) (rOwn C X.K sp true) := by
  intro pins s σ H x y v u Q I rx ry h
  obtain ⟨a, dx, fs, t, rfl, ha, ty, nf, want⟩ := h
  cases rx
  obtain ⟨m1, J, _⟩ := ins_get I.hok ha
  obtain ⟨od, J, _⟩ := J.look
  obtain ⟨Pt, kx, pt, _⟩ := kit_of I ry ty
  have lt := kx.ty (model X.prog X.w) _ I.kIn pt
  have one : wpAny (model X.prog X.w) X.A (tryCompare (.ref a) "__ne__" u) (fun r s1 => ∃ v, r = some v ∧ EP X pins σ Q v s1) X.xe s := by
    have back : wpAny (model X.prog X.w) X.A (call (.builtin "object.__ne__") [.ref a, u]) (fun v s1 => ∃ b, v = .bool b ∧ EP X pins σ Q v s1) X.xe s := by
      refine ne_slot (hu_of hr) I.kIn J ob hs hf (wpAny_mono (run_two (A := X.A.in1) (R := fun b G => Q (.bl (!b)) G) F hb hr.in1 rfl I ry want) (fun v s1 h1 => ?_) fun _ _ e => e)
      obtain ⟨b, rfl, G, I1, q⟩ := h1
      exact ⟨b, rfl, !b, rfl, .bl (!b), G, I1, rfl, q⟩
    unfold tryCompare
    simp only [callSpecialIfBound?, bindSpecialIfBound?]
    refine wpAny_bind (wpAny_holding (wpAny_bind (wpAny_bind (wpAny_bind (J.type.here ((PySem.W.looks_findIn I.kIn S).here ?_))))))
    simp only [PySem.F.cmp_object.ne.bind]
    refine wpAny_bind (wpAny_askSetting (wpAny_ite ?_))
    have fin : wpAny (model X.prog X.w) X.A (call (.builtin "object.__ne__") ([.ref a] ++ [u]) >>= fun v => pure (some v)) (fun r s1 => ∃ v, r = some (.bool v) ∧ EP X pins σ Q (.bool v) s1) X.xe s := wpAny_bind (wpAny_mono back (fun v s1 h1 => by
      obtain ⟨b, rfl, q⟩ := h1
      exact wpAny_pure ⟨b, rfl, q⟩) fun _ _ e => e)
    have told : ∀ (r : Option Value) (s1 : Shared), (∃ v, r = some (Value.bool v) ∧ EP X pins σ Q (.bool v) s1) → wpAny (model X.prog X.w) X.A (match r with
        | some Value.notImplemented => pure none
        | none => pure none
        | some z => pure (some z)) (fun r s1 => ∃ v, r = some v ∧ EP X pins σ Q v s1) X.xe s1 := fun r s1 h1 => by
      obtain ⟨v, rfl, q⟩ := h1
      exact wpAny_pure ⟨_, rfl, q⟩
    split
    · exact wpAny_bind (wpAny_pure (wpAny_pure (wpAny_mono fin told fun _ _ e => e)))
    · exact wpAny_tryCatch (wpAny_bind (wpAny_pure (wpAny_pure (wpAny_mono fin told fun _ _ e => e))))
  show wpAny (model X.prog X.w) X.A (richCompare .NotEq (.ref a) u) (EP X pins σ Q) X.xe s
  unfold richCompare
  simp only [oneThing_ref]
  refine wpAny_holding (wpAny_bind (wpAny_cRoomFor hr.units0 (wpAny_bind (J.type.here (wpAny_bind (lt.here ?_))))))
  split
  · next q =>
    have e : PySem.W.subIn X.K t (.ref C) = some false := by
      rcases Bool.or_eq_true_iff.mp nf with z | z
      · rw [beq_iff_eq.mp z] at q
        simp at q
      · exact beq_iff_eq.mp z
    refine wpAny_bind ((PySem.W.looks_subIn I.kIn e).here ?_)
    rw [if_neg Bool.false_ne_true]
    exact wpAny_bind (wpAny_mono one (fun r s1 h1 => by
      obtain ⟨v, rfl, q⟩ := h1
      exact wpAny_pure q) fun _ _ e => e)
  · refine wpAny_bind (wpAny_pure ?_)
    rw [if_neg Bool.false_ne_true]
    exact wpAny_bind (wpAny_mono one (fun r s1 h1 => by
      obtain ⟨v, rfl, q⟩ := h1
      exact wpAny_pure q) fun _ _ e => e)
/-- bool of it: True -/
theorem bool_new (a : Addr) (ox : Obj) (od : Option Obj) (K : PySem.W.Frag) (nb : PySem.W.findIn K (.ref C) "__bool__" = some none) (nl : PySem.W.findIn K (.ref C) "__len__" = some none) :
    Meets (Builtin.«bool.__new__» ⟨[.type "bool", .ref a], []⟩) (fun _ R s => ((∃ h₀ L m, Fr h₀ L s.heap m ∧ K.In h₀) ∧ PySem.W.InstAt s.heap a ox C od) ∧ R (.ok (.ret (.bool true))) s) := Meets.of_wp fun prog w A R s hs => by
  obtain ⟨⟨⟨h₀, L, m, fr, inK⟩, J⟩, hs⟩ := hs
  obtain ⟨s1, s2, s3, s4, s5⟩ := s
  have f1 := F.conv_sub_bool
  have tr : ∀ (A : Around) (Q : Bool → Shared → Prop) (E : Value → Shared → Prop), Q true ⟨s1, s2, s3, s4, s5⟩ → wpAny (model prog w) A (truthy (.ref a)) Q E ⟨s1, s2, s3, s4, s5⟩ := fun A Q E q => PySem.W.truthy_K0 fr inK J nb nl q
  repeat (any_goals (first | assumption | (with_reducible refine tr _ _ _ ?_) | wp_step))
  all_goals first | exact ⟨_, rfl, hs⟩ | exact hs | skip
theorem call_boolOwn (nb : PySem.W.findIn X.K (.ref C) "__bool__" = some none) (nl : PySem.W.findIn X.K (.ref C) "__len__" = some none) : CallR X (.type "bool") (fun vs H Q => ∃ (a dx : Addr) (fs : List (Str × V)), vs = [.ref a] ∧ H a = some (.ins C dx fs) ∧ Q (.bl true) H) := by
  intro pins s σ H vs us Q I r h
  obtain ⟨a, dx, fs, rfl, ha, q⟩ := h
  cases r with
  | cons r rr =>
    cases rr
    cases (show _ = Value.ref a from r)
    obtain ⟨m1, J, _⟩ := ins_get I.hok ha
    obtain ⟨od, J, _⟩ := J.look
    obtain ⟨m, fr⟩ := I.fr
    exact call_bool_1 (bool_new a _ _ X.K nb nl) ⟨⟨⟨_, _, _, fr, I.ok.mod.kin⟩, J⟩, rfl, .bl true, H, I, rfl, q⟩
end
end Gu
namespace Gu
open PySem PySem.Spec PyProof.Rows L2
section
variable {P : Program} {w : World} {K : PySem.W.Frag} {mg : Str → Option Value} {base : Heap} {C : Addr}
/-! ### ==, repr -/
def spEqN (K : PySem.W.Frag) (C : Addr) : Sp := fun vs H Q _ => ∃ (a : Addr) (so : Str) (w : Int) (y : V), vs = [.ref a, y] ∧ NmAt C H a so w ∧
  ((∃ (b : Addr) (sp : Str) (v : Int), y = .ref b ∧ NmAt C H b sp v ∧ Q (.bl (decide (so = sp ∧ w = v))) H) ∨ (∃ t, TyX K H y t ∧ PySem.W.kitOne K t (.ref C) = some false ∧ Q (.bl false) H))
theorem ok_eqN {f : Addr} {fd : FuncData} (B : Bi mg) (S : NmC K mg C) (F : Fun K "__eq__" "Namer.__eq__" s_Namer_eq f fd) : FnOk P w K mg base CX0 1 f fd ps_Namer_eq (spEqN K C) := by
  refine F.ok sc_Namer_eq (fun vs H Q E h => ?_) (fun cdv A outer s H vs Q E hr h => ?_)
  · obtain ⟨a, so, w, y, rfl, _⟩ := h
    rfl
  · obtain ⟨a, so, w, y, rfl, ⟨dx, e1⟩, h⟩ := h
    refine ⟨_, (pss_one (ps_ret (pe_and (pe_callB call_isi (by rfl) B.isinstance (by decide +kernel) (pa_cons (pv 1) (pa_cons (pe_glob (v := .ref C) (by rfl) S.g rfl) pa_nil))) (pe_and (pe_cmpR op_eq (pe_fld (pv 0) rfl) (pe_fld (pv 1) rfl) (nomark _)) (pe_one (pe_cmpR op_eq (pe_fld (pv 0) rfl) (pe_fld (pv 1) rfl) (nomark _))))))), ?_⟩
    rcases h with ⟨b, sp, v, rfl, ⟨dy, e2⟩, k⟩ | ⟨t, ty, kt, k⟩
    · refine ⟨_, rfl, _, _, _, _, true, rfl, .own C, .base (.ins e2 S.cl S.ha S.hn S.ht S.hm), S.kk, _, rfl, iteT ?_⟩
      refine ⟨_, rfl, a, C, dx, _, _, rfl, e1, S.cl, S.nR, nflds_rule _ _, _, rfl, b, C, dy, _, _, rfl, e2, S.cl, S.nR, nflds_rule _ _, rfl, _, rfl, ?_⟩
      by_cases h1 : so = sp
      · rw [if_pos (decide_eq_true (by rw [h1]))]
        refine ⟨_, rfl, a, C, dx, _, _, rfl, e1, S.cl, S.nW, nflds_width _ _, _, rfl, b, C, dy, _, _, rfl, e2, S.cl, S.nW, nflds_width _ _, rfl, ?_⟩
        have e : decide (V.int w = V.int v) = decide (so = sp ∧ w = v) := by
          by_cases h2 : w = v
          · rw [decide_eq_true (by rw [h2]), decide_eq_true ⟨h1, h2⟩]
          · rw [decide_eq_false (fun z => h2 (V.int.inj z)), decide_eq_false fun z => h2 z.2]
        rw [e]
        exact k
      · rw [if_neg (by rw [decide_eq_false (fun z => h1 (V.str.inj z))]; decide)]
        rw [decide_eq_false fun z => h1 z.1] at k
        exact k
    · exact ⟨_, rfl, _, _, t, _, false, rfl, .own C, ty, kt, _, rfl, iteF k⟩
def nline (so : Str) (w : Int) : Str := Str.empty ++ (("Namer(" : String) : Str) ++ so ++ ((", " : String) : Str) ++ ((toString w : String) : Str) ++ ((")" : String) : Str)
def spReprN (C : Addr) : Sp := fun vs H Q _ => ∃ (a : Addr) (so : Str) (w : Int), vs = [.ref a] ∧ NmAt C H a so w ∧ so ∈ sorts ∧ 6 ≤ w ∧ w ≤ 40 ∧ Q (.str (nline so w)) H
theorem wid_len {w : Int} (h0 : 6 ≤ w) (h1 : w ≤ 40) : ((toString w : String) : Str).length ≤ 7 := by
  have l : w.natAbs.log2 < 6 := PySem.Flt.log2_lt_of (by decide) (show w.natAbs < 2 ^ 6 by omega)
  have e := int_text_length_le (a := w) (k := 6) (by decide) l
  show (Str.ofString (toString w)).length ≤ 7
  rw [PySem.ofString_length]
  exact e
theorem nsort_len {so : Str} (h : so ∈ sorts) : so.length ≤ 5 := by
  have a : ∀ s ∈ sorts, s.length ≤ 5 := by decide +kernel
  exact a so h
theorem napp_len (a b : Str) : (a ++ b).length = a.length + b.length := by
  show (a ++ b).cps.toList.length = a.cps.toList.length + b.cps.toList.length
  rw [str_app, List.length_append]
theorem ok_reprN {f : Addr} {fd : FuncData} (B : Bi mg) (S : NmC K mg C) (F : Fun K "__repr__" "Namer.__repr__" s_Namer_repr f fd) : FnOk P w K mg base CX0 1 f fd ps_Namer_repr (spReprN C) := by
  refine F.ok sc_Namer_repr (fun vs H Q E h => ?_) (fun cdv A outer s H vs Q E hr h => ?_)
  · obtain ⟨a, so, w, rfl, _⟩ := h
    rfl
  · obtain ⟨a, so, w, rfl, ⟨dx, e1⟩, hso, w0, w1, k⟩ := h
    have n1 := nsort_len hso
    have n2 := wid_len w0 w1
    have l1 : (("Namer(" : String) : Str).length = 6 := by decide +kernel
    have l2 : ((", " : String) : Str).length = 2 := by decide +kernel
    have l3 : ((")" : String) : Str).length = 1 := by decide +kernel
    have l5 : (Str.empty).length = 0 := rfl
    have big : ∀ n : Nat, n ≤ 200 → n ≤ sizeLine := fun n h => Nat.le_of_lt (small1000 (by omega))
    have lg : w.natAbs.log2 < 1920 := Nat.lt_of_lt_of_le (PySem.Flt.log2_lt_of (k := 6) (by decide) (show w.natAbs < 2 ^ 6 by omega)) (by decide)
    refine ⟨_, (pss_one (ps_ret (pe_joined (.cons pe_str (.cons (pe_fmt (pe_fld (pv 0) rfl)) (.cons pe_str (.cons (pe_fmt (pe_fld (pv 0) rfl)) (.cons pe_str .nil)))))))), ?_⟩
    refine ⟨_, rfl, big _ ?_, _, rfl, a, C, dx, _, _, rfl, e1, S.cl, S.nR, nflds_rule _ _, .inl ⟨_, rfl, big _ (by omega), _, rfl, big _ ?_, _, rfl, big _ ?_, _, rfl, a, C, dx, _, _, rfl, e1, S.cl, S.nW, nflds_width _ _, .inr ⟨_, rfl, lg, _, rfl, big _ ?_, _, rfl, big _ ?_, k⟩⟩⟩
    all_goals
      simp only [napp_len]
      have m1 : (Str.ofString (toString w)).length ≤ 7 := n2
      omega
end
end Gu
namespace Gu
open PySem PySem.Spec PyProof PyProof.Rows L2
/-! ### things of a class without an == of its own: the same thing or not -/
structure ObjE (K : PySem.W.Frag) (C : Addr) : Prop where
  eq : PySem.W.findIn K (.ref C) "__eq__" = some (some (.builtin "object.__eq__"))
  ne : PySem.W.findIn K (.ref C) "__ne__" = some (some (.builtin "object.__ne__"))
  ob : PySem.W.mroIn K C (.type "object") = some true
  nt : PySem.W.mroIn K C (.type "tuple") = some false
  ty : ∀ {H : Hp} {a dx : Addr} {fs : List (Str × V)}, H a = some (.ins C dx fs) → TyX K H (.ref a) (.ref C)
section
variable {prog : Program} {w : World} {A : Around} {E : Value → Shared → Prop} {s : Shared} {K : PySem.W.Frag} {x y C D : Addr} {ox oy : Obj} {od oe : Option Obj}
theorem ref_no_tup {I : PySem.W.InstAt s.heap x ox C od} : ox.cls ≠ .type "tuple" := by
  rw [I.cls]
  nofun
theorem eqo_call {Q : Value → Shared → Prop} (X : K.In s.heap) (I : PySem.W.InstAt s.heap x ox C od) (O : ObjE K C) (hy : s.heap.get? y = some oy) (ne : x ≠ y) (hq : Q .notImplemented s) : wpAny (model prog w) A (call (.builtin "object.__eq__") [.ref x, .ref y]) Q E s :=
  wpAny_call (codeAny_call_builtin F.cmp_object.eq.plain F.cmpEntry_eq (PySem.W.check_slot F.cmpKind_eq F.cmpSplit_eq (I.type.andThen (PySem.W.looks_mroIn X O.ob)) (F.cmpArgs_eq _ _) (PySem.objEq_entry_other ne I.at_ hy (ref_no_tup (I := I)) hq)))
theorem eqo_bound {Q : Option Value → Shared → Prop} (X : K.In s.heap) (I : PySem.W.InstAt s.heap x ox C od) (O : ObjE K C) (hy : s.heap.get? y = some oy) (ne : x ≠ y) (hq : Q (some .notImplemented) s) : wpAny (model prog w) A (callSpecialIfBound? (.ref x) "__eq__" [.ref y]) Q E s :=
  HN.ifBound_objEq X I O.eq (eqo_call X I O hy ne hq)
theorem eqo_try (X : K.In s.heap) (I : PySem.W.InstAt s.heap x ox C od) (O : ObjE K C) (hy : s.heap.get? y = some oy) (ne : x ≠ y) : wpAny (model prog w) A (tryCompare (.ref x) "__eq__" (.ref y)) (fun r s' => r = none ∧ s' = s) E s := by
  unfold tryCompare
  exact wpAny_bind (eqo_bound X I O hy ne (wpAny_pure ⟨rfl, rfl⟩))
theorem neo_try (hu : A.units + 1 < cLine) (X : K.In s.heap) (I : PySem.W.InstAt s.heap x ox C od) (O : ObjE K C) (hy : s.heap.get? y = some oy) (ne : x ≠ y) : wpAny (model prog w) A (tryCompare (.ref x) "__ne__" (.ref y)) (fun r s' => r = none ∧ s' = s) E s := by
  have back : wpAny (model prog w) A (call (.builtin "object.__ne__") [.ref x, .ref y]) (fun v s' => v = .notImplemented ∧ s' = s) E s := by
    refine wpAny_call (codeAny_call_builtin F.cmp_object.ne.plain F.cmpEntry_ne (PySem.W.check_slot F.cmpKind_ne F.cmpSplit_ne (I.type.andThen (PySem.W.looks_mroIn X O.ob)) (F.cmpArgs_ne _ _) ?_))
    show wpAny (model prog w) A.in1 (Builtin.«object.__ne__» ⟨[.ref x, .ref y], []⟩) _ E s
    unfold Builtin.«object.__ne__»
    refine wpAny_bind (m := slotArgs "__ne__" 1 _) (wpAny_pure ?_)
    refine wpAny_bind (wpAny_cRoomFor (by exact hu) ?_)
    exact wpAny_bind (eqo_bound (A := A.in1) X I O hy ne (wpAny_pure ⟨rfl, rfl⟩))
  unfold tryCompare
  simp only [callSpecialIfBound?, bindSpecialIfBound?]
  refine wpAny_bind (wpAny_holding (wpAny_bind (wpAny_bind (wpAny_bind (I.type.here ((PySem.W.looks_findIn X O.ne).here ?_))))))
  simp only [PySem.F.cmp_object.ne.bind]
  refine wpAny_bind (wpAny_askSetting (wpAny_ite ?_))
  have fin : wpAny (model prog w) A (call (.builtin "object.__ne__") ([.ref x] ++ [.ref y]) >>= fun v => pure (some v)) (fun r s' => r = some .notImplemented ∧ s' = s) E s := wpAny_bind (wpAny_mono back (fun v s1 h1 => by
    obtain ⟨rfl, rfl⟩ := h1
    exact wpAny_pure ⟨rfl, rfl⟩) fun _ _ e => e)
  have told : ∀ (r : Option Value) (s1 : Shared), (r = some .notImplemented ∧ s1 = s) → wpAny (model prog w) A (match r with
      | some Value.notImplemented => pure none
      | none => pure none
      | some z => pure (some z)) (fun r s' => r = none ∧ s' = s) E s1 := fun r s1 h1 => by
    obtain ⟨rfl, rfl⟩ := h1
    exact wpAny_pure ⟨rfl, rfl⟩
  split
  · exact wpAny_bind (wpAny_pure (wpAny_pure (wpAny_mono fin told fun _ _ e => e)))
  · exact wpAny_tryCatch (wpAny_bind (wpAny_pure (wpAny_pure (wpAny_mono fin told fun _ _ e => e))))
theorem eqo_rc {Q : Value → Shared → Prop} (hu : A.units < cLine) (X : K.In s.heap) (I : PySem.W.InstAt s.heap x ox C od) (J : PySem.W.InstAt s.heap y oy C oe) (O : ObjE K C) (ne : x ≠ y) (h : Q (.bool false) s) : wpAny (model prog w) A (richCompare .Eq (.ref x) (.ref y)) Q E s := by
  simp only [richCompare, cmpInfo_Eq, oneThing_ref]
  refine wpAny_holding (wpAny_bind (wpAny_cRoomFor hu ?_))
  refine wpAny_bind (I.type.here ?_)
  refine wpAny_bind (J.type.here ?_)
  split
  · rename_i q
    exact absurd q (by simp)
  · refine wpAny_bind (wpAny_pure ?_)
    simp only [Bool.false_eq_true, if_false, Bool.not_false, if_true]
    refine wpAny_bind (m := tryCompare (.ref x) _ (.ref y)) (wpAny_mono (eqo_try X I O J.at_ ne) (fun r s1 z => ?_) fun _ _ e => e)
    obtain ⟨z1, z2⟩ := z
    subst z1
    subst z2
    refine wpAny_bind (m := tryCompare (.ref y) _ (.ref x)) (wpAny_mono (eqo_try X J O I.at_ ne.symm) (fun r s2 z => ?_) fun _ _ e => e)
    obtain ⟨z1, z2⟩ := z
    subst z1
    subst z2
    exact wpAny_bind (wpAny_rule (wpAny_bind (wpAny_isSame_ref_other ne I.at_ J.at_ (ref_no_tup (I := I)) (wpAny_pure h))))
theorem neo_rc {Q : Value → Shared → Prop} (hu : A.units + 1 < cLine) (X : K.In s.heap) (I : PySem.W.InstAt s.heap x ox C od) (J : PySem.W.InstAt s.heap y oy C oe) (O : ObjE K C) (ne : x ≠ y) (h : Q (.bool true) s) : wpAny (model prog w) A (richCompare .NotEq (.ref x) (.ref y)) Q E s := by
  simp only [richCompare, cmpInfo_NotEq, oneThing_ref]
  refine wpAny_holding (wpAny_bind (wpAny_cRoomFor (Nat.lt_of_succ_lt hu) ?_))
  refine wpAny_bind (I.type.here ?_)
  refine wpAny_bind (J.type.here ?_)
  split
  · rename_i q
    exact absurd q (by simp)
  · refine wpAny_bind (wpAny_pure ?_)
    simp only [Bool.false_eq_true, if_false, Bool.not_false, if_true]
    refine wpAny_bind (m := tryCompare (.ref x) _ (.ref y)) (wpAny_mono (neo_try hu X I O J.at_ ne) (fun r s1 z => ?_) fun _ _ e => e)
    obtain ⟨z1, z2⟩ := z
    subst z1
    subst z2
    refine wpAny_bind (m := tryCompare (.ref y) _ (.ref x)) (wpAny_mono (neo_try hu X J O I.at_ ne.symm) (fun r s2 z => ?_) fun _ _ e => e)
    obtain ⟨z1, z2⟩ := z
    subst z1
    subst z2
    exact wpAny_bind (wpAny_rule (wpAny_bind (wpAny_isSame_ref_other ne I.at_ J.at_ (ref_no_tup (I := I)) (wpAny_pure h))))
/-- a tuple's own == declines -/
theorem tup_eq_try {its : List Value} (X : K.In s.heap) (J : PySem.W.InstAt s.heap x ox C od) (O : ObjE K C) (ht : IsTup s.heap y its.toArray) : wpAny (model prog w) A (tryCompare (.ref y) "__eq__" (.ref x)) (fun r s' => r = none ∧ s' = s) E s := by
  obtain ⟨o, ho, hc, n, hd⟩ := ht
  refine wpAny_tryCompare_declines (show s.TypeIs (.ref y) "tuple" from ⟨o, ho, hc⟩) F.slot_tuple_eq ?_
  refine wpAny_call_entry F.slot_tuple_eq (show s.TypeIs (.ref y) "tuple" from ⟨o, ho, hc⟩) F.entry_tuple_eq ?_ (F.args_tuple_eq_2 _ _)
  have isT : PySem.W.Looks (model prog w) s.heap (isInstance (.ref x) (.type "tuple")) false := J.type.andThen (PySem.W.looks_mroIn X O.nt)
  unfold Builtin.«tuple.__eq__»
  refine wpAny_bind (m := slotArgs "__eq__" 1 _) (wpAny_pure ?_)
  refine wpAny_bind (isT.here ?_)
  rw [if_pos (show (!false) = true from rfl)]
  exact wpAny_pure ⟨_, rfl, rfl, rfl, rfl⟩
theorem eqo_tup {its : List Value} {Q : Value → Shared → Prop} (hu : A.units < cLine) (X : K.In s.heap) (I : PySem.W.InstAt s.heap x ox C od) (O : ObjE K C) (ht : IsTup s.heap y its.toArray) (ne : x ≠ y) (h : Q (.bool false) s) : wpAny (model prog w) A (richCompare .Eq (.ref x) (.ref y)) Q E s := by
  obtain ⟨o, ho, hc, _⟩ := id ht
  simp only [richCompare, cmpInfo_Eq, oneThing_ref]
  refine wpAny_holding (wpAny_bind (wpAny_cRoomFor hu ?_))
  refine wpAny_bind (I.type.here ?_)
  refine wpAny_bind (wpAny_typeOf (show s.TypeIs (.ref y) "tuple" from ⟨o, ho, hc⟩) ?_)
  split
  · refine wpAny_bind ((PySem.W.looks_subIn X far_tuple).here ?_)
    simp only [Bool.false_eq_true, if_false, Bool.not_false, if_true]
    refine wpAny_bind (m := tryCompare (.ref x) _ (.ref y)) (wpAny_mono (eqo_try X I O ho ne) (fun r s1 z => ?_) fun _ _ e => e)
    obtain ⟨z1, z2⟩ := z
    subst z1
    subst z2
    refine wpAny_bind (m := tryCompare (.ref y) _ (.ref x)) (wpAny_mono (tup_eq_try X I O ht) (fun r s2 z => ?_) fun _ _ e => e)
    obtain ⟨z1, z2⟩ := z
    subst z1
    subst z2
    exact wpAny_bind (wpAny_rule (wpAny_bind (wpAny_isSame_ref_other ne I.at_ ho (ref_no_tup (I := I)) (wpAny_pure h))))
  · rename_i q
    exact absurd (by simp) q
end
section
variable {X : Cx} {n : Nat} {C N f : Addr} {fd : FuncData} {ps : List Str} {sp : Sp}
def rObj (C : Addr) (r : Bool) : R2 := fun x y H Q => ∃ (a b da db : Addr) (fa fb : List (Str × V)), x = .ref a ∧ y = .ref b ∧ a ≠ b ∧ H a = some (.ins C da fa) ∧ H b = some (.ins C db fb) ∧ Q (.bl r) H
theorem op_eqObj (hu : X.A.units + 64 < cLine) (O : ObjE X.K C) : OpR X (compareOp .Eq) (rObj C false) := by
  intro pins s σ H x y v u Q I rx ry h
  obtain ⟨a, b, da, db, fa, fb, rfl, rfl, ne, ha, hb, q⟩ := h
  cases rx
  cases ry
  obtain ⟨m1, J, _⟩ := ins_get I.hok ha
  obtain ⟨od, J, _⟩ := J.look
  obtain ⟨m2, J2, _⟩ := ins_get I.hok hb
  obtain ⟨oe, J2, _⟩ := J2.look
  exact eqo_rc (by omega) I.kIn J J2 O ne ⟨.bl false, H, I, rfl, q⟩
theorem op_neObj (hu : X.A.units + 64 < cLine) (O : ObjE X.K C) : OpR X (compareOp .NotEq) (rObj C true) := by
  intro pins s σ H x y v u Q I rx ry h
  obtain ⟨a, b, da, db, fa, fb, rfl, rfl, ne, ha, hb, q⟩ := h
  cases rx
  cases ry
  obtain ⟨m1, J, _⟩ := ins_get I.hok ha
  obtain ⟨od, J, _⟩ := J.look
  obtain ⟨m2, J2, _⟩ := ins_get I.hok hb
  obtain ⟨oe, J2, _⟩ := J2.look
  exact neo_rc (by omega) I.kIn J J2 O ne ⟨.bl true, H, I, rfl, q⟩
def rObjNon (C : Addr) : R2 := fun x y H Q => ∃ (a da : Addr) (fa : List (Str × V)), x = .ref a ∧ y = .non ∧ H a = some (.ins C da fa) ∧ Q (.bl false) H
theorem op_eqObjNon (hu : X.A.units + 64 < cLine) (O : ObjE X.K C) : OpR X (compareOp .Eq) (rObjNon C) := by
  intro pins s σ H x y v u Q I rx ry h
  obtain ⟨a, da, fa, rfl, rfl, ha, q⟩ := h
  cases rx
  cases ry
  obtain ⟨m1, J, _⟩ := ins_get I.hok ha
  obtain ⟨od, J, _⟩ := J.look
  exact HN.rc_none (by omega) I.kIn J O.ob O.eq _ _ _ _ ⟨.bl false, H, I, rfl, q⟩
def rObjTup (C : Addr) : R2 := fun x y H Q => ∃ (a b da : Addr) (fa : List (Str × V)) (ys : List V), x = .ref a ∧ y = .ref b ∧ H a = some (.ins C da fa) ∧ H b = some (.tup ys) ∧ Q (.bl false) H
theorem op_eqObjTup (hu : X.A.units + 64 < cLine) (O : ObjE X.K C) : OpR X (compareOp .Eq) (rObjTup C) := by
  intro pins s σ H x y v u Q I rx ry h
  obtain ⟨a, b, da, fa, ys, rfl, rfl, ha, hb, q⟩ := h
  cases rx
  cases ry
  obtain ⟨m1, J, _⟩ := ins_get I.hok ha
  obtain ⟨od, J, _⟩ := J.look
  obtain ⟨_, its, _, ht⟩ := (show ObjOk X.prog X.w H s.heap b (.tup ys) from I.hok b _ hb)
  exact eqo_tup (by omega) I.kIn J O ht (fun z => by rw [z, hb] at ha; cases ha) ⟨.bl false, H, I, rfl, q⟩
/-- the other thing's own == is asked -/
def rObjOwn (C N : Addr) (sp : Sp) : R2 := fun x y H Q => ∃ (a b da db : Addr) (fa fb : List (Str × V)), x = .ref a ∧ y = .ref b ∧ H a = some (.ins C da fa) ∧ H b = some (.ins N db fb) ∧ sp [.ref b, .ref a] H (fun v G => ∃ r, v = .bl r ∧ Q (.bl r) G) E0
theorem op_eqObjOwn (F : FnOk X.prog X.w X.K X.mg X.base CX0 n f fd ps sp) (hb : Binds X.K fd ps []) (hr : Room n X.A) (hs : PySem.W.findIn X.K (.ref N) "__eq__" = some (some (.ref f))) (hf : PySem.W.isFn X.K (.ref f) = true) (O : ObjE X.K C) (CN : C ≠ N) (nf : PySem.W.mroIn X.K N (.ref C) = some false) : OpR X (compareOp .Eq) (rObjOwn C N sp) := by
  intro pins s σ H x y v u Q I rx ry h
  obtain ⟨a, b, da, db, fa, fb, rfl, rfl, ha, hb2, want⟩ := h
  cases rx
  cases ry
  have ne : a ≠ b := fun z => by
    rw [z, hb2] at ha
    injection ha with ha
    injection ha with e _ _
    exact CN e.symm
  obtain ⟨m1, J, _⟩ := ins_get I.hok ha
  obtain ⟨od, J, _⟩ := J.look
  obtain ⟨m2, J2, _⟩ := ins_get I.hok hb2
  obtain ⟨oe, J2, _⟩ := J2.look
  show wpAny (model X.prog X.w) X.A (richCompare .Eq (.ref a) (.ref b)) (EP X pins σ Q) X.xe s
  simp only [richCompare, cmpInfo_Eq, oneThing_ref]
  refine wpAny_holding (wpAny_bind (wpAny_cRoomFor hr.units0 ?_))
  refine wpAny_bind (J.type.here ?_)
  refine wpAny_bind (J2.type.here ?_)
  split
  · refine wpAny_bind ((PySem.W.looks_subIn I.kIn (show PySem.W.subIn X.K (.ref N) (.ref C) = some false from nf)).here ?_)
    simp only [Bool.false_eq_true, if_false, Bool.not_false, if_true]
    refine wpAny_bind (m := tryCompare (.ref a) _ (.ref b)) (wpAny_mono (eqo_try I.kIn J O J2.at_ ne) (fun r s1 z => ?_) fun _ _ e => e)
    obtain ⟨z1, z2⟩ := z
    subst z1
    subst z2
    refine wpAny_bind (m := tryCompare (.ref b) _ (.ref a)) ?_
    unfold tryCompare
    refine wpAny_bind (PySem.W.ifBound_K I.kIn J2 hs hf (wpAny_mono (run_two (R := fun b G => Q (.bl b) G) F hb hr rfl I (y := .ref a) rfl want) (fun r s1 h1 => ?_) fun _ _ e => e))
    obtain ⟨b, rfl, G, I1, q⟩ := h1
    exact wpAny_pure (wpAny_pure ⟨.bl b, G, I1, rfl, q⟩)
  · rename_i q
    exact absurd (by simp [CN]) q
end
end Gu
namespace Gu
open PySem PySem.Spec PyProof PyProof.Rows L2
/-! ### _law_asked of k61 -/
structure ShlV (P : Program) (w : World) (K : PySem.W.Frag) (mg : Str → Option Value) (base : Heap) (C N : Addr) : Prop where
  len : ∃ (f : Addr) (fd : FuncData), FnOk P w K mg base CX0 1 f fd ps_Shelf_len (spLenS C N) ∧ Binds K fd ps_Shelf_len [] ∧ PySem.W.findIn K (.ref C) "__len__" = some (some (.ref f)) ∧ PySem.W.isFn K (.ref f) = true
  rep : ∃ (f : Addr) (fd : FuncData), FnOk P w K mg base CX0 1 f fd ps_Shelf_repr (spReprS C N) ∧ Binds K fd ps_Shelf_repr [] ∧ PySem.W.findIn K (.ref C) "__repr__" = some (some (.ref f)) ∧ PySem.W.isFn K (.ref f) = true
  nb : PySem.W.findIn K (.ref C) "__bool__" = some none
  rn : ∃ (f : Addr) (fd : FuncData), FnOk P w K mg base CX0 1 f fd ps_Namer_repr (spReprN N) ∧ Binds K fd ps_Namer_repr [] ∧ PySem.W.findIn K (.ref N) "__repr__" = some (some (.ref f)) ∧ PySem.W.isFn K (.ref f) = true
def askedL (S : Sf) : List PyData := [.tuple ((S.ps.map (·.1)).map PyData.str), .tuple ((S.ps.map (·.2)).map PyData.str), .bool S.busy, .int (S.ps.length : Nat), .str (shelfLine S.ps.length), .str (nline S.so S.w), .bool (((S.ps.length : Nat) : Int) != 0)]
def askedD (S : Sf) : PyData := .list (askedL S)
theorem asked_fine {S : Sf} (ok : S.ok) : Fine 60 100000 (askedD S) := by
  have a : ∀ c ∈ abc.cps.toList, c < 16 ^ 8 := by decide +kernel
  have pl := ok.ps.len
  have h1 : FineAll 0 203 ((S.ps.map (·.1)).map PyData.str) := FineAll.of fun d hd => by
    obtain ⟨y, hy, rfl⟩ := List.mem_map.mp hd
    obtain ⟨q, hq, rfl⟩ := List.mem_map.mp hy
    have w := (ok.ps.wd q hq).1
    exact Fine.str (fun c hc => a c (w.sgn c hc)) (Nat.le_trans w.len (by decide))
  have h2 : FineAll 0 203 ((S.ps.map (·.2)).map PyData.str) := FineAll.of fun d hd => by
    obtain ⟨y, hy, rfl⟩ := List.mem_map.mp hd
    obtain ⟨q, hq, rfl⟩ := List.mem_map.mp hy
    have w := (ok.ps.wd q hq).2
    exact Fine.str (fun c hc => a c (w.sgn c hc)) w.len
  have l1 : ((S.ps.map (·.1)).map PyData.str).length = S.ps.length := by rw [List.length_map, List.length_map]
  have l2 : ((S.ps.map (·.2)).map PyData.str).length = S.ps.length := by rw [List.length_map, List.length_map]
  have b1 : S.ps.length * (203 + 1) ≤ 5000 := by omega
  have f3 : Fine 1 5000 (.int ((S.ps.length : Nat) : Int)) := (Fine.int (show ((S.ps.length : Nat) : Int).natAbs < 2 ^ 70 by omega)).mono (by decide) (by decide)
  have f5 : Fine 1 5000 (.str (shelfLine S.ps.length)) := by
    have e : ∀ n ∈ List.range 21, (shelfLine n).cps.toList.length ≤ 100 ∧ ∀ c ∈ (shelfLine n).cps.toList, c < 16 ^ 8 := by decide +kernel
    obtain ⟨e1, e2⟩ := e S.ps.length (List.mem_range.mpr (by omega))
    exact (Fine.str e2 e1).mono (by decide) (by decide)
  have f6 : Fine 1 5000 (.str (nline S.so S.w)) := by
    have e : ∀ so ∈ sorts, ∀ n ∈ List.range 41, (nline so (n : Int)).cps.toList.length ≤ 100 ∧ ∀ c ∈ (nline so (n : Int)).cps.toList, c < 16 ^ 8 := by decide +kernel
    have w0 := ok.w0
    have w1 := ok.w1
    obtain ⟨e1, e2⟩ := e S.so ok.so S.w.toNat (List.mem_range.mpr (by omega))
    rw [show ((S.w.toNat : Nat) : Int) = S.w by omega] at e1 e2
    exact (Fine.str e2 e1).mono (by decide) (by decide)
  have all : FineAll 1 5000 (askedL S) := FineAll.of fun d hd => by
    unfold askedL at hd
    simp only [List.mem_cons, List.not_mem_nil, or_false] at hd
    rcases hd with rfl | rfl | rfl | rfl | rfl | rfl | rfl
    · exact h1.tup.mono (by decide) (by rw [l1]; exact b1)
    · exact h2.tup.mono (by decide) (by rw [l2]; exact b1)
    · exact (Fine.bool _).mono (by decide) (by decide)
    · exact f3
    · exact f5
    · exact f6
    · exact (Fine.bool _).mono (by decide) (by decide)
  exact all.list.mono (by decide) (by show 7 * (5000 + 1) ≤ 100000; decide)
/-! how long what is shown is -/
theorem listText_len (t : Str) (r : List Str) : (listText (t :: r)).length = piled (t :: r) := by
  have h := textFrom_length_pos r 1 (("[" : Str) ++ (if (0 : Nat) > 0 then ", " else "" : String) ++ t) (Nat.succ_pos 0)
  have e : ((("[" : Str) ++ (if (0 : Nat) > 0 then ", " else "" : String) ++ t)).length = 1 + t.length := by
    rw [strLen_append, strLen_append]; rfl
  have hX : (listText (t :: r)).length = (textFrom 0 "[" (t :: r)).length + 1 := by
    show (textFrom 0 "[" (t :: r) ++ "]").length = _
    rw [strLen_append]; rfl
  have hY : (textFrom 0 "[" (t :: r)).length = (textFrom 1 (("[" : Str) ++ (if (0 : Nat) > 0 then ", " else "" : String) ++ t) r).length := rfl
  rw [hX, hY, h, e, piled_cons]
  omega
theorem tupleText_more (t : Str) (r : List Str) : (tupleText r).length + 1 + t.length ≤ (tupleText (t :: r)).length := by
  have len : ∀ ts : List Str, (tupleText ts).length = 1 + (Str.join ", " ts).length + (if ts.length = 1 then 2 else 1) := fun ts => by
    unfold tupleText
    rw [strLen_append, strLen_append]
    by_cases h : ts.length = 1
    · rw [if_pos h, if_pos (by rw [h]; rfl)]
      rfl
    · rw [if_neg h, if_neg (by simpa using h)]
      rfl
  rw [len, len]
  match r with
  | [] =>
    show 1 + (Str.empty).length + 1 + 1 + t.length ≤ 1 + t.length + 2
    show 1 + 0 + 1 + 1 + t.length ≤ 1 + t.length + 2
    omega
  | u :: r =>
    have a := join_length_add (u :: r) (by simp)
    have b := join_length_add (t :: u :: r) (by simp)
    rw [piled_cons] at b
    have c : (if (t :: u :: r).length = 1 then 2 else 1 : Nat) = 1 := if_neg (by simp)
    have d : (if (u :: r).length = 1 then 2 else 1 : Nat) ≤ 2 := by split <;> omega
    rw [c]
    omega
theorem shownAll_map (ys : List Str) : PyData.shownAll (ys.map PyData.str) = ys.map reprText := by
  induction ys with
  | nil => rfl
  | cons y ys ih =>
    show PyData.shown (.str y) :: PyData.shownAll (ys.map PyData.str) = _
    rw [ih]
    rfl
theorem asked_len (S : Sf) : (askedD S).shown.length = (tupleText ((S.ps.map (·.1)).map reprText)).length + (tupleText ((S.ps.map (·.2)).map reprText)).length + (PyData.bool S.busy).shown.length + (PyData.int (S.ps.length : Nat)).shown.length + (reprText (shelfLine S.ps.length)).length + (reprText (nline S.so S.w)).length + (PyData.bool (((S.ps.length : Nat) : Int) != 0)).shown.length + 14 := by
  show (listText [PyData.shown (.tuple ((S.ps.map (·.1)).map PyData.str)), PyData.shown (.tuple ((S.ps.map (·.2)).map PyData.str)), PyData.shown (.bool S.busy), PyData.shown (.int (S.ps.length : Nat)), reprText (shelfLine S.ps.length), reprText (nline S.so S.w), PyData.shown (.bool (((S.ps.length : Nat) : Int) != 0))]).length = _
  rw [listText_len]
  simp only [piled_cons, piled_nil]
  show (tupleText (PyData.shownAll _)).length + 2 + ((tupleText (PyData.shownAll _)).length + 2 + _) = _
  rw [shownAll_map, shownAll_map]
  omega
theorem asked_less {S : Sf} {q : Str × Str} {r : Prs} (e : S.ps = q :: r) (l : S.ps.length ≤ 9) {past : List Prs} : (askedD { S with ps := r, past := past }).shown ≠ (askedD S).shown := fun h => by
  have h := congrArg Str.length h
  rw [asked_len, asked_len, e] at h
  rw [e] at l
  simp only [List.map_cons, List.length_cons] at h l
  have a := tupleText_more (reprText q.1) ((r.map (·.1)).map reprText)
  have b := tupleText_more (reprText q.2) ((r.map (·.2)).map reprText)
  have c : ∀ n ∈ List.range 9, (PyData.int (n : Nat)).shown.length = (PyData.int ((n + 1 : Nat) : Int)).shown.length ∧ (reprText (shelfLine n)).length = (reprText (shelfLine (n + 1))).length ∧ (PyData.bool (((n : Nat) : Int) != 0)).shown.length ≤ 5 ∧ (PyData.bool (((n + 1 : Nat) : Int) != 0)).shown.length = 4 := by decide +kernel
  obtain ⟨c1, c2, c3, c4⟩ := c r.length (List.mem_range.mpr (by omega))
  omega
section
variable {P : Program} {w : World} {K : PySem.W.Frag} {mg : Str → Option Value} {base : Heap} {C N : Addr}
def spAsked61 (C N : Addr) : Sp := fun vs H Q _ => ∃ (s : Addr) (S : Sf), vs = [.ref s] ∧ ShelfAt C N H s S ∧ S.ok ∧ ∀ G, Same H G → Q (.str (askedD S).shown) G
set_option maxHeartbeats 4000000 in
theorem cal_asked61 (B : Bi mg) (Z : ShlC K mg C) (W : ShlV P w K mg base C N) (D : At K mg "_law_asked" s_law_asked ps_law_asked) : CalG P w K mg base 5 "_law_asked" ps_law_asked (spAsked61 C N) := by
  obtain ⟨fL, fdL, FL, bL, sL, iL⟩ := W.len
  obtain ⟨fR, fdR, FR, bR, sR, iR⟩ := W.rep
  obtain ⟨fN, fdN, FN, bN, sN, iN⟩ := W.rn
  have nB := W.nb
  refine D.calG sc_law_asked (fun vs H Q E h => ?_) (fun f cdv A outer s0 H vs Q E hr quiet h => ?_)
  · obtain ⟨s, S, rfl, _⟩ := h
    rfl
  · obtain ⟨s, S, rfl, hS, ok, k⟩ := h
    have hr1 := hr.mono (show 2 ≤ 4 by decide)
    have hr3 := hr.mono (show 4 ≤ 4 by decide)
    refine ⟨_, (pss_one (ps_ret (pe_callB (call_reprD quiet hr.units) (by rfl) B.repr (by decide +kernel) (pa_cons (pe_lst (pa_cons (pe_fld (pv 0) rfl) (pa_cons (pe_fld (pv 0) rfl) (pa_cons (pe_fld (pv 0) rfl) (pa_cons (pe_callB (call_lenOwn (C := C) FL bL hr1 sL iL) (by rfl) B.len (by decide +kernel) (pa_cons (pv 0) pa_nil)) (pa_cons (pe_callB (call_reprOwn (C := C) FR bR hr1 sR iR) (by rfl) B.repr (by decide +kernel) (pa_cons (pv 0) pa_nil)) (pa_cons (pe_callB (call_reprOwn (C := N) FN bN hr1 sN iN) (by rfl) B.repr (by decide +kernel) (pa_cons (pe_fld (pv 0) rfl) pa_nil)) (pa_cons (pe_callTy (call_boolLen (C := C) FL bL hr3 nB sL iL) (by rfl) B.bool (by decide +kernel) (pa_cons (pv 0) pa_nil)) pa_nil)))))))) pa_nil)))), ?_⟩
    obtain ⟨dx, n, a, b, c, e0, e1, e2, e3, e4⟩ := id hS.ex
    obtain ⟨dn, en⟩ := id e1
    have pl := ok.ps.len
    have lz : (0 : Int) ≤ ((S.ps.length : Nat) : Int) ∧ ((S.ps.length : Nat) : Int) < 2 ^ 63 := ⟨by omega, by omega⟩
    refine ⟨_, rfl, s, C, dx, _, _, rfl, e0, Z.cl, Z.nT, sf_texts, _, rfl, s, C, dx, _, _, rfl, e0, Z.cl, Z.nM, sf_names, _, rfl, s, C, dx, _, _, rfl, e0, Z.cl, Z.nB, sf_busy, _, rfl, s, dx, _, rfl, e0, s, S, rfl, hS, ok, _, rfl, lz, _, rfl, s, dx, _, rfl, e0, s, S, rfl, hS, ok, _, rfl, _, rfl, s, C, dx, _, _, rfl, e0, Z.cl, Z.nN, sf_namer, ?_⟩
    refine ⟨n, dn, _, rfl, en, n, S.so, S.w, rfl, e1, ok.so, ok.w0, ok.w1, _, rfl, _, rfl, s, dx, _, rfl, e0, s, S, rfl, hS, ok, _, rfl, lz, by show 7 ≤ sizeLine; decide, fun r nr => ?_⟩
    generalize hG : upd H r _ = G
    have sr : Same H G := hG ▸ same_new nr
    have er : G r = some (.lst [.ref a, .ref b, .bl S.busy, .int ((S.ps.length : Nat) : Int), .str (shelfLine S.ps.length), .str (nline S.so S.w), .bl (((S.ps.length : Nat) : Int) != 0)]) := by rw [← hG]; exact upd_same
    clear hG
    refine ⟨r, askedD S, rfl, .lst (.inl (.inl er)) (.cons (.tup (.inl (.inl (sr _ _ e2))) (dp_strs _)) (.cons (.tup ((e3.same sr).sq) (dp_strs _)) (.cons (.bl _) (.cons (.int _) (.cons (.str _) (.cons (.str _) (.cons (.bl _) .nil))))))), asked_fine ok, k G sr⟩
end
end Gu
namespace Gu
open PySem PySem.Spec PyProof PyProof.Rows L2
/-! ### two shelves as values -/
theorem iteBF {c : Bool} {a b : Prop} (h : c = false) (k : b) : if c = true then a else b := by
  rw [h, if_neg (by decide)]
  exact k
theorem iteB {c : Bool} {a b : Prop} (h : c = true) (k : a) : if c = true then a else b := by
  rw [if_pos h]
  exact k
def two61 (ps : Prs) : PyData := .list [.tuple ((ps.map (·.1)).map PyData.str), .tuple ((ps.map (·.2)).map PyData.str)]
theorem two_fine {ps : Prs} (ok : PrsOk ps) : Fine 60 100000 (two61 ps) := by
  have a : ∀ c ∈ abc.cps.toList, c < 16 ^ 8 := by decide +kernel
  have pl := ok.len
  have h1 : FineAll 0 203 ((ps.map (·.1)).map PyData.str) := FineAll.of fun d hd => by
    obtain ⟨y, hy, rfl⟩ := List.mem_map.mp hd
    obtain ⟨q, hq, rfl⟩ := List.mem_map.mp hy
    have w := (ok.wd q hq).1
    exact Fine.str (fun c hc => a c (w.sgn c hc)) (Nat.le_trans w.len (by decide))
  have h2 : FineAll 0 203 ((ps.map (·.2)).map PyData.str) := FineAll.of fun d hd => by
    obtain ⟨y, hy, rfl⟩ := List.mem_map.mp hd
    obtain ⟨q, hq, rfl⟩ := List.mem_map.mp hy
    have w := (ok.wd q hq).2
    exact Fine.str (fun c hc => a c (w.sgn c hc)) w.len
  have l1 : ((ps.map (·.1)).map PyData.str).length = ps.length := by rw [List.length_map, List.length_map]
  have l2 : ((ps.map (·.2)).map PyData.str).length = ps.length := by rw [List.length_map, List.length_map]
  have b1 : ps.length * (203 + 1) ≤ 5000 := by omega
  have all : FineAll 1 5000 [.tuple ((ps.map (·.1)).map PyData.str), .tuple ((ps.map (·.2)).map PyData.str)] := FineAll.of fun d hd => by
    simp only [List.mem_cons, List.not_mem_nil, or_false] at hd
    rcases hd with rfl | rfl
    · exact h1.tup.mono (by decide) (by rw [l1]; exact b1)
    · exact h2.tup.mono (by decide) (by rw [l2]; exact b1)
  exact all.list.mono (by decide) (by show 2 * (5000 + 1) ≤ 100000; decide)
theorem dp_nums61 {K : PySem.W.Frag} {H : Hp} : ∀ o : List Nat, DpAll K H (nums o) (o.map fun i : Nat => PyData.int i)
  | [] => .nil
  | _ :: r => .cons (.int _) (dp_nums61 r)
theorem shaped_nums61 {o : List Nat} (h : ∀ i ∈ o, i < 6) : SeqAt.shaped (.tuple (o.map fun i : Nat => PyData.int i)) = true := shaped_of (ds := o.map fun i : Nat => PyData.int i) fun d hd => by
  obtain ⟨i, hi, rfl⟩ := List.mem_map.mp hd
  have a : ∀ i ∈ List.range 6, (PyData.int (i : Nat)).canLay0 = true ∧ (PyData.int (i : Nat)).depth ≤ 10 := by decide +kernel
  exact a i (List.mem_range.mpr (h i hi))
theorem shT61 {n : Nat} {ys : List Str} (h : ∀ y ∈ ys, Wd n y) : SeqAt.shaped (.tuple (ys.map PyData.str)) = true := shaped_of (ds := ys.map PyData.str) fun d hd => by
  obtain ⟨y, hy, rfl⟩ := List.mem_map.mp hd
  exact ⟨wd_lay (h y hy), Nat.zero_le _⟩
theorem poss_wd {so : Str} {w : Int} {ts : List Str} {a : Nat} (l : ts.length ≤ 6) (wt : ∀ t ∈ ts, Wd 200 t) (w0 : 0 ≤ w) (w1 : w ≤ 40) (ha : a < ts.length) {k : Str} (h : k ∈ possOf so w ts a) : Wd 42 k := by
  unfold possOf at h
  obtain ⟨o, ho, rfl⟩ := List.mem_map.mp h
  obtain ⟨lt, ol⟩ := ord_lt l ho
  have h1 := (ord_has l ho ha).1
  have nn : (namesOf so w (pick ts o)).length = ts.length := by rw [names_len, pick_len, ol]
  unfold nameIn
  rw [List.getElem?_eq_getElem (by omega)]
  exact names_short (by rw [pick_len]; omega) (pick_wd lt wt) w0 w1 _ (List.getElem_mem _)
theorem ref_at61 {qs : List (Addr × Prs)} {i : Nat} {v : V} (h : (qs.map fun q => V.ref q.1)[i]? = some v) : ∃ q, qs[i]? = some q ∧ v = .ref q.1 ∧ q ∈ qs := by
  rw [List.getElem?_map] at h
  cases e : qs[i]? with
  | none =>
    rw [e] at h
    cases h
  | some q =>
    rw [e] at h
    cases h
    exact ⟨q, rfl, rfl, List.mem_of_getElem? e⟩
/-- what is no instance stands -/
def KI (J G : Hp) : Prop := ∀ x o, J x = some o → (∀ a b c, o ≠ .ins a b c) → G x = some o
def One61 (J : Hp) (t u : Addr) (ps : Prs) : Prop := ∃ b x y, b ≠ t ∧ J u = some (.tup [.ref b, .str (two61 ps).shown]) ∧ J b = some (.lst [.ref x, .ref y]) ∧ J x = some (.tup (txts ps)) ∧ FT J y (nms ps)
def Told61 (J : Hp) (t : Addr) (qs : List (Addr × Prs)) : Prop := J t = some (.lst (qs.map fun q => V.ref q.1)) ∧ ∀ q ∈ qs, PrsOk q.2 ∧ One61 J t q.1 q.2
def E0S (so : Str) (w : Int) : Sf := ⟨so, w, [], [], false⟩
theorem e0_ok {so : Str} {w : Int} (h : so ∈ sorts) (w0 : 6 ≤ w) (w1 : w ≤ 40) : (E0S so w).ok := ⟨h, w0, w1, ⟨Nat.zero_le _, fun q hq => by cases hq⟩, (fun ps hps => by cases hps), Nat.zero_le _⟩
structure B61 (C N : Addr) (H J : Hp) (p s1 s2 x1 x2 Y F : Addr) (so : Str) (wd : Int) (ts : List Str) (S1 S2 : Sf) : Prop where
  la : Ladled p H J
  h1 : ShelfAt C N J s1 S1
  h2 : ShelfAt C N J s2 S2
  e12 : s1 ≠ s2
  z1 : H s1 = none
  z2 : H s2 = none
  m1 : NmAt N J x1 so wd
  m2 : NmAt N J x2 so wd
  eY : J Y = some (.tup (ts.map V.str))
  eF : J F = some (.tup [])
structure Came (so : Str) (w : Int) (ts : List Str) (S : Sf) : Prop where
  ok : S.ok
  eso : S.so = so
  ew : S.w = w
  ps : S.ps = pairsOf so w ts
  bz : S.busy = false
  pa : S.past.length = ts.length
theorem Came.nil {so : Str} {w : Int} (h : so ∈ sorts) (w0 : 6 ≤ w) (w1 : w ≤ 40) : Came so w [] (E0S so w) := ⟨e0_ok h w0 w1, rfl, rfl, rfl, rfl, rfl⟩
theorem Came.next {so : Str} {w : Int} {ts : List Str} {S : Sf} {t : Str} (h : Came so w ts S) (l : ts.length < 6) (wt : Wd 200 t) : Came so w (ts ++ [t]) (S.come t) := by
  have pl : S.ps.length < 20 := by
    rw [h.ps, pairsOf_len]
    omega
  refine ⟨Sf.come_ok h.ok pl wt (by rw [h.pa]; omega), h.eso, h.ew, ?_, h.bz, ?_⟩
  · show S.ps ++ [(t, nameOf S.so S.w t S.ps)] = _
    rw [h.eso, h.ew, h.ps, pairsOf_snoc]
  · show (S.past ++ [S.ps]).length = _
    rw [List.length_append, List.length_append, h.pa, List.length_singleton, List.length_singleton]
section
variable {C N p s s1 s2 x1 x2 Y F a t u : Addr} {H J G L : Hp} {so : Str} {wd : Int} {ts : List Str} {S S1 S2 S' : Sf} {xs : List V} {ps : Prs} {qs : List (Addr × Prs)}
theorem Ladled.via (L : Ladled p H J) (n : H s = none) (k : Kp [s] J G) (hp : Pot G p) : Ladled p H G := ⟨hp, fun b o e ne => k b o (L.keep b o e ne) fun z => by
  rw [List.mem_singleton.mp z, n] at e
  cases e⟩
theorem shelf_no_pot (h : ShelfAt C N J s S) (hp : Pot J p) : s ≠ p := fun z => by
  obtain ⟨x, y, d, f⟩ := hp
  obtain ⟨_, _, _, _, _, e, _⟩ := h.ex
  rw [z, f] at e
  cases e
theorem same_via {x : Addr} (nx : H x = none) (s : Same H J) (k : Kp [x] J G) : Same H G := fun b o e => k b o (s b o e) fun z => by
  rw [List.mem_singleton.mp z, nx] at e
  cases e
theorem KI.same (k : Same J G) : KI J G := fun x o e _ => k x o e
theorem KI.trans (a : KI J G) (b : KI G L) : KI J L := fun x o e n => b x o (a x o e n) n
theorem KI.sh (h : ShelfAt C N J s S) (k : Kp [s] J G) : KI J G := fun x o e n => k x o e fun z => by
  obtain ⟨dx, _, _, _, _, f, _⟩ := h.ex
  rw [List.mem_singleton.mp z, f] at e
  exact n _ _ _ (Option.some.inj e).symm
theorem KI.tup (k : KI J G) (e : J a = some (.tup xs)) : G a = some (.tup xs) := k _ _ e fun _ _ _ z => by cases z
theorem KI.lst (k : KI J G) (e : J a = some (.lst xs)) : G a = some (.lst xs) := k _ _ e fun _ _ _ z => by cases z
theorem KI.ft (k : KI J G) (h : FT J a xs) : FT G a xs := by
  obtain ⟨o, e, r⟩ := h
  exact ⟨o, k _ _ e (fun _ _ _ z => by cases z), r⟩
theorem One61.ki (k : KI J G) (h : One61 J t u ps) : One61 G t u ps := by
  obtain ⟨b, x, y, n, e1, e2, e3, e4⟩ := h
  exact ⟨b, x, y, n, k.tup e1, k.lst e2, k.tup e3, k.ft e4⟩
theorem ft_app {y : Addr} {zs xs : List V} {o : HO} (e : J t = some (.lst zs)) (h : FT J y xs) : FT (upd J t o) y xs := by
  obtain ⟨f, e1, r⟩ := h
  refine ⟨f, ?_, r⟩
  rw [upd_ne fun z => by rw [z, e] at e1; cases e1]
  exact e1
theorem tup_app {x : Addr} {zs xs : List V} {o : HO} (e : J t = some (.lst zs)) (h : J x = some (.tup xs)) : upd J t o x = some (.tup xs) := by
  rw [upd_ne fun z => by rw [z, e] at h; cases h]
  exact h
theorem One61.app {zs : List V} {o : HO} (e : J t = some (.lst zs)) (h : One61 J t u ps) : One61 (upd J t o) t u ps := by
  obtain ⟨b, x, y, n, e1, e2, e3, e4⟩ := h
  exact ⟨b, x, y, n, tup_app e e1, by rw [upd_ne n]; exact e2, tup_app e e3, ft_app e e4⟩
theorem Told61.more {b x y : Addr} (h : Told61 J t qs) (ok : PrsOk ps) (n : b ≠ t) (e1 : J u = some (.tup [.ref b, .str (two61 ps).shown])) (e2 : J b = some (.lst [.ref x, .ref y])) (e3 : J x = some (.tup (txts ps))) (e4 : FT J y (nms ps)) : Told61 (upd J t (.lst ((qs.map fun q => V.ref q.1) ++ [.ref u]))) t (qs ++ [(u, ps)]) := by
  refine ⟨by rw [upd_same, List.map_append]; rfl, fun q hq => ?_⟩
  rcases List.mem_append.mp hq with hq | hq
  · exact ⟨(h.2 q hq).1, (h.2 q hq).2.app h.1⟩
  · rw [List.mem_singleton.mp hq]
    exact ⟨ok, One61.app h.1 ⟨b, x, y, n, e1, e2, e3, e4⟩⟩
theorem Told61.ki (k : KI J G) (h : Told61 J t qs) : Told61 G t qs := ⟨k.lst h.1, fun q hq => ⟨(h.2 q hq).1, (h.2 q hq).2.ki k⟩⟩
theorem nm_sh61 (h : ShelfAt C N J s S) (k : Kp [s] J G) {x : Addr} (m : NmAt N J x so wd) : NmAt N G x so wd := by
  have n : x ∉ [s] := Muts.nm (C := C) (N := N) (l := [s]) (fun b hb => .inr ⟨S, by rw [List.mem_singleton.mp hb]; exact h⟩) m
  obtain ⟨d, e⟩ := m
  exact ⟨d, k _ _ e n⟩
theorem B61.same (b : B61 C N H J p s1 s2 x1 x2 Y F so wd ts S1 S2) (k : Same J G) : B61 C N H G p s1 s2 x1 x2 Y F so wd ts S1 S2 :=
  ⟨b.la.same k, b.h1.same k, b.h2.same k, b.e12, b.z1, b.z2, b.m1.same k, b.m2.same k, k _ _ b.eY, k _ _ b.eF⟩
theorem B61.mut {zs : List V} {o : HO} (b : B61 C N H J p s1 s2 x1 x2 Y F so wd ts S1 S2) (e : J t = some (.lst zs)) (n : H t = none) (np : t ≠ p) : B61 C N H (upd J t o) p s1 s2 x1 x2 Y F so wd ts S1 S2 := by
  have nm : ∀ {x : Addr}, NmAt N J x so wd → NmAt N (upd J t o) x so wd := fun ⟨dd, f⟩ => ⟨dd, by rw [upd_ne fun z => by rw [z, e] at f; cases f]; exact f⟩
  exact ⟨b.la.mut n np, b.h1.kpL kp_upd e, b.h2.kpL kp_upd e, b.e12, b.z1, b.z2, nm b.m1, nm b.m2, tup_app e b.eY, tup_app e b.eF⟩
theorem B61.say1 (b : B61 C N H J p s1 s2 x1 x2 Y F so wd ts S1 S2) (k : Kp [s1] J G) (h : ShelfAt C N G s1 S') : B61 C N H G p s1 s2 x1 x2 Y F so wd ts S' S2 :=
  ⟨b.la.via b.z1 k (pot_kp b.la.pot k (shelf_no_pot b.h1 b.la.pot).symm), h, b.h2.kp (fun x hx => .inr ⟨S1, by rw [List.mem_singleton.mp hx]; exact b.h1⟩) k (off1 b.e12.symm), b.e12, b.z1, b.z2, nm_sh61 b.h1 k b.m1, nm_sh61 b.h1 k b.m2, (KI.sh b.h1 k).tup b.eY, (KI.sh b.h1 k).tup b.eF⟩
theorem B61.say2 (b : B61 C N H J p s1 s2 x1 x2 Y F so wd ts S1 S2) (k : Kp [s2] J G) (h : ShelfAt C N G s2 S') : B61 C N H G p s1 s2 x1 x2 Y F so wd ts S1 S' :=
  ⟨b.la.via b.z2 k (pot_kp b.la.pot k (shelf_no_pot b.h2 b.la.pot).symm), b.h1.kp (fun x hx => .inr ⟨S2, by rw [List.mem_singleton.mp hx]; exact b.h2⟩) k (off1 b.e12), h, b.e12, b.z1, b.z2, nm_sh61 b.h2 k b.m1, nm_sh61 b.h2 k b.m2, (KI.sh b.h2 k).tup b.eY, (KI.sh b.h2 k).tup b.eF⟩
end
section
variable {P : Program} {w : World} {K : PySem.W.Frag} {mg : Str → Option Value} {base : Heap} {C N : Addr}
set_option maxHeartbeats 8000000 in
theorem cal_right (B : Bi mg) (Sn : NmC K mg N) (SE : ShE K N) (Z : ShlC K mg C) (W : ShlV P w K mg base C N) (O : ObjE K C) (CN : C ≠ N) (nf : PySem.W.mroIn K N (.ref C) = some false) (nf2 : PySem.W.mroIn K C (.ref N) = some false) (kf : PySem.W.kitOne K (.ref C) (.ref N) = some false) (D : At K mg "_law_right" s_law_right ps_law_right) (C_law_draw : Cal P w K mg base 1 "_law_draw" ps_law_draw spLadle) (C_law_one : Cal P w K mg base 2 "_law_one" ps_law_one (spOneOf K)) (C_law_stem : Cal P w K mg base 2 "_law_stem" ps_law_stem spStem) (C_law_word : Cal P w K mg base 3 "_law_word" ps_law_word (spWord K))
    (M_nm : Mak P w K mg base 2 "Namer" N (spNInit N (NmAt N))) (M_Shelf : Mak P w K mg base 2 "Shelf" C (spShInit C N)) (M_add : CalM P w K mg base 5 C "add" ps_Shelf_add (spAdd C N)) (M_remove : CalM P w K mg base 3 C "remove" ps_Shelf_remove (spRemove C N)) (C_names : Cal P w K mg base 5 "names" ps_names (spNamesP K (NmAt N))) (C_meeting : Cal P w K mg base 6 "meeting" ps_meeting (spMeet K (NmAt N))) (C_possible_names : Cal P w K mg base 6 "possible_names" ps_possible_names (spPoss K (NmAt N))) (C_law_asked : CalG P w K mg base 5 "_law_asked" ps_law_asked (spAsked61 C N))
    {fE : Addr} {fdE : FuncData} (FE : FnOk P w K mg base CX0 1 fE fdE ps_Namer_eq (spEqN K N)) (bE : Binds K fdE ps_Namer_eq []) (sE : PySem.W.findIn K (.ref N) "__eq__" = some (some (.ref fE))) (iE : PySem.W.isFn K (.ref fE) = true) : CalG P w K mg base 8 "_law_right" ps_law_right spRight := by
  obtain ⟨fL, fdL, FL, bL, sL, iL⟩ := W.len
  have nB := W.nb
  refine D.calG sc_law_right (fun vs H Q E h => ?_) (fun f cdv A outer s0 H vs Q E hr quiet h => ?_)
  · obtain ⟨p, rfl, _⟩ := h
    rfl
  · obtain ⟨p, rfl, hp, k⟩ := h
    have hr1 := hr.mono (show 1 ≤ 7 by decide)
    have hr2 := hr.mono (show 2 ≤ 7 by decide)
    have hr3 := hr.mono (show 4 ≤ 7 by decide)
    refine ⟨_, (pss_cons (ps_par (i := 1) (j := 2) (by rfl) sc_law_right.nd rfl rfl (by decide) rfl rfl (pa_cons (pe_own C_law_one hr (by decide) (by rfl) (pa_cons (pv 0) (pa_cons (pe_lst (pa_cons pe_str (pa_cons pe_str (pa_cons pe_str pa_nil)))) pa_nil))) (pa_cons (pe_op op_add pe_int (pe_own C_law_draw hr (by decide) (by rfl) (pa_cons (pv 0) (pa_cons pe_int pa_nil)))) pa_nil)) (by rfl))
      (pss_cons (ps_par (i := 3) (j := 4) (by rfl) sc_law_right.nd rfl rfl (by decide) rfl rfl (pa_cons (pe_new M_nm hr (by decide) (by rfl) (pa_cons (pv 1) (pa_cons (pv 2) pa_nil))) (pa_cons (pe_new M_nm hr (by decide) (by rfl) (pa_cons (pv 1) (pa_cons (pv 2) pa_nil))) pa_nil)) (by rfl))
      (pss_cons (ps_asg (pe_tup (pa_cons (pe_lst (pa_cons (pe_own C_law_stem hr (by decide) (by rfl) (pa_cons (pv 0) (pa_cons pe_int pa_nil))) (pa_cons (pe_own C_law_stem hr (by decide) (by rfl) (pa_cons (pv 0) (pa_cons pe_int pa_nil))) pa_nil))) (pa_cons (pe_new M_Shelf hr (by decide) (by rfl) (pa_cons (pv 3) pa_nil)) (pa_cons (pe_new M_Shelf hr (by decide) (by rfl) (pa_cons (pv 4) pa_nil)) pa_nil)))) (pg_tup rfl (pgs_cons (pg_name (i := 5) sc_law_right.nd rfl (.inr rfl)) (pgs_cons (pg_name (i := 6) sc_law_right.nd rfl (.inl rfl)) (pgs_cons (pg_name (i := 7) sc_law_right.nd rfl (.inl rfl)) pgs_nil)))))
      (pss_cons (ps_if (PW.pt (pw_or (pt_val (pe_callTy (call_boolLen (C := C) FL bL hr3 nB sL iL) (by rfl) B.bool (by decide +kernel) (pa_cons (pv 6) pa_nil))) (pw_or (pt_val (pe_callTy (call_boolLen (C := C) FL bL hr3 nB sL iL) (by rfl) B.bool (by decide +kernel) (pa_cons (pv 7) pa_nil))) (pw_or (pt_cmpR (op_eqObj hr.units O) (pv 6) (pv 7) (nomark _)) (pw_or1 (pt_not (pt_cmpR (op_neObj hr.units O) (pv 6) (pv 7) (nomark _)))))))) (pss_one (ps_ret pe_bl)) pss_nil)
      (pss_cons (ps_par (i := 8) (j := 9) (by rfl) sc_law_right.nd rfl rfl (by decide) rfl rfl (pa_cons (pe_fld (pv 6) rfl) (pa_cons (pe_lst pa_nil) pa_nil)) (by rfl))
      (pss_cons (ps_set (i := 10) sc_law_right.nd rfl (.inl rfl) (pe_callTy call_tuple_of (by rfl) B.tuple (by decide +kernel) (pa_cons (pe_lc (own := [("_law_k", 15)]) (by rfl) sc_law_right.nd (pi_range1 (by rfl) B.range (pa_cons (pe_op op_add pe_int (pe_own C_law_draw hr (by decide) (by rfl) (pa_cons (pv 0) (pa_cons pe_int pa_nil)))) pa_nil)) (blkOk_by (own := [("_law_k", 15)]) (N := ["_law_source_here", "_law_sort", "_law_size", "_law_space", "_law_twin", "_law_stems", "_law_mine", "_law_mate", "_law_first", "_law_told", "_law_line", "_law_text_here", "_law_before", "_law_seen", "_law_turn", "_law_k", "_law_pair"]) (sc := defScope s_law_right) (by decide +kernel)) (fun _ _ _ _ _ => pg_name (i := 15) sc_law_right.nd rfl (.inl rfl)) (fun _ _ _ _ _ => pts_nil) (fun _ _ _ _ _ => (pe_own C_law_word hr (by decide) (by rfl) (pa_cons (pv 0) (pa_cons (pv 5) pa_nil))))) pa_nil)))
      (pss_cons (ps_for PassesOwn.never rfl (pi_tup (pv 10)) (pg_name (i := 11) sc_law_right.nd rfl (.inl rfl))
      (pss_cons (ps_set (i := 12) sc_law_right.nd rfl (.inl rfl) (pe_lst (pa_cons (pe_fld (pv 6) rfl) (pa_cons (pe_fld (pv 6) rfl) pa_nil))))
      (pss_cons (ps_if (pt_cmpR op_ne (pe_mth M_add Z.cl hr (by decide) (pv 6) (pa_cons (pv 11) pa_nil)) (pe_mth M_add Z.cl hr (by decide) (pv 7) (pa_cons (pv 11) pa_nil)) (nomark _)) (pss_one (ps_ret pe_bl)) pss_nil)
      (pss_one (ps_expr (pe_bm PySem.F.plainAttrs_list PySem.F.slot_list_append PySem.F.type_list_append mt_append (pv 9) (pa_cons (pe_tup (pa_cons (pv 12) (pa_cons (pe_callB (call_reprD quiet hr.units) (by rfl) B.repr (by decide +kernel) (pa_cons (pv 12) pa_nil)) pa_nil))) pa_nil)))))))
      (pss_cons (ps_if (PW.pt (pw_or (pt_not (pt_val (pe_callTy (call_boolLen (C := C) FL bL hr3 nB sL iL) (by rfl) B.bool (by decide +kernel) (pa_cons (pv 6) pa_nil)))) (pw_or (pt_cmpR (op_eqObj hr.units O) (pv 6) (pv 7) (nomark _)) (pw_or (pt_cmpR (op_eqObj hr.units O) (pv 7) (pv 6) (nomark _)) (pw_or1 (pt_cmpR op_ne (pe_ownG C_law_asked hr (by decide) quiet (by rfl) (pa_cons (pv 6) pa_nil)) (pe_ownG C_law_asked hr (by decide) quiet (by rfl) (pa_cons (pv 7) pa_nil)) (nomark _))))))) (pss_one (ps_ret pe_bl)) pss_nil)
      (pss_cons (ps_set (i := 13) sc_law_right.nd rfl (.inl rfl) (pe_ownG C_law_asked hr (by decide) quiet (by rfl) (pa_cons (pv 6) pa_nil)))
      (pss_cons (ps_for PassesOwn.never rfl (pi_range1 (by rfl) B.range (pa_cons pe_int pa_nil)) (pg_name (i := 14) sc_law_right.nd rfl (.inl rfl))
      (pss_cons (ps_if (PW.pt (pw_or (pt_cmpR (op_neD hr.units) (pe_own C_names hr (by decide) (by rfl) (pa_cons (pv 3) (pa_cons (pv 10) pa_nil))) (pe_fld (pv 6) rfl) (nomark _)) (pw_or1 (pt_cmpR (op_neD hr.units) (pe_own C_names hr (by decide) (by rfl) (pa_cons (pv 4) (pa_cons (pv 10) pa_nil))) (pe_fld (pv 6) rfl) (nomark _))))) (pss_one (ps_ret pe_bl)) pss_nil)
      (pss_cons (ps_if (pt_cmpR (op_neD hr.units) (pe_own C_meeting hr (by decide) (by rfl) (pa_cons (pv 3) (pa_cons (pv 10) pa_nil))) (pe_own C_meeting hr (by decide) (by rfl) (pa_cons (pv 4) (pa_cons (pv 10) pa_nil))) (nomark _)) (pss_one (ps_ret pe_bl)) pss_nil)
      (pss_one (ps_if (PW.pt (pw_or (pt_cmpR (op_neD hr.units) (pe_own C_possible_names hr (by decide) (by rfl) (pa_cons (pv 3) (pa_cons (pv 10) (pa_cons pe_int pa_nil)))) (pe_own C_possible_names hr (by decide) (by rfl) (pa_cons (pv 4) (pa_cons (pv 10) (pa_cons pe_int pa_nil)))) (nomark _)) (pw_or1 (pt_cmpR op_ne (pe_ownG C_law_asked hr (by decide) quiet (by rfl) (pa_cons (pv 6) pa_nil)) (pv 13) (nomark _))))) (pss_one (ps_ret pe_bl)) pss_nil)))))
      (pss_cons (ps_if (PW.pt (pw_or (pt_cmpR (op_neD hr.units) (pe_lc (own := [("_law_pair", 16)]) (by rfl) sc_law_right.nd (pi_list (pv 9)) (blkOk_by (own := [("_law_pair", 16)]) (N := ["_law_source_here", "_law_sort", "_law_size", "_law_space", "_law_twin", "_law_stems", "_law_mine", "_law_mate", "_law_first", "_law_told", "_law_line", "_law_text_here", "_law_before", "_law_seen", "_law_turn", "_law_k", "_law_pair"]) (sc := defScope s_law_right) (by decide +kernel)) (fun _ _ _ _ _ => pg_name (i := 16) sc_law_right.nd rfl (.inl rfl)) (fun _ _ _ _ _ => (pts_one (pt_cmpR op_ne (pe_callB (id := "repr") (r := fun xs H Q => ∃ (a : Addr) (d : PyData), xs = [.ref a] ∧ Dp K H (.ref a) d ∧ Fine 60 100000 d ∧ Q (.str d.shown) H) (call_reprD quiet hr.units) (by rfl) B.repr (by decide +kernel) (pa_cons (pe_ix (r := rIxT K) ix_tup (pv 16) pe_int (fun _ _ => rfl)) pa_nil)) (pe_ix (r := rIxT K) ix_tup (pv 16) pe_int (fun _ _ => rfl)) (nomark _)))) (fun _ _ _ _ _ => (pv 16))) (pe_lst pa_nil) (nomark _)) (pw_or1 (pt_cmpR (op_neD hr.units) (pv 8) (pe_tup pa_nil) (nomark _))))) (pss_one (ps_ret pe_bl)) pss_nil)
      (pss_cons (ps_if (PW.pt (pw_or (pt_cmpR (op_neOwn (C := N) FE bE hr2 SE.ne SE.ob sE iE) (pe_fld (pv 6) rfl) (pv 3) (nomark _)) (pw_or (pt_not (pt_cmpR (op_eqOwn (C := N) FE bE hr1 sE iE) (pe_fld (pv 6) rfl) (pv 4) (nomark _))) (pw_or (pt_cmpR (op_eqObjOwn FE bE hr1 sE iE O CN nf) (pv 6) (pv 3) (nomark _)) (pw_or (pt_cmpR (op_eqOwn (C := N) FE bE hr1 sE iE) (pv 3) (pv 6) (nomark _)) (pw_or (pt_cmpR (op_eqObjTup hr.units O) (pv 6) (pv 10) (nomark _)) (pw_or1 (pt_cmpR (op_eqObjNon hr.units O) (pv 6) pe_non (nomark _))))))))) (pss_one (ps_ret pe_bl)) pss_nil)
      (pss_one (ps_ret (pe_and (pe_cmpR op_eq (pe_mth M_remove Z.cl hr (by decide) (pv 6) (pa_cons (pe_ix (r := rIxT K) ix_tup (pe_fld (pv 6) rfl) pe_int (fun _ _ => rfl)) pa_nil)) (pe_ix (r := rIxT K) ix_tup (pv 10) pe_int (fun _ _ => rfl)) (nomark _)) (pe_and (pe_cmpR op_eq (pe_ownG C_law_asked hr (by decide) quiet (by rfl) (pa_cons (pv 7) pa_nil)) (pv 13) (nomark _)) (pe_one (pe_cmpR op_ne (pe_ownG C_law_asked hr (by decide) quiet (by rfl) (pa_cons (pv 6) pa_nil)) (pv 13) (nomark _))))))))))))))))))), ?_⟩
    have M0 : Ladled p H H := ⟨hp, fun _ _ e _ => e⟩
    -- the rule, the width
    refine ⟨_, rfl, by show 3 ≤ sizeLine; decide, fun q1 n1 => ?_⟩
    refine ⟨p, hp.same (same_new n1), q1, _, rfl, .inl (.inl upd_same), hp.off n1, by decide, by decide, fun v G1 hv L1 => ?_⟩
    obtain ⟨so, hso, rfl⟩ : ∃ so ∈ sorts, v = .str so := by
      simp only [List.mem_cons, List.not_mem_nil, or_false] at hv
      rcases hv with rfl | rfl | rfl
      · exact ⟨_, by decide, rfl⟩
      · exact ⟨_, by decide, rfl⟩
      · exact ⟨_, by decide, rfl⟩
    have M1 := (M0.same (same_new n1)).trans L1
    refine ⟨_, rfl, p, 12, rfl, M1.pot, by decide, by decide, fun d G2 d0 d1 L2 => ⟨_, _, rfl, rfl, ?_⟩⟩
    refine ⟨_, _, rfl, ?_⟩
    have M2 := M1.trans L2
    have sz0 : 6 ≤ 6 + d := by omega
    have sz1 : 6 + d ≤ 40 := by omega
    clear L1 L2 M1 M0 n1 hv
    -- two Namers
    refine ⟨_, rfl, _, rfl, fun x1 dx1 nx1 nd1 ne1 => ⟨x1, dx1, so, (6 + d), rfl, upd_same, hso, sz0, sz1, fun G3 hN1 kN1 => ⟨rfl, ?_⟩⟩⟩
    have s3 : Same G2 G3 := fun c o e => kN1 c o (by rw [upd_ne (ne_of_none e nx1), upd_ne (ne_of_none e nd1)]; exact e) (ne_of_none e nx1)
    refine ⟨_, rfl, _, rfl, fun x2 dx2 nx2 nd2 ne2 => ⟨x2, dx2, so, (6 + d), rfl, upd_same, hso, sz0, sz1, fun G4 hN2 kN2 => ⟨rfl, ?_⟩⟩⟩
    have s4 : Same G3 G4 := fun c o e => kN2 c o (by rw [upd_ne (ne_of_none e nx2), upd_ne (ne_of_none e nd2)]; exact e) (ne_of_none e nx2)
    refine ⟨_, _, rfl, ?_⟩
    have M4 := (M2.same s3).same s4
    have hN1 := hN1.same s4
    clear s3 s4 M2 kN1 kN2 nx1 nd1 ne1 nx2 nd2 ne2
    -- stems, shelves
    refine ⟨_, rfl, p, 9, rfl, M4.pot, by decide, by decide, fun y1 G5 L5 z1 w1 => ?_⟩
    refine ⟨_, rfl, p, 6, rfl, (M4.trans L5).pot, by decide, by decide, fun y2 G6 L6 z2 w2 => ?_⟩
    have M6 := (M4.trans L5).trans L6
    have nm_lad : ∀ {J G : Hp} {x : Addr}, Ladled p J G → Pot J p → NmAt N J x so (6 + d) → NmAt N G x so (6 + d) := fun L hq m => by
      obtain ⟨dd, e⟩ := m
      exact ⟨dd, L.keep _ _ e fun z => by
        obtain ⟨a, b, c, f⟩ := hq
        rw [z, f] at e
        cases e⟩
    have hN1 := nm_lad L6 (M4.trans L5).pot (nm_lad L5 M4.pot hN1)
    have hN2 := nm_lad L6 (M4.trans L5).pot (nm_lad L5 M4.pot hN2)
    refine ⟨by show 2 ≤ sizeLine; decide, fun q nq => ?_⟩
    have M7 := M6.new (o := .lst [.str y1, .str y2]) nq
    have nqp : q ≠ p := M6.pot.off nq
    have eq7 : upd G6 q (.lst [.str y1, .str y2]) q = some (.lst [.str y1, .str y2]) := upd_same
    have hN1 := hN1.same (same_new (o := .lst [.str y1, .str y2]) nq)
    have hN2 := hN2.same (same_new (o := .lst [.str y1, .str y2]) nq)
    generalize upd G6 q (.lst [.str y1, .str y2]) = G7 at M7 eq7 hN1 hN2
    clear M4 M6 L5 L6 nq
    refine ⟨_, rfl, fun s1 d1 ns1 nd1 ne1 => ⟨s1, d1, x1, so, (6 + d), rfl, upd_same, hN1.same (same_mk ns1 nd1 ne1), fun G8 k8 hS1 => ⟨rfl, ?_⟩⟩⟩
    have s8 : Same G7 G8 := same_via ns1 (same_mk ns1 nd1 ne1) k8
    have hz1 : H s1 = none := M7.free ns1
    refine ⟨_, rfl, fun s2 d2 ns2 nd2 ne2 => ⟨s2, d2, x2, so, (6 + d), rfl, upd_same, (hN2.same s8).same (same_mk ns2 nd2 ne2), fun G9 k9 hS2 => ⟨rfl, ?_⟩⟩⟩
    have s9 : Same G8 G9 := same_via ns2 (same_mk ns2 nd2 ne2) k9
    have hz2 : H s2 = none := (M7.same s8).free ns2
    have e12 : s1 ≠ s2 := fun z => by
      obtain ⟨_, _, _, _, _, f, _⟩ := hS1.ex
      rw [z, ns2] at f
      cases f
    refine ⟨by show 3 ≤ sizeLine; decide, fun U nU => ?_⟩
    have sU : Same G9 (upd G9 U (.tup [.ref q, .ref s1, .ref s2])) := same_new nU
    have eU : upd G9 U (.tup [.ref q, .ref s1, .ref s2]) U = some (.tup [.ref q, .ref s1, .ref s2]) := upd_same
    generalize upd G9 U (.tup [.ref q, .ref s1, .ref s2]) = J at sU eU
    refine ⟨U, _, rfl, .inl (.inl eU), rfl, _, _, rfl, _, _, rfl, _, _, rfl, rfl, ?_⟩
    have s79 := s8.trans (s9.trans sU)
    have M9 := M7.same s79
    have eq9 := s79 _ _ eq7
    have hS1 : ShelfAt C N J s1 (E0S so (6 + d)) := (hS1.same s9).same sU
    have hS2 : ShelfAt C N J s2 (E0S so (6 + d)) := hS2.same sU
    have hN1 := hN1.same s79
    have hN2 := hN2.same s79
    clear k8 k9 s8 s9 sU eU s79 M7 eq7 ns1 ns2 ne1 ne2 nd1 nd2 nU
    have ok0 : (E0S so (6 + d)).ok := e0_ok hso sz0 sz1
    obtain ⟨d1, n1, t1, m1, p1, g1, i1, j1, l1, o1⟩ := id hS1.ex
    obtain ⟨d2, _, _, _, _, g2, _⟩ := id hS2.ex
    have lz0 : (0 : Int) ≤ (((E0S so (6 + d)).ps.length : Nat) : Int) ∧ (((E0S so (6 + d)).ps.length : Nat) : Int) < 2 ^ 63 := ⟨Int.le_refl _, (by show (0 : Int) < 2 ^ 63; decide)⟩
    refine ⟨_, rfl, s1, d1, _, rfl, g1, s1, _, rfl, hS1, ok0, _, rfl, lz0, _, rfl, iteBF rfl ?_⟩
    refine ⟨_, rfl, s2, d2, _, rfl, g2, s2, _, rfl, hS2, ok0, _, rfl, lz0, _, rfl, iteBF rfl ?_⟩
    refine ⟨_, rfl, _, rfl, s1, s2, d1, d2, _, _, rfl, rfl, e12, g1, g2, _, rfl, iteF ?_⟩
    refine ⟨_, rfl, _, rfl, s1, s2, d1, d2, _, _, rfl, rfl, e12, g1, g2, _, rfl, iteF ?_⟩
    refine ⟨_, rfl, s1, C, d1, _, _, rfl, g1, Z.cl, Z.nT, sf_texts, Nat.zero_le _, fun t nt => ⟨_, _, rfl, ?_⟩⟩
    have st : Same J (upd J t (.lst [])) := same_new nt
    have et : upd J t (.lst []) t = some (.lst []) := upd_same
    have M10 := M9.new (o := .lst []) nt
    have ntp : t ≠ p := M9.pot.off nt
    have hzt : H t = none := M9.free nt
    have eqJ := st _ _ eq9
    have hS1 := hS1.same st
    have hS2 := hS2.same st
    have hN1 := hN1.same st
    have hN2 := hN2.same st
    have j1 := st _ _ j1
    generalize upd J t (.lst []) = J1 at M10 et eqJ hS1 hS2 hN1 hN2 j1
    clear st M9 eq9 nt g1 g2 i1 l1 o1
    -- the line
    refine ⟨_, rfl, p, 4, rfl, M10.pot, by decide, by decide, fun n0 G10 r1 r2 L10 => ?_⟩
    obtain ⟨n, rfl⟩ := Int.eq_ofNat_of_zero_le r1
    have yw : ∀ y ∈ [y1, y2], 0 < y.cps.toList.length ∧ Wd 12 y := fun y hy => by
      rcases List.mem_cons.mp hy with rfl | hy
      · exact ⟨z1, w1.mono (by decide)⟩
      rcases List.mem_cons.mp hy with rfl | hy
      · exact ⟨z2, w2.mono (by decide)⟩
      cases hy
    have pJ := M10.pot
    have nXq0 := nqp
    have eq10 := L10.keep _ _ eqJ nqp
    refine ⟨_, _, rfl, rfl, _, rfl, by omega, by omega, fun X nX => lc_range (lo := 0) (n := (1 + (n : Int)).toNat) (fun i J => ∃ ts : List Str, ts.length = i ∧ (∀ t ∈ ts, Wd 200 t) ∧ J X = some (.lst (ts.map V.str)) ∧ Ladled p G10 J ∧ J q = some (.lst [.str y1, .str y2]))
      ⟨[], rfl, (fun t ht => by cases ht), upd_same, (Ladled.mut ⟨L10.pot, fun _ _ e _ => e⟩ nX (L10.pot.off nX)), by rw [upd_ne (ne_of_none eq10 nX)]; exact eq10⟩ ?_ ?_⟩
    · rintro j2 J2 hj ⟨ts, rfl, wt, eX, LJ, eqJ⟩
      have nXp : X ≠ p := L10.pot.off nX
      have nXq : q ≠ X := ne_of_none eq10 nX
      refine ⟨rfl, yes (iteT ⟨_, rfl, _, rfl, p, q, [y1, y2], rfl, LJ.pot, .inl (.inl eqJ), nqp, by show 0 < 2; decide, by show 2 < 1000; decide, yw, fun y GJ Ly wy => ?_⟩)⟩
      have gX := Ly.keep _ _ eX nXp
      refine ⟨_, gX, small1000 (by rw [List.length_map]; omega), ts ++ [y], by rw [List.length_append]; rfl, fun t ht => ?_, ?_, (LJ.trans Ly).mut nX nXp, ?_⟩
      · rcases List.mem_append.mp ht with ht | ht
        · exact wt t ht
        · rw [List.mem_singleton.mp ht]
          exact wy
      · rw [upd_same, List.map_append]
        rfl
      · rw [upd_ne nXq]
        exact Ly.keep _ _ eqJ nqp
    rintro J2 ⟨ts, tl, wt, eX, LJ, eqJ2⟩
    have t4 : ts.length ≤ 4 := by omega
    have t1' : 1 ≤ ts.length := by omega
    have LA := L10.trans LJ
    refine ⟨X, _, rfl, .inl ⟨.inl (.inl eX), fun Y nY => ?_⟩⟩
    have sY : Same J2 (upd J2 Y (.tup (ts.map V.str))) := same_new nY
    have eY : upd J2 Y (.tup (ts.map V.str)) Y = some (.tup (ts.map V.str)) := upd_same
    generalize upd J2 Y (.tup (ts.map V.str)) = J3 at sY eY
    have sh_lad : ∀ {s : Addr} {S : Sf}, ShelfAt C N J1 s S → ShelfAt C N J3 s S := fun h => (h.kp (fun b hb => .inl (by rw [List.mem_singleton.mp hb]; exact pJ)) (Kp.lad LA) (off1 (shelf_no_pot h pJ))).same sY
    have hB : B61 C N H J3 p s1 s2 x1 x2 Y t1 so (6 + d) ts (E0S so (6 + d)) (E0S so (6 + d)) := ⟨(M10.trans LA).same sY, sh_lad hS1, sh_lad hS2, e12, hz1, hz2, (nm_lad LA pJ hN1).same sY, (nm_lad LA pJ hN2).same sY, eY, sY _ _ (LA.keep _ _ j1 fun z => by
      obtain ⟨a, b, c, f⟩ := pJ
      rw [z, f] at j1
      cases j1)⟩
    have hT : Told61 J3 t [] := ⟨sY _ _ (LA.keep _ _ et ntp), fun q hq => by cases hq⟩
    clear sh_lad sY eY nY LA eqJ2 LJ eX nX eq10 L10 M10 hS1 hS2 hN1 hN2 j1 et eqJ yw
    -- the texts come, one after the other
    refine ⟨_, rfl, Y, rfl, ⟨_, .inl (.inl hB.eY)⟩, for_tup (K := K) (a := Y) (xs := ts.map V.str) (fun i σ J => ∃ (S : Sf) (qs : List (Addr × Prs)) (o1 o2 : Option V), σ = [some (.ref p), some (.str so), some (.int (6 + d)), some (.ref x1), some (.ref x2), some (.ref q), some (.ref s1), some (.ref s2), some (.ref t1), some (.ref t), some (.ref Y), o1, o2, none, none, none, none] ∧ B61 C N H J p s1 s2 x1 x2 Y t1 so (6 + d) ts S S ∧ Came so (6 + d) (ts.take i) S ∧ Told61 J t qs ∧ qs.length = i) ⟨_, [], none, none, rfl, hB, .nil hso sz0 sz1, hT, rfl⟩ (fun i σ J _ ⟨_, _, _, _, _, b, _⟩ => .inl (.inl b.eY)) ?_ ?_⟩
    · rintro i v σ J hi ⟨S, qs, o1, o2, rfl, hB, cm, hT, ql⟩
      obtain ⟨y, hy, rfl, my⟩ := atP_strs hi
      have il : i < ts.length := (List.getElem?_eq_some_iff.mp hy).1
      have tkl : (ts.take i).length = i := by rw [List.length_take]; omega
      have pl : S.ps.length < 20 := by
        rw [cm.ps, pairsOf_len, tkl]
        omega
      obtain ⟨d1, n1, a1, b1, c1, g1, g2, g3, g4, g5⟩ := id hB.h1.ex
      refine ⟨_, rfl, s1, C, d1, _, _, rfl, g1, Z.cl, Z.nT, sf_texts, _, rfl, s1, C, d1, _, _, rfl, g1, Z.cl, Z.nM, sf_names, by show 2 ≤ sizeLine; decide, fun b nb => ?_⟩
      have sb : Same J (upd J b (.lst [.ref a1, .ref b1])) := same_new nb
      have eb : upd J b (.lst [.ref a1, .ref b1]) b = some (.lst [.ref a1, .ref b1]) := upd_same
      generalize upd J b (.lst [.ref a1, .ref b1]) = J1 at sb eb
      have hB1 := hB.same sb
      refine ⟨_, rfl, s1, d1, _, rfl, sb _ _ g1, rfl, _, rfl, s1, y, S, rfl, hB1.h1, cm.ok, cm.bz, wt y my, pl, fun G kG hG => ?_⟩
      have k1 := (KI.same sb).trans (KI.sh hB1.h1 kG)
      have hB2 := hB1.say1 kG hG
      obtain ⟨d2, _, _, _, _, g6, _⟩ := id hB2.h2.ex
      refine ⟨_, rfl, s2, d2, _, rfl, g6, rfl, _, rfl, s2, y, S, rfl, hB2.h2, cm.ok, cm.bz, wt y my, pl, fun G2 kG2 hG2 => ?_⟩
      have k2 := k1.trans (KI.sh hB2.h2 kG2)
      have eb2 := (KI.sh hB2.h2 kG2).lst ((KI.sh hB1.h1 kG).lst eb)
      have hB3 := hB2.say2 kG2 hG2
      refine ⟨rfl, _, rfl, iteBF (by simp) ?_⟩
      have e3 := k2.tup g3
      have e4 := k2.ft g4
      have hT2 := hT.ki k2
      have ntb : b ≠ t := fun z => by
        have := hT.1
        rw [← z, nb] at this
        cases this
      refine ⟨_, rfl, .inl ⟨rfl, _, .inl (.inl hT2.1)⟩, _, rfl, _, rfl, b, two61 S.ps, rfl, .lst (.inl (.inl eb2)) (.cons (.tup (.inl (.inl e3)) (dp_strs _)) (.cons (.tup e4.sq (dp_strs _)) .nil)), two_fine cm.ok.ps, by show 2 ≤ sizeLine; decide, fun u nu => ?_⟩
      have su : Same G2 (upd G2 u (.tup [.ref b, .str (two61 S.ps).shown])) := same_new nu
      have eu : upd G2 u (.tup [.ref b, .str (two61 S.ps).shown]) u = some (.tup [.ref b, .str (two61 S.ps).shown]) := upd_same
      generalize upd G2 u (.tup [.ref b, .str (two61 S.ps).shown]) = G3 at su eu
      have hT3 := hT2.ki (.same su)
      refine ⟨t, _, _, rfl, rfl, hT3.1, small1000 (by rw [List.length_map]; omega), ?_⟩
      refine ⟨S.come y, qs ++ [(u, S.ps)], _, _, rfl, (hB3.same su).mut hT3.1 hzt ntp, ?_, hT3.more cm.ok.ps ntb eu (su _ _ eb2) (su _ _ e3) (e4.same su), by rw [List.length_append, ql]; rfl⟩
      rw [take_next hy]
      exact cm.next (by rw [tkl]; omega) (wt y my)
    rintro σ J ⟨S, qs, o1, o2, rfl, hB, cm, hT, ql⟩
    rw [List.length_map, List.take_length] at cm
    rw [List.length_map] at ql
    have pl : S.ps.length = ts.length := by rw [cm.ps, pairsOf_len]
    have ok := cm.ok
    obtain ⟨d1, n1, a1, b1, c1, g1, g2, g3, g4, g5⟩ := id hB.h1.ex
    obtain ⟨d2, _, _, _, _, g6, _⟩ := id hB.h2.ex
    have lz : (0 : Int) ≤ ((S.ps.length : Nat) : Int) ∧ ((S.ps.length : Nat) : Int) < 2 ^ 63 := ⟨by omega, by omega⟩
    have nz : (((S.ps.length : Nat) : Int) != 0) = true := by
      simp
      intro z
      rw [z] at pl
      simp at pl
      omega
    refine ⟨_, rfl, s1, d1, _, rfl, g1, s1, S, rfl, hB.h1, ok, _, rfl, lz, _, rfl, ?_⟩
    rw [nz]
    refine iteF ?_
    refine ⟨_, rfl, _, rfl, s1, s2, d1, d2, _, _, rfl, rfl, e12, g1, g6, _, rfl, iteF ?_⟩
    refine ⟨_, rfl, _, rfl, s2, s1, d2, d1, _, _, rfl, rfl, e12.symm, g6, g1, _, rfl, iteF ?_⟩
    refine ⟨_, rfl, s1, S, rfl, hB.h1, ok, fun J2 sJ2 => ?_⟩
    refine ⟨_, rfl, s2, S, rfl, hB.h2.same sJ2, ok, fun J3 sJ3 => ?_⟩
    refine ⟨rfl, _, rfl, iteBF (by simp) ?_⟩
    have s3 := sJ2.trans sJ3
    refine ⟨_, rfl, s1, S, rfl, hB.h1.same s3, ok, fun J4 sJ4 => ?_⟩
    have s4 := s3.trans sJ4
    have hB := hB.same s4
    have hT := hT.ki (.same s4)
    clear s3 s4 sJ2 sJ3 sJ4 g1 g2 g3 g4 g5 g6
    have eN : S.ps.map (·.2) = namesOf so (6 + d) ts := by rw [cm.ps]; rfl
    have wN : ∀ y ∈ namesOf so (6 + d) ts, Wd 202 y := names_wd (by omega) wt
    refine ⟨_, rfl, by decide, by decide, for_range (lo := 0) (n := 2) (fun i σ J => ∃ o : Option V, σ = [some (.ref p), some (.str so), some (.int (6 + d)), some (.ref x1), some (.ref x2), some (.ref q), some (.ref s1), some (.ref s2), some (.ref t1), some (.ref t), some (.ref Y), o1, o2, some (.str (askedD S).shown), o, none, none] ∧ B61 C N H J p s1 s2 x1 x2 Y t1 so (6 + d) ts S S ∧ Told61 J t qs) ⟨none, rfl, hB, hT⟩ ?_ ?_⟩
    · rintro i σ J hi ⟨o, rfl, hB, hT⟩
      obtain ⟨d1, n1, a1, b1, c1, g1, g2, g3, g4, g5⟩ := id hB.h1.ex
      have e4 : FT J b1 ((namesOf so (6 + d) ts).map V.str) := by
        rw [← eN]
        exact g4
      refine ⟨_, rfl, _, rfl, x1, Y, so, 6 + d, ts, rfl, hB.m1, hso, sz0, sz1, .inl (.inl hB.eY), by omega, wt, fun r G hr sG => ?_⟩
      refine ⟨_, rfl, s1, C, d1, _, _, rfl, sG _ _ g1, Z.cl, Z.nM, sf_names, ?_⟩
      refine ⟨.tuple ((namesOf so (6 + d) ts).map PyData.str), .tuple ((namesOf so (6 + d) ts).map PyData.str), .tup hr (dp_strs _), .tup (e4.same sG).sq (dp_strs _), shT61 wN, shT61 wN, _, rfl, ?_⟩
      rw [SeqAt.eqv_refl _ (SeqAt.canLay_of_shaped (shT61 wN))]
      have hB1 := hB.same sG
      refine ⟨_, rfl, _, rfl, x2, Y, so, 6 + d, ts, rfl, hB1.m2, hso, sz0, sz1, .inl (.inl hB1.eY), by omega, wt, fun r2 G2 hr2 sG2 => ?_⟩
      have sG12 := sG.trans sG2
      refine ⟨_, rfl, s1, C, d1, _, _, rfl, sG12 _ _ g1, Z.cl, Z.nM, sf_names, ?_⟩
      refine ⟨.tuple ((namesOf so (6 + d) ts).map PyData.str), .tuple ((namesOf so (6 + d) ts).map PyData.str), .tup hr2 (dp_strs _), .tup (e4.same sG12).sq (dp_strs _), shT61 wN, shT61 wN, _, rfl, ?_⟩
      rw [SeqAt.eqv_refl _ (SeqAt.canLay_of_shaped (shT61 wN))]
      refine iteF ?_
      have hB2 := hB.same sG12
      have hT2 := hT.ki (.same sG12)
      -- the orders in which names meet
      refine ⟨_, rfl, _, rfl, x1, Y, so, 6 + d, ts, rfl, hB2.m1, hso, sz0, sz1, .inl (.inl hB2.eY), by omega, wt, fun v1 G3 sG3 met1 => ?_⟩
      have hB3 := hB2.same sG3
      refine ⟨_, rfl, _, rfl, x2, Y, so, 6 + d, ts, rfl, hB3.m2, hso, sz0, sz1, .inl (.inl hB3.eY), by omega, wt, fun v2 G4 sG4 met2 => ?_⟩
      have hB4 := hB3.same sG4
      have hT4 := hT2.ki (.same (sG3.trans sG4))
      have met : ∃ dd : PyData, Dp K G4 v1 dd ∧ Dp K G4 v2 dd ∧ SeqAt.shaped dd = true := by
        cases ef : firstMeet so (6 + d) ts with
        | none =>
          unfold Met at met1 met2
          rw [ef] at met1 met2
          rw [show v1 = .non from met1, show v2 = .non from met2]
          exact ⟨.none, .non, .non, by decide +kernel⟩
        | some o =>
          unfold Met at met1 met2
          rw [ef] at met1 met2
          obtain ⟨r1, rfl, h1⟩ := met1
          obtain ⟨r2, rfl, h2⟩ := met2
          obtain ⟨mo, mb⟩ := meet_some ef
          obtain ⟨lt, oll⟩ := ord_lt (show ts.length ≤ 6 by omega) mo
          exact ⟨_, .tup (st_same sG4 h1) (dp_nums61 o), .tup h2 (dp_nums61 o), shaped_nums61 fun i hi => Nat.lt_of_lt_of_le (lt i hi) (by omega)⟩
      obtain ⟨dd, v1d, v2d, sd⟩ := met
      refine ⟨dd, dd, v1d, v2d, sd, sd, _, rfl, ?_⟩
      rw [SeqAt.eqv_refl _ (SeqAt.canLay_of_shaped sd)]
      refine iteF ?_
      -- the possible names
      refine ⟨_, rfl, _, rfl, x1, Y, so, 6 + d, ts, 0, rfl, hB4.m1, hso, sz0, sz1, .inl (.inl hB4.eY), by omega, wt, by omega, fun r3 G5 js1 po1 hr3 sG5 => ?_⟩
      have hB5 := hB4.same sG5
      refine ⟨_, rfl, _, rfl, x2, Y, so, 6 + d, ts, 0, rfl, hB5.m2, hso, sz0, sz1, .inl (.inl hB5.eY), by omega, wt, by omega, fun r4 G6 js2 po2 hr4 sG6 => ?_⟩
      have ej := po1.one po2
      subst ej
      have wj : ∀ y ∈ js1, Wd 42 y := fun y hy => poss_wd (by omega) wt (by omega) sz1 (by omega) ((po1.2 y).1 hy)
      refine ⟨.tuple (js1.map PyData.str), .tuple (js1.map PyData.str), .tup (st_same sG6 hr3) (dp_strs _), .tup hr4 (dp_strs _), shT61 wj, shT61 wj, _, rfl, ?_⟩
      rw [SeqAt.eqv_refl _ (SeqAt.canLay_of_shaped (shT61 wj))]
      have hB6 := hB5.same sG6
      have hT6 := hT4.ki (.same (sG5.trans sG6))
      refine ⟨_, rfl, s1, S, rfl, hB6.h1, ok, fun G7 sG7 => ⟨_, rfl, rfl, _, rfl, iteBF (by simp) ?_⟩⟩
      exact ⟨_, rfl, hB6.same sG7, hT6.ki (.same sG7)⟩
    rintro σ J ⟨o, rfl, hB, hT⟩
    -- what was told is as it was
    refine ⟨_, rfl, t, rfl, ⟨_, .inl (.inl hT.1)⟩, fun M nM => lc_list (K := K) (a := t) (xs := qs.map fun q => V.ref q.1) (fun i J2 => J2 M = some (.lst []) ∧ Same J J2) ⟨upd_same, same_new nM⟩ (fun i J2 _ ⟨_, s⟩ => .inl (.inl (s _ _ hT.1))) ?_ ?_⟩
    · rintro i v J2 hi ⟨eM, s⟩
      obtain ⟨q0, hq, rfl, mq⟩ := ref_at61 hi
      obtain ⟨okq, b, x, y, nb, e1, e2, e3, e4⟩ := hT.2 q0 mq
      refine ⟨rfl, _, rfl, q0.1, _, _, .ref b, rfl, rfl, .inl (.inl (s _ _ e1)), rfl, b, two61 q0.2, rfl, .lst (.inl (.inl (s _ _ e2))) (.cons (.tup (.inl (.inl (s _ _ e3))) (dp_strs _)) (.cons (.tup (e4.same s).sq (dp_strs _)) .nil)), two_fine okq, _, rfl, q0.1, _, _, .str (two61 q0.2).shown, rfl, rfl, .inl (.inl (s _ _ e1)), rfl, rfl, _, rfl, iteBF (by simp) ⟨eM, s⟩⟩
    rintro J2 ⟨eM, s2⟩
    refine ⟨Nat.zero_le _, fun e ne => ?_⟩
    have s3 : Same J2 (upd J2 e (.lst [])) := same_new ne
    refine ⟨.list [], .list [], .lst (.inl (.inl (s3 _ _ eM))) .nil, .lst (.inl (.inl upd_same)) .nil, by decide +kernel, by decide +kernel, _, rfl, iteF ?_⟩
    have hB := (hB.same s2).same s3
    generalize upd J2 e (.lst []) = J3 at hB
    clear s3 s2 eM ne hT nM
    refine ⟨_, rfl, Nat.zero_le _, fun e ne => ?_⟩
    have s3 : Same J3 (upd J3 e (.tup [])) := same_new ne
    refine ⟨.tuple [], .tuple [], .tup (.inl (.inl (s3 _ _ hB.eF))) .nil, .tup (.inl (.inl upd_same)) .nil, by decide +kernel, by decide +kernel, _, rfl, iteF ?_⟩
    have hB := hB.same s3
    generalize upd J3 e (.tup []) = J4 at hB
    clear s3 ne
    obtain ⟨d1, n1, a1, b1, c1, g1, ⟨dn, gn⟩, g3, g4, g5⟩ := id hB.h1.ex
    rw [cm.eso, cm.ew] at gn
    obtain ⟨e1, f1⟩ := id hB.m1
    obtain ⟨e2, f2⟩ := id hB.m2
    have tn : ∀ {x dx : Addr} {fs : List (Str × V)}, J4 x = some (.ins N dx fs) → TyX K J4 (.ref x) (.ref N) := fun h => .base (.ins h Sn.cl Sn.ha Sn.hn Sn.ht Sn.hm)
    have same : decide (so = so ∧ (6 + d) = (6 + d)) = true := decide_eq_true ⟨rfl, rfl⟩
    refine ⟨_, rfl, s1, C, d1, _, _, rfl, g1, Z.cl, Z.nN, sf_namer, _, rfl, n1, dn, _, .ref N, rfl, gn, tn f1, first_self, n1, so, 6 + d, .ref x1, rfl, ⟨dn, gn⟩, .inl ⟨x1, so, 6 + d, rfl, hB.m1, ?_⟩⟩
    rw [same]
    refine ⟨_, rfl, _, rfl, iteF ?_⟩
    refine ⟨_, rfl, s1, C, d1, _, _, rfl, g1, Z.cl, Z.nN, sf_namer, _, rfl, n1, dn, _, .ref N, rfl, gn, tn f2, first_self, n1, so, 6 + d, .ref x2, rfl, ⟨dn, gn⟩, .inl ⟨x2, so, 6 + d, rfl, hB.m2, ?_⟩⟩
    rw [same]
    refine ⟨_, rfl, _, rfl, iteF ?_⟩
    refine ⟨_, rfl, _, rfl, s1, x1, d1, e1, _, _, rfl, rfl, g1, f1, x1, so, 6 + d, .ref s1, rfl, hB.m1, .inr ⟨.ref C, O.ty g1, kf, _, rfl, _, rfl, iteF ?_⟩⟩
    refine ⟨_, rfl, _, rfl, x1, e1, _, .ref C, rfl, f1, O.ty g1, first_of (show PySem.W.subIn K (.ref C) (.ref N) = some false from nf2), x1, so, 6 + d, .ref s1, rfl, hB.m1, .inr ⟨.ref C, O.ty g1, kf, _, rfl, _, rfl, iteF ?_⟩⟩
    refine ⟨_, rfl, _, rfl, s1, Y, d1, _, _, rfl, rfl, g1, hB.eY, _, rfl, iteF ?_⟩
    refine ⟨_, rfl, s1, d1, _, rfl, rfl, g1, _, rfl, iteF ?_⟩
    -- the first name goes
    obtain ⟨q0, r, eps⟩ : ∃ q0 r, S.ps = q0 :: r := by
      cases e : S.ps with
      | nil =>
        rw [e] at pl
        simp at pl
        omega
      | cons q0 r => exact ⟨q0, r, rfl⟩
    have ets : ts = q0.1 :: r.map (·.1) := by
      have := pairsOf_fst so (6 + d) ts.length ts rfl
      rw [← cm.ps, eps] at this
      exact this.symm
    have inm : atI (nms S.ps) 0 = some (.str q0.2) := by
      unfold nms
      rw [eps]
      exact atI_nat (j := 0) rfl
    have itx : atI (ts.map V.str) 0 = some (.str q0.1) := by
      rw [ets]
      exact atI_nat (j := 0) rfl
    refine ⟨_, rfl, s1, d1, _, rfl, g1, rfl, _, rfl, s1, C, d1, _, _, rfl, g1, Z.cl, Z.nM, sf_names, b1, _, _, .str q0.2, rfl, rfl, g4.sq, inm, s1, q0.2, q0.1, S, 0, rfl, hB.h1, ok, cm.bz, by rw [eps]; rfl, fun m hm => absurd hm (Nat.not_lt_zero m), fun G kG hG => ?_⟩
    have hB2 := hB.say1 kG hG
    refine ⟨_, rfl, Y, _, _, .str q0.1, rfl, rfl, .inl (.inl hB2.eY), itx, rfl, ?_⟩
    rw [decide_eq_true rfl]
    refine ⟨_, rfl, iteT ?_⟩
    refine ⟨_, rfl, s2, S, rfl, hB2.h2, ok, fun G2 sG2 => ⟨_, rfl, rfl, _, rfl, iteB (by simp) ?_⟩⟩
    have hB3 := hB2.same sG2
    have okg : (S.go 0).ok := Sf.go_ok ok (by rw [eps]; exact Nat.succ_pos _) (by have := cm.pa; omega)
    refine ⟨_, rfl, s1, S.go 0, rfl, hB3.h1, okg, fun G3 sG3 => ⟨_, rfl, rfl, ?_⟩⟩
    have ego : S.go 0 = { S with ps := r, past := S.past ++ [S.ps] } := by
      unfold Sf.go
      rw [eps]
      rfl
    have neq : (askedD (S.go 0)).shown ≠ (askedD S).shown := by
      rw [ego]
      exact asked_less eps (by omega)
    rw [decide_eq_false (show ¬ V.str (askedD (S.go 0)).shown = V.str (askedD S).shown from fun z => neq (V.str.inj z))]
    exact k _ (hB3.same sG3).la
end
end Gu
namespace Gu
open PySem PySem.Spec PyProof.Rows L2
section
variable {P : Program} {w : World} {K : PySem.W.Frag} {mg : Str → Option Value} {base : Heap} {C : Addr}
/-! ### law -/
def spLaw (K : PySem.W.Frag) : Sp := fun vs H Q _ => ∃ (a : Addr) (ns : List Int), vs = [.ref a] ∧ SqL K H a (ns.map V.int) ∧ ns.length ≤ 63 ∧ ∀ G, Q (.bl true) G
theorem cal_law (B : Bi mg) {f : Addr} {fd : FuncData} (F : Fun K "law" "law" s_law f fd) (C_law_source : Cal P w K mg base 1 "_law_source" ps_law_source (spPot K)) (C_law_right : CalG P w K mg base 8 "_law_right" ps_law_right spRight) : FnG P w K mg base 9 f fd ps_law (spLaw K) := by
  refine okG F sc_law (fun vs H Q E h => ?_) (fun cdv A outer s H vs Q E hr quiet h => ?_)
  · obtain ⟨a, ns, rfl, _⟩ := h
    rfl
  · obtain ⟨a, ns, rfl, hS, hl, k⟩ := h
    refine ⟨_, (pss_one (ps_ret (pe_callB (cr_all rfl) (by rfl) B.all (by decide +kernel) (pa_cons (pe_lc (own := [("_law_k", 1)]) (by rfl) sc_law.nd (pi_range1 (by rfl) B.range (pa_cons (pe_callB (call_max2 rfl) (by rfl) B.max (by decide +kernel) (pa_cons pe_int (pa_cons (pe_callB (call_min2 rfl) (by rfl) B.min (by decide +kernel) (pa_cons (pe_callB call_len_seq (by rfl) B.len (by decide +kernel) (pa_cons (pv 0) pa_nil)) (pa_cons pe_int pa_nil))) pa_nil))) pa_nil)) (blkOk_by (own := [("_law_k", 1)]) (N := ["_law_script", "_law_k"]) (sc := defScope s_law) (by decide +kernel)) (fun _ _ _ _ _ => pg_name (i := 1) sc_law.nd rfl (.inl rfl)) (fun _ _ _ _ _ => pts_nil) (fun _ _ _ _ _ => (pe_ownG C_law_right hr (Nat.le_refl _) quiet (by rfl) (pa_cons (pe_own C_law_source hr (by decide) (by rfl) (pa_cons (pv 0) (pa_cons (pv 1) pa_nil))) pa_nil)))) pa_nil)))), ?_⟩
    have hS2 := hS
    have s0 : Same H H := fun _ _ h => h
    -- the numbers
    refine ⟨_, rfl, a, _, rfl, .inl hS2, _, _, rfl, _, _, rfl, ?_⟩
    rw [List.length_map]
    generalize hm : (if (4 : Int) < (ns.length : Int) then (4 : Int) else (ns.length : Int)) = m
    have m1 : m ≤ 4 := by rw [← hm]; split <;> omega
    refine ⟨_, rfl, by split <;> omega, by split <;> omega, fun D nD => ?_⟩
    refine lc_range (lo := 0) (n := (if m > (2 : Int) then m else 2).toNat) (fun i J => ∃ bs : List Bool, bs.length = i ∧ bs.all id = true ∧ J D = some (.lst (bs.map V.bl)) ∧ Same H J) ⟨[], rfl, rfl, upd_same, same_new nD⟩ ?_ ?_
    · rintro i J hi ⟨bs, rfl, ha, eD, sJ⟩
      have i5 : bs.length < 4 := by
        revert hi
        split <;> omega
      refine ⟨rfl, yesT (iteT ⟨_, rfl, _, rfl, a, bs.length, ns, ?_, sq_same sJ hS2, by omega, fun p G np hp sG => ?_⟩)⟩
      · rw [Int.zero_add]
        rfl
      · refine ⟨p, rfl, hp, fun G2 L => ?_⟩
        have nDp : D ≠ p := ne_of_none eD np
        have gD : G2 D = some (.lst (bs.map V.bl)) := L.keep _ _ (sG _ _ eD) nDp
        refine ⟨_, gD, small1000 (by rw [List.length_map]; omega), bs ++ [true], by rw [List.length_append]; rfl, by rw [List.all_append, ha]; rfl, ?_, fun b o e => ?_⟩
        · rw [upd_same, List.map_append]
          rfl
        · rw [upd_ne (ne_of_none e nD)]
          exact L.keep _ _ (sG _ _ (sJ _ _ e)) (ne_of_none (sJ _ _ e) np)
    · rintro J ⟨bs, el, ha, eD, sJ⟩
      refine ⟨D, bs, rfl, .inl (.inl eD), ?_⟩
      rw [ha]
      exact k J
end
end Gu
namespace Gu
open PySem PySem.Spec PyProof.Rows L2
theorem at_mk {K : PySem.W.Frag} {h : Heap} {mg : Str → Option Value} {x : Str} {st : Stmt} {ps : List Str} {f : Addr} {oc : Value} {od an : Option Addr} {sl : Array (Option Value)} {kV dc pm cd ct : Value} (X : K.In h) (G : h.Ns mainGlobals mg)
    (hb : ∀ (kV doc pm : Value) (an : Option Addr) (cdv ct : Value) (us : List Value), us.length = ps.length → bindArgs (PySem.W.fnOf x x (defArgs st) (defBody st) (defScope st) .none kV doc pm an cdv ct) ⟨us, []⟩ = pure (ps.zip us))
    (a : PySem.W.nsIn K mainGlobals x = some (some (.ref f))) (l : K.lookup f = some ⟨oc, od, .func (PySem.W.fnOf x x (defArgs st) (defBody st) (defScope st) .none kV dc pm an cd ct), sl⟩) (c : PySem.W.codeIn K cd x = true) (k : PySem.W.keepIn K (.ref f) = true) : At K mg x st ps :=
  ⟨f, _, fun_mk l c k, (fun_mk l c k).binds hb, PySem.W.mg_of X G a⟩
theorem cst_mk {K : PySem.W.Frag} {h : Heap} {mg : Str → Option Value} {x : Str} {v : V} {u : Value} (X : K.In h) (G : h.Ns mainGlobals mg) (r : RelV v u) (a : PySem.W.nsIn K mainGlobals x = some (some u)) : ∃ u, mg x = some u ∧ RelV v u := ⟨u, PySem.W.mg_of X G a, r⟩
end Gu
namespace Gu
open PySem PySem.Spec PyProof.Rows L2
structure LenFn (K : PySem.W.Frag) (C : Addr) : Prop where
  ex : ∃ (f : Addr) (fd : FuncData), PySem.W.findIn K (.ref C) "__len__" = some (some (.ref f)) ∧ PySem.W.isFn K (.ref f) = true ∧ Fun K "__len__" "Shelf.__len__" s_Shelf_len f fd ∧ Binds K fd ps_Shelf_len []
end Gu
namespace Gu
open PySem PySem.Spec PyProof.Rows L2
structure RepFn (K : PySem.W.Frag) (C : Addr) : Prop where
  ex : ∃ (f : Addr) (fd : FuncData), PySem.W.findIn K (.ref C) "__repr__" = some (some (.ref f)) ∧ PySem.W.isFn K (.ref f) = true ∧ Fun K "__repr__" "Shelf.__repr__" s_Shelf_repr f fd ∧ Binds K fd ps_Shelf_repr []
end Gu
namespace Gu
open PySem PySem.Spec PyProof.Rows L2
theorem fin {P : Program} {w : World} {K : PySem.W.Frag} {mg : Str → Option Value} {base : Heap} {N C f : Addr} {fd : FuncData} (B : Bi mg)     (Sn : NmC K mg N) (In : NInitAt K N) (Z : ShE K N) (Sh : ShlC K mg C) (Ih : ShInitAt K C) (Oh : ObjE K C) (CN : C ≠ N) (nf1 : PySem.W.mroIn K N (.ref C) = some false) (nf2 : PySem.W.mroIn K C (.ref N) = some false) (kf : PySem.W.kitOne K (.ref C) (.ref N) = some false) (D_Shelf_become : MethAt K C "become" "Shelf.become" s_Shelf_become ps_Shelf_become) (D_Shelf_let_come : MethAt K C "let_come" "Shelf.let_come" s_Shelf_let_come ps_Shelf_let_come) (D_Shelf_let_go : MethAt K C "let_go" "Shelf.let_go" s_Shelf_let_go ps_Shelf_let_go) (D_Shelf_check_not_busy : MethAt K C "check_not_busy" "Shelf.check_not_busy" s_Shelf_check_not_busy ps_Shelf_check_not_busy) (D_Shelf_add : MethAt K C "add" "Shelf.add" s_Shelf_add ps_Shelf_add) (D_Shelf_remove : MethAt K C "remove" "Shelf.remove" s_Shelf_remove ps_Shelf_remove) (D_Shelf_len : LenFn K C) (D_Shelf_repr : RepFn K C) (NB_Shelf : PySem.W.findIn K (.ref C) "__bool__" = some none)
    (A_is_integer : At K mg "is_integer" s_is_integer ps_is_integer) (A_is_tuple : At K mg "is_tuple" s_is_tuple ps_is_tuple) (A_is_text : At K mg "is_text" s_is_text ps_is_text) (A_check_text : At K mg "check_text" s_check_text ps_check_text) (A_check_texts : At K mg "check_texts" s_check_texts ps_check_texts) (A_check_namer : At K mg "check_namer" s_check_namer ps_check_namer) (A_base_of : At K mg "base_of" s_base_of ps_base_of) (A_numbered : At K mg "numbered" s_numbered ps_numbered) (A_counted_name : At K mg "counted_name" s_counted_name ps_counted_name) (A_free_name : At K mg "free_name" s_free_name ps_free_name) (A_name_of_next : At K mg "name_of_next" s_name_of_next ps_name_of_next) (A_named : At K mg "named" s_named ps_named) (A_orders : At K mg "orders" s_orders ps_orders) (A_named_in_order : At K mg "named_in_order" s_named_in_order ps_named_in_order) (A_names : At K mg "names" s_names ps_names) (A_meeting : At K mg "meeting" s_meeting ps_meeting) (A_possible_names : At K mg "possible_names" s_possible_names ps_possible_names) (A_law_source : At K mg "_law_source" s_law_source ps_law_source) (A_law_draw : At K mg "_law_draw" s_law_draw ps_law_draw) (A_law_one : At K mg "_law_one" s_law_one ps_law_one) (A_law_stem : At K mg "_law_stem" s_law_stem ps_law_stem) (A_law_word : At K mg "_law_word" s_law_word ps_law_word) (A_law_asked : At K mg "_law_asked" s_law_asked ps_law_asked) (A_law_right : At K mg "_law_right" s_law_right ps_law_right)
    (F : Fun K "law" "law" s_law f fd) : FnG P w K mg base 9 f fd ps_law (spLaw K) := by
  have c1 : Cal P w K mg base 1 "_law_draw" ps_law_draw spLadle := cal_draw B A_law_draw
  have c2 : Cal P w K mg base 2 "_law_one" ps_law_one (spOneOf K) := cal_one B A_law_one c1
  have c3 : Cal P w K mg base 2 "_law_stem" ps_law_stem spStem := cal_stem B A_law_stem c1
  have c4 : Cal P w K mg base 3 "_law_word" ps_law_word (spWord K) := cal_word B A_law_word c1 c2 c3
  have p1 : Cal P w K mg base 1 "is_integer" ps_is_integer (spIsInteger K) := cal_isInteger B A_is_integer
  have p2 : Cal P w K mg base 1 "is_text" ps_is_text (spIsText K) := cal_isText B A_is_text
  have p3 : Cal P w K mg base 2 "check_text" ps_check_text spCheckTextW := cal_checkTextW B A_check_text p2
  have pt : Cal P w K mg base 1 "is_tuple" ps_is_tuple (spIsTuple K) := cal_isTuple B A_is_tuple
  have pc : Cal P w K mg base 2 "check_texts" ps_check_texts (spCheckTexts K) := cal_checkTexts B A_check_texts pt p2
  have p4 : Cal P w K mg base 1 "check_namer" ps_check_namer (spCheckNamer N) := cal_checkNamer B Sn A_check_namer
  have p5 : Cal P w K mg base 1 "base_of" ps_base_of (spBaseOf N) := cal_baseOf B Sn A_base_of
  have p6 : Cal P w K mg base 1 "numbered" ps_numbered (spNumQ N) := cal_numQ B Sn A_numbered
  have p7 : Cal P w K mg base 2 "counted_name" ps_counted_name (spCountedQ K N) := cal_countedQ B Sn A_counted_name p5 p6
  have p8 : Cal P w K mg base 2 "free_name" ps_free_name (spFreeQ K N) := cal_freeQ B A_free_name p6
  have p9 : Cal P w K mg base 3 "name_of_next" ps_name_of_next (spNextQ K N) := cal_nextQ B Sn A_name_of_next p5 p7 p8
  have p8l : Cal P w K mg base 2 "free_name" ps_free_name (spFreeL K N) := cal_freeL B A_free_name p6
  have p9l : Cal P w K mg base 3 "name_of_next" ps_name_of_next (spNextL K N) := cal_nextL B Sn A_name_of_next p5 p7 p8l
  have p10 : Cal P w K mg base 4 "named" ps_named (spNamesP K (NmAt N)) := cal_named B A_named p9l
  have d1 : Cal P w K mg base 5 "names" ps_names (spNamesP K (NmAt N)) := cal_namesP B A_names p4 pc p10
  have m1 : Mak P w K mg base 2 "Namer" N (spNInit N (NmAt N)) := mak_nm B Sn In p1
  have m2 : Mak P w K mg base 2 "Shelf" C (spShInit C N) := mak_sh B Sh Ih p4
  have b1 : CalM P w K mg base 1 C "become" ps_Shelf_become (spBecome C N) := cal_become B Sh D_Shelf_become
  have b2 : CalM P w K mg base 4 C "let_come" ps_Shelf_let_come (spLetCome C N) := cal_letCome B Sh D_Shelf_let_come p3 p9 b1
  have b4 : CalM P w K mg base 1 C "check_not_busy" ps_Shelf_check_not_busy (spCalmS C N) := cal_notBusy B Sh D_Shelf_check_not_busy
  have b5 : CalM P w K mg base 5 C "add" ps_Shelf_add (spAdd C N) := cal_add B Sh D_Shelf_add b4 b2
  have q1 : Cal P w K mg base 1 "orders" ps_orders (spOrders K) := cal_pOrders B A_orders
  have q1f : Cal P w K mg base 1 "orders" ps_orders spOrdersF := cal_pOrdersF B A_orders
  have q2 : Cal P w K mg base 5 "named_in_order" ps_named_in_order (spNio K (NmAt N)) := cal_nio B A_named_in_order (fun s h => h.same s) p10
  have q3 : Cal P w K mg base 6 "meeting" ps_meeting (spMeet K (NmAt N)) := cal_meet B A_meeting p4 pc q1 q2
  have q4 : Cal P w K mg base 6 "possible_names" ps_possible_names (spPoss K (NmAt N)) := cal_poss B A_possible_names p4 pc p1 q1f q2
  have b3 : CalM P w K mg base 2 C "let_go" ps_Shelf_let_go (spLetGo C N) := cal_letGo B Sh D_Shelf_let_go b1
  have b6 : CalM P w K mg base 3 C "remove" ps_Shelf_remove (spRemove C N) := cal_remove B Sh D_Shelf_remove b4 b3
  obtain ⟨fL, fdL, sL, iL, FL, bL⟩ := D_Shelf_len.ex
  obtain ⟨fR, fdR, sR, iR, FR, bR⟩ := D_Shelf_repr.ex
  obtain ⟨fE, fdE, sE, iE, FE, bE⟩ := Z.eq
  obtain ⟨fN, fdN, sN, iN, FN, bN⟩ := Z.re
  have W : ShlV P w K mg base C N := ⟨⟨fL, fdL, ok_lenS B Sh FL, bL, sL, iL⟩, ⟨fR, fdR, ok_reprS B Sh FR, bR, sR, iR⟩, NB_Shelf, ⟨fN, fdN, ok_reprN B Sn FN, bN, sN, iN⟩⟩
  have a1 : CalG P w K mg base 5 "_law_asked" ps_law_asked (spAsked61 C N) := cal_asked61 B Sh W A_law_asked
  have r1 : CalG P w K mg base 8 "_law_right" ps_law_right spRight := cal_right B Sn Z Sh W Oh CN nf1 nf2 kf A_law_right c1 c2 c3 c4 m1 m2 b5 b6 d1 q3 q4 a1 (ok_eqN B Sn FE) bE sE iE
  exact cal_law B F (cal_source B A_law_source) r1
end Gu
namespace Gu
open PySem PySem.Spec PyProof.Rows L2
set_option maxHeartbeats 0 in
theorem all_mk {l : PySem.W.OpenLaw} {w : World} {K : PySem.W.Frag} {h : Heap} {mg : Str → Option Value} {fa : Addr} {f_is_integer : Addr} {oc_is_integer kV_is_integer dc_is_integer pm_is_integer cd_is_integer ct_is_integer : Value} {od_is_integer an_is_integer : Option Addr} {sl_is_integer : Array (Option Value)} {f_is_tuple : Addr} {oc_is_tuple kV_is_tuple dc_is_tuple pm_is_tuple cd_is_tuple ct_is_tuple : Value} {od_is_tuple an_is_tuple : Option Addr} {sl_is_tuple : Array (Option Value)} {f_is_text : Addr} {oc_is_text kV_is_text dc_is_text pm_is_text cd_is_text ct_is_text : Value} {od_is_text an_is_text : Option Addr} {sl_is_text : Array (Option Value)} {f_check_text : Addr} {oc_check_text kV_check_text dc_check_text pm_check_text cd_check_text ct_check_text : Value} {od_check_text an_check_text : Option Addr} {sl_check_text : Array (Option Value)} {f_check_texts : Addr} {oc_check_texts kV_check_texts dc_check_texts pm_check_texts cd_check_texts ct_check_texts : Value} {od_check_texts an_check_texts : Option Addr} {sl_check_texts : Array (Option Value)} {f_check_namer : Addr} {oc_check_namer kV_check_namer dc_check_namer pm_check_namer cd_check_namer ct_check_namer : Value} {od_check_namer an_check_namer : Option Addr} {sl_check_namer : Array (Option Value)} {f_base_of : Addr} {oc_base_of kV_base_of dc_base_of pm_base_of cd_base_of ct_base_of : Value} {od_base_of an_base_of : Option Addr} {sl_base_of : Array (Option Value)} {f_numbered : Addr} {oc_numbered kV_numbered dc_numbered pm_numbered cd_numbered ct_numbered : Value} {od_numbered an_numbered : Option Addr} {sl_numbered : Array (Option Value)} {f_counted_name : Addr} {oc_counted_name kV_counted_name dc_counted_name pm_counted_name cd_counted_name ct_counted_name : Value} {od_counted_name an_counted_name : Option Addr} {sl_counted_name : Array (Option Value)} {f_free_name : Addr} {oc_free_name kV_free_name dc_free_name pm_free_name cd_free_name ct_free_name : Value} {od_free_name an_free_name : Option Addr} {sl_free_name : Array (Option Value)} {f_name_of_next : Addr} {oc_name_of_next kV_name_of_next dc_name_of_next pm_name_of_next cd_name_of_next ct_name_of_next : Value} {od_name_of_next an_name_of_next : Option Addr} {sl_name_of_next : Array (Option Value)} {f_named : Addr} {oc_named kV_named dc_named pm_named cd_named ct_named : Value} {od_named an_named : Option Addr} {sl_named : Array (Option Value)} {f_orders : Addr} {oc_orders kV_orders dc_orders pm_orders cd_orders ct_orders : Value} {od_orders an_orders : Option Addr} {sl_orders : Array (Option Value)} {f_named_in_order : Addr} {oc_named_in_order kV_named_in_order dc_named_in_order pm_named_in_order cd_named_in_order ct_named_in_order : Value} {od_named_in_order an_named_in_order : Option Addr} {sl_named_in_order : Array (Option Value)} {f_names : Addr} {oc_names kV_names dc_names pm_names cd_names ct_names : Value} {od_names an_names : Option Addr} {sl_names : Array (Option Value)} {f_meeting : Addr} {oc_meeting kV_meeting dc_meeting pm_meeting cd_meeting ct_meeting : Value} {od_meeting an_meeting : Option Addr} {sl_meeting : Array (Option Value)} {f_possible_names : Addr} {oc_possible_names kV_possible_names dc_possible_names pm_possible_names cd_possible_names ct_possible_names : Value} {od_possible_names an_possible_names : Option Addr} {sl_possible_names : Array (Option Value)} {f_law_source : Addr} {oc_law_source kV_law_source dc_law_source pm_law_source cd_law_source ct_law_source : Value} {od_law_source an_law_source : Option Addr} {sl_law_source : Array (Option Value)} {f_law_draw : Addr} {oc_law_draw kV_law_draw dc_law_draw pm_law_draw cd_law_draw ct_law_draw : Value} {od_law_draw an_law_draw : Option Addr} {sl_law_draw : Array (Option Value)} {f_law_one : Addr} {oc_law_one kV_law_one dc_law_one pm_law_one cd_law_one ct_law_one : Value} {od_law_one an_law_one : Option Addr} {sl_law_one : Array (Option Value)} {f_law_stem : Addr} {oc_law_stem kV_law_stem dc_law_stem pm_law_stem cd_law_stem ct_law_stem : Value} {od_law_stem an_law_stem : Option Addr} {sl_law_stem : Array (Option Value)} {f_law_word : Addr} {oc_law_word kV_law_word dc_law_word pm_law_word cd_law_word ct_law_word : Value} {od_law_word an_law_word : Option Addr} {sl_law_word : Array (Option Value)} {f_law_asked : Addr} {oc_law_asked kV_law_asked dc_law_asked pm_law_asked cd_law_asked ct_law_asked : Value} {od_law_asked an_law_asked : Option Addr} {sl_law_asked : Array (Option Value)} {f_law_right : Addr} {oc_law_right kV_law_right dc_law_right pm_law_right cd_law_right ct_law_right : Value} {od_law_right an_law_right : Option Addr} {sl_law_right : Array (Option Value)} {f_law : Addr} {oc_law kV_law dc_law pm_law cd_law ct_law : Value} {od_law an_law : Option Addr} {sl_law : Array (Option Value)} {N : Addr} {f_in : Addr} {oc_in kV_in dc_in pm_in cd_in ct_in : Value} {od_in an_in : Option Addr} {sl_in : Array (Option Value)} {f_q : Addr} {oc_q kV_q dc_q pm_q cd_q ct_q : Value} {od_q an_q : Option Addr} {sl_q : Array (Option Value)} {f_p : Addr} {oc_p kV_p dc_p pm_p cd_p ct_p : Value} {od_p an_p : Option Addr} {sl_p : Array (Option Value)} {C : Addr} {f_ih : Addr} {oc_ih kV_ih dc_ih pm_ih cd_ih ct_ih : Value} {od_ih an_ih : Option Addr} {sl_ih : Array (Option Value)} {f_hm_become : Addr} {oc_hm_become kV_hm_become dc_hm_become pm_hm_become cd_hm_become ct_hm_become : Value} {od_hm_become an_hm_become : Option Addr} {sl_hm_become : Array (Option Value)} {f_hm_let_come : Addr} {oc_hm_let_come kV_hm_let_come dc_hm_let_come pm_hm_let_come cd_hm_let_come ct_hm_let_come : Value} {od_hm_let_come an_hm_let_come : Option Addr} {sl_hm_let_come : Array (Option Value)} {f_hm_let_go : Addr} {oc_hm_let_go kV_hm_let_go dc_hm_let_go pm_hm_let_go cd_hm_let_go ct_hm_let_go : Value} {od_hm_let_go an_hm_let_go : Option Addr} {sl_hm_let_go : Array (Option Value)} {f_hm_check_not_busy : Addr} {oc_hm_check_not_busy kV_hm_check_not_busy dc_hm_check_not_busy pm_hm_check_not_busy cd_hm_check_not_busy ct_hm_check_not_busy : Value} {od_hm_check_not_busy an_hm_check_not_busy : Option Addr} {sl_hm_check_not_busy : Array (Option Value)} {f_hm_add : Addr} {oc_hm_add kV_hm_add dc_hm_add pm_hm_add cd_hm_add ct_hm_add : Value} {od_hm_add an_hm_add : Option Addr} {sl_hm_add : Array (Option Value)} {f_hm_remove : Addr} {oc_hm_remove kV_hm_remove dc_hm_remove pm_hm_remove cd_hm_remove ct_hm_remove : Value} {od_hm_remove an_hm_remove : Option Addr} {sl_hm_remove : Array (Option Value)} {f_hlen : Addr} {oc_hlen kV_hlen dc_hlen pm_hlen cd_hlen ct_hlen : Value} {od_hlen an_hlen : Option Addr} {sl_hlen : Array (Option Value)} {f_hrep : Addr} {oc_hrep kV_hrep dc_hrep pm_hrep cd_hrep ct_hrep : Value} {od_hrep an_hrep : Option Addr} {sl_hrep : Array (Option Value)} {u_MOST_SIGNS : Tok} {u_MOST_TEXT : Tok} {u_MOST_LISTED : Tok} {u_MOST_SHELVED : Tok} {u_SIGNS : Tok} {T_RULES : Addr} {td_RULES : Option Addr} {ts_RULES : Array (Option Value)} {tn_RULES : Nat} {e_RULES_0 e_RULES_1 e_RULES_2 : Tok} {u_LEAST_WIDTH : Tok} {T_DEED_WORDS : Addr} {td_DEED_WORDS : Option Addr} {ts_DEED_WORDS : Array (Option Value)} {tn_DEED_WORDS : Nat} {e_DEED_WORDS_0 e_DEED_WORDS_1 : Tok}
    (X : K.In h) (G : h.Ns mainGlobals mg) (hfa : mg "law" = some (.ref fa))
    (a_is_integer : PySem.W.nsIn K mainGlobals "is_integer" = some (some (.ref f_is_integer)))
    (l_is_integer : K.lookup f_is_integer = some ⟨oc_is_integer, od_is_integer, .func (PySem.W.fnOf "is_integer" "is_integer" (defArgs s_is_integer) (defBody s_is_integer) (defScope s_is_integer) .none kV_is_integer dc_is_integer pm_is_integer an_is_integer cd_is_integer ct_is_integer), sl_is_integer⟩)
    (c_is_integer : PySem.W.codeIn K cd_is_integer "is_integer" = true)
    (k_is_integer : PySem.W.keepIn K (.ref f_is_integer) = true)
    (a_is_tuple : PySem.W.nsIn K mainGlobals "is_tuple" = some (some (.ref f_is_tuple)))
    (l_is_tuple : K.lookup f_is_tuple = some ⟨oc_is_tuple, od_is_tuple, .func (PySem.W.fnOf "is_tuple" "is_tuple" (defArgs s_is_tuple) (defBody s_is_tuple) (defScope s_is_tuple) .none kV_is_tuple dc_is_tuple pm_is_tuple an_is_tuple cd_is_tuple ct_is_tuple), sl_is_tuple⟩)
    (c_is_tuple : PySem.W.codeIn K cd_is_tuple "is_tuple" = true)
    (k_is_tuple : PySem.W.keepIn K (.ref f_is_tuple) = true)
    (a_is_text : PySem.W.nsIn K mainGlobals "is_text" = some (some (.ref f_is_text)))
    (l_is_text : K.lookup f_is_text = some ⟨oc_is_text, od_is_text, .func (PySem.W.fnOf "is_text" "is_text" (defArgs s_is_text) (defBody s_is_text) (defScope s_is_text) .none kV_is_text dc_is_text pm_is_text an_is_text cd_is_text ct_is_text), sl_is_text⟩)
    (c_is_text : PySem.W.codeIn K cd_is_text "is_text" = true)
    (k_is_text : PySem.W.keepIn K (.ref f_is_text) = true)
    (a_check_text : PySem.W.nsIn K mainGlobals "check_text" = some (some (.ref f_check_text)))
    (l_check_text : K.lookup f_check_text = some ⟨oc_check_text, od_check_text, .func (PySem.W.fnOf "check_text" "check_text" (defArgs s_check_text) (defBody s_check_text) (defScope s_check_text) .none kV_check_text dc_check_text pm_check_text an_check_text cd_check_text ct_check_text), sl_check_text⟩)
    (c_check_text : PySem.W.codeIn K cd_check_text "check_text" = true)
    (k_check_text : PySem.W.keepIn K (.ref f_check_text) = true)
    (a_check_texts : PySem.W.nsIn K mainGlobals "check_texts" = some (some (.ref f_check_texts)))
    (l_check_texts : K.lookup f_check_texts = some ⟨oc_check_texts, od_check_texts, .func (PySem.W.fnOf "check_texts" "check_texts" (defArgs s_check_texts) (defBody s_check_texts) (defScope s_check_texts) .none kV_check_texts dc_check_texts pm_check_texts an_check_texts cd_check_texts ct_check_texts), sl_check_texts⟩)
    (c_check_texts : PySem.W.codeIn K cd_check_texts "check_texts" = true)
    (k_check_texts : PySem.W.keepIn K (.ref f_check_texts) = true)
    (a_check_namer : PySem.W.nsIn K mainGlobals "check_namer" = some (some (.ref f_check_namer)))
    (l_check_namer : K.lookup f_check_namer = some ⟨oc_check_namer, od_check_namer, .func (PySem.W.fnOf "check_namer" "check_namer" (defArgs s_check_namer) (defBody s_check_namer) (defScope s_check_namer) .none kV_check_namer dc_check_namer pm_check_namer an_check_namer cd_check_namer ct_check_namer), sl_check_namer⟩)
    (c_check_namer : PySem.W.codeIn K cd_check_namer "check_namer" = true)
    (k_check_namer : PySem.W.keepIn K (.ref f_check_namer) = true)
    (a_base_of : PySem.W.nsIn K mainGlobals "base_of" = some (some (.ref f_base_of)))
    (l_base_of : K.lookup f_base_of = some ⟨oc_base_of, od_base_of, .func (PySem.W.fnOf "base_of" "base_of" (defArgs s_base_of) (defBody s_base_of) (defScope s_base_of) .none kV_base_of dc_base_of pm_base_of an_base_of cd_base_of ct_base_of), sl_base_of⟩)
    (c_base_of : PySem.W.codeIn K cd_base_of "base_of" = true)
    (k_base_of : PySem.W.keepIn K (.ref f_base_of) = true)
    (a_numbered : PySem.W.nsIn K mainGlobals "numbered" = some (some (.ref f_numbered)))
    (l_numbered : K.lookup f_numbered = some ⟨oc_numbered, od_numbered, .func (PySem.W.fnOf "numbered" "numbered" (defArgs s_numbered) (defBody s_numbered) (defScope s_numbered) .none kV_numbered dc_numbered pm_numbered an_numbered cd_numbered ct_numbered), sl_numbered⟩)
    (c_numbered : PySem.W.codeIn K cd_numbered "numbered" = true)
    (k_numbered : PySem.W.keepIn K (.ref f_numbered) = true)
    (a_counted_name : PySem.W.nsIn K mainGlobals "counted_name" = some (some (.ref f_counted_name)))
    (l_counted_name : K.lookup f_counted_name = some ⟨oc_counted_name, od_counted_name, .func (PySem.W.fnOf "counted_name" "counted_name" (defArgs s_counted_name) (defBody s_counted_name) (defScope s_counted_name) .none kV_counted_name dc_counted_name pm_counted_name an_counted_name cd_counted_name ct_counted_name), sl_counted_name⟩)
    (c_counted_name : PySem.W.codeIn K cd_counted_name "counted_name" = true)
    (k_counted_name : PySem.W.keepIn K (.ref f_counted_name) = true)
    (a_free_name : PySem.W.nsIn K mainGlobals "free_name" = some (some (.ref f_free_name)))
    (l_free_name : K.lookup f_free_name = some ⟨oc_free_name, od_free_name, .func (PySem.W.fnOf "free_name" "free_name" (defArgs s_free_name) (defBody s_free_name) (defScope s_free_name) .none kV_free_name dc_free_name pm_free_name an_free_name cd_free_name ct_free_name), sl_free_name⟩)
    (c_free_name : PySem.W.codeIn K cd_free_name "free_name" = true)
    (k_free_name : PySem.W.keepIn K (.ref f_free_name) = true)
    (a_name_of_next : PySem.W.nsIn K mainGlobals "name_of_next" = some (some (.ref f_name_of_next)))
    (l_name_of_next : K.lookup f_name_of_next = some ⟨oc_name_of_next, od_name_of_next, .func (PySem.W.fnOf "name_of_next" "name_of_next" (defArgs s_name_of_next) (defBody s_name_of_next) (defScope s_name_of_next) .none kV_name_of_next dc_name_of_next pm_name_of_next an_name_of_next cd_name_of_next ct_name_of_next), sl_name_of_next⟩)
    (c_name_of_next : PySem.W.codeIn K cd_name_of_next "name_of_next" = true)
    (k_name_of_next : PySem.W.keepIn K (.ref f_name_of_next) = true)
    (a_named : PySem.W.nsIn K mainGlobals "named" = some (some (.ref f_named)))
    (l_named : K.lookup f_named = some ⟨oc_named, od_named, .func (PySem.W.fnOf "named" "named" (defArgs s_named) (defBody s_named) (defScope s_named) .none kV_named dc_named pm_named an_named cd_named ct_named), sl_named⟩)
    (c_named : PySem.W.codeIn K cd_named "named" = true)
    (k_named : PySem.W.keepIn K (.ref f_named) = true)
    (a_orders : PySem.W.nsIn K mainGlobals "orders" = some (some (.ref f_orders)))
    (l_orders : K.lookup f_orders = some ⟨oc_orders, od_orders, .func (PySem.W.fnOf "orders" "orders" (defArgs s_orders) (defBody s_orders) (defScope s_orders) .none kV_orders dc_orders pm_orders an_orders cd_orders ct_orders), sl_orders⟩)
    (c_orders : PySem.W.codeIn K cd_orders "orders" = true)
    (k_orders : PySem.W.keepIn K (.ref f_orders) = true)
    (a_named_in_order : PySem.W.nsIn K mainGlobals "named_in_order" = some (some (.ref f_named_in_order)))
    (l_named_in_order : K.lookup f_named_in_order = some ⟨oc_named_in_order, od_named_in_order, .func (PySem.W.fnOf "named_in_order" "named_in_order" (defArgs s_named_in_order) (defBody s_named_in_order) (defScope s_named_in_order) .none kV_named_in_order dc_named_in_order pm_named_in_order an_named_in_order cd_named_in_order ct_named_in_order), sl_named_in_order⟩)
    (c_named_in_order : PySem.W.codeIn K cd_named_in_order "named_in_order" = true)
    (k_named_in_order : PySem.W.keepIn K (.ref f_named_in_order) = true)
    (a_names : PySem.W.nsIn K mainGlobals "names" = some (some (.ref f_names)))
    (l_names : K.lookup f_names = some ⟨oc_names, od_names, .func (PySem.W.fnOf "names" "names" (defArgs s_names) (defBody s_names) (defScope s_names) .none kV_names dc_names pm_names an_names cd_names ct_names), sl_names⟩)
    (c_names : PySem.W.codeIn K cd_names "names" = true)
    (k_names : PySem.W.keepIn K (.ref f_names) = true)
    (a_meeting : PySem.W.nsIn K mainGlobals "meeting" = some (some (.ref f_meeting)))
    (l_meeting : K.lookup f_meeting = some ⟨oc_meeting, od_meeting, .func (PySem.W.fnOf "meeting" "meeting" (defArgs s_meeting) (defBody s_meeting) (defScope s_meeting) .none kV_meeting dc_meeting pm_meeting an_meeting cd_meeting ct_meeting), sl_meeting⟩)
    (c_meeting : PySem.W.codeIn K cd_meeting "meeting" = true)
    (k_meeting : PySem.W.keepIn K (.ref f_meeting) = true)
    (a_possible_names : PySem.W.nsIn K mainGlobals "possible_names" = some (some (.ref f_possible_names)))
    (l_possible_names : K.lookup f_possible_names = some ⟨oc_possible_names, od_possible_names, .func (PySem.W.fnOf "possible_names" "possible_names" (defArgs s_possible_names) (defBody s_possible_names) (defScope s_possible_names) .none kV_possible_names dc_possible_names pm_possible_names an_possible_names cd_possible_names ct_possible_names), sl_possible_names⟩)
    (c_possible_names : PySem.W.codeIn K cd_possible_names "possible_names" = true)
    (k_possible_names : PySem.W.keepIn K (.ref f_possible_names) = true)
    (a_law_source : PySem.W.nsIn K mainGlobals "_law_source" = some (some (.ref f_law_source)))
    (l_law_source : K.lookup f_law_source = some ⟨oc_law_source, od_law_source, .func (PySem.W.fnOf "_law_source" "_law_source" (defArgs s_law_source) (defBody s_law_source) (defScope s_law_source) .none kV_law_source dc_law_source pm_law_source an_law_source cd_law_source ct_law_source), sl_law_source⟩)
    (c_law_source : PySem.W.codeIn K cd_law_source "_law_source" = true)
    (k_law_source : PySem.W.keepIn K (.ref f_law_source) = true)
    (a_law_draw : PySem.W.nsIn K mainGlobals "_law_draw" = some (some (.ref f_law_draw)))
    (l_law_draw : K.lookup f_law_draw = some ⟨oc_law_draw, od_law_draw, .func (PySem.W.fnOf "_law_draw" "_law_draw" (defArgs s_law_draw) (defBody s_law_draw) (defScope s_law_draw) .none kV_law_draw dc_law_draw pm_law_draw an_law_draw cd_law_draw ct_law_draw), sl_law_draw⟩)
    (c_law_draw : PySem.W.codeIn K cd_law_draw "_law_draw" = true)
    (k_law_draw : PySem.W.keepIn K (.ref f_law_draw) = true)
    (a_law_one : PySem.W.nsIn K mainGlobals "_law_one" = some (some (.ref f_law_one)))
    (l_law_one : K.lookup f_law_one = some ⟨oc_law_one, od_law_one, .func (PySem.W.fnOf "_law_one" "_law_one" (defArgs s_law_one) (defBody s_law_one) (defScope s_law_one) .none kV_law_one dc_law_one pm_law_one an_law_one cd_law_one ct_law_one), sl_law_one⟩)
    (c_law_one : PySem.W.codeIn K cd_law_one "_law_one" = true)
    (k_law_one : PySem.W.keepIn K (.ref f_law_one) = true)
    (a_law_stem : PySem.W.nsIn K mainGlobals "_law_stem" = some (some (.ref f_law_stem)))
    (l_law_stem : K.lookup f_law_stem = some ⟨oc_law_stem, od_law_stem, .func (PySem.W.fnOf "_law_stem" "_law_stem" (defArgs s_law_stem) (defBody s_law_stem) (defScope s_law_stem) .none kV_law_stem dc_law_stem pm_law_stem an_law_stem cd_law_stem ct_law_stem), sl_law_stem⟩)
    (c_law_stem : PySem.W.codeIn K cd_law_stem "_law_stem" = true)
    (k_law_stem : PySem.W.keepIn K (.ref f_law_stem) = true)
    (a_law_word : PySem.W.nsIn K mainGlobals "_law_word" = some (some (.ref f_law_word)))
    (l_law_word : K.lookup f_law_word = some ⟨oc_law_word, od_law_word, .func (PySem.W.fnOf "_law_word" "_law_word" (defArgs s_law_word) (defBody s_law_word) (defScope s_law_word) .none kV_law_word dc_law_word pm_law_word an_law_word cd_law_word ct_law_word), sl_law_word⟩)
    (c_law_word : PySem.W.codeIn K cd_law_word "_law_word" = true)
    (k_law_word : PySem.W.keepIn K (.ref f_law_word) = true)
    (a_law_asked : PySem.W.nsIn K mainGlobals "_law_asked" = some (some (.ref f_law_asked)))
    (l_law_asked : K.lookup f_law_asked = some ⟨oc_law_asked, od_law_asked, .func (PySem.W.fnOf "_law_asked" "_law_asked" (defArgs s_law_asked) (defBody s_law_asked) (defScope s_law_asked) .none kV_law_asked dc_law_asked pm_law_asked an_law_asked cd_law_asked ct_law_asked), sl_law_asked⟩)
    (c_law_asked : PySem.W.codeIn K cd_law_asked "_law_asked" = true)
    (k_law_asked : PySem.W.keepIn K (.ref f_law_asked) = true)
    (a_law_right : PySem.W.nsIn K mainGlobals "_law_right" = some (some (.ref f_law_right)))
    (l_law_right : K.lookup f_law_right = some ⟨oc_law_right, od_law_right, .func (PySem.W.fnOf "_law_right" "_law_right" (defArgs s_law_right) (defBody s_law_right) (defScope s_law_right) .none kV_law_right dc_law_right pm_law_right an_law_right cd_law_right ct_law_right), sl_law_right⟩)
    (c_law_right : PySem.W.codeIn K cd_law_right "_law_right" = true)
    (k_law_right : PySem.W.keepIn K (.ref f_law_right) = true)
    (a_law : PySem.W.nsIn K mainGlobals "law" = some (some (.ref f_law)))
    (l_law : K.lookup f_law = some ⟨oc_law, od_law, .func (PySem.W.fnOf "law" "law" (defArgs s_law) (defBody s_law) (defScope s_law) .none kV_law dc_law pm_law an_law cd_law ct_law), sl_law⟩)
    (c_law : PySem.W.codeIn K cd_law "law" = true)
    (k_law : PySem.W.keepIn K (.ref f_law) = true)
    (qn : PySem.W.specialIn K (.builtin "object.__class__") "__get__" = some (some (.builtin "getset_descriptor.__get__")))
    (qt : PySem.W.takesIn K (.builtin "object.__class__") = some true)
    (anC : PySem.W.nsIn K mainGlobals "Namer" = some (some (.ref N)))
    (a_in : PySem.W.findIn K (.ref N) "__init__" = some (some (.ref f_in)))
    (l_in : K.lookup f_in = some ⟨oc_in, od_in, .func (PySem.W.fnOf "__init__" "Namer.__init__" (defArgs s_Namer_init) (defBody s_Namer_init) (defScope s_Namer_init) .none kV_in dc_in pm_in an_in cd_in ct_in), sl_in⟩)
    (c_in : PySem.W.codeIn K cd_in "Namer.__init__" = true)
    (k_in : PySem.W.keepIn K (.ref f_in) = true)
    (i_in : PySem.W.isFn K (.ref f_in) = true)
    (pgn : PySem.W.plainGet K N Str.empty = true)
    (hdn : PySem.W.hasDictIn K N = true)
    (pon : PySem.W.plainOver K N = true)
    (san : PySem.W.findIn K (.ref N) "__setattr__" = some (some (.builtin "object.__setattr__")))
    (mknC : PySem.W.makesIn K N = true)
    (knC : PySem.W.keepIn K (.ref N) = true)
    (nn_rule : PySem.W.findIn K (.ref N) "rule" = some none)
    (nn_width : PySem.W.findIn K (.ref N) "width" = some none)
    (qan : PySem.W.findIn K (.ref N) "__class__" = some (some (.builtin "object.__class__")))
    (qmn : PySem.W.mroIn K N (.type "object") = some true)
    (a_q : PySem.W.findIn K (.ref N) "__eq__" = some (some (.ref f_q)))
    (l_q : K.lookup f_q = some ⟨oc_q, od_q, .func (PySem.W.fnOf "__eq__" "Namer.__eq__" (defArgs s_Namer_eq) (defBody s_Namer_eq) (defScope s_Namer_eq) .none kV_q dc_q pm_q an_q cd_q ct_q), sl_q⟩)
    (c_q : PySem.W.codeIn K cd_q "Namer.__eq__" = true)
    (k_q : PySem.W.keepIn K (.ref f_q) = true)
    (i_q : PySem.W.isFn K (.ref f_q) = true)
    (a_p : PySem.W.findIn K (.ref N) "__repr__" = some (some (.ref f_p)))
    (l_p : K.lookup f_p = some ⟨oc_p, od_p, .func (PySem.W.fnOf "__repr__" "Namer.__repr__" (defArgs s_Namer_repr) (defBody s_Namer_repr) (defScope s_Namer_repr) .none kV_p dc_p pm_p an_p cd_p ct_p), sl_p⟩)
    (c_p : PySem.W.codeIn K cd_p "Namer.__repr__" = true)
    (k_p : PySem.W.keepIn K (.ref f_p) = true)
    (i_p : PySem.W.isFn K (.ref f_p) = true)
    (o_ci : PySem.W.isClsIn K N = true)
    (o_ti : PySem.W.typeIn K (.ref N) = some (.type "type"))
    (o_ne : PySem.W.findIn K (.ref N) "__ne__" = some (some (.builtin "object.__ne__")))
    (o_nb : PySem.W.findIn K (.ref N) "__bool__" = some none)
    (o_nl : PySem.W.findIn K (.ref N) "__len__" = some none)
    (ahC : PySem.W.nsIn K mainGlobals "Shelf" = some (some (.ref C)))
    (a_ih : PySem.W.findIn K (.ref C) "__init__" = some (some (.ref f_ih)))
    (l_ih : K.lookup f_ih = some ⟨oc_ih, od_ih, .func (PySem.W.fnOf "__init__" "Shelf.__init__" (defArgs s_Shelf_init) (defBody s_Shelf_init) (defScope s_Shelf_init) .none kV_ih dc_ih pm_ih an_ih cd_ih ct_ih), sl_ih⟩)
    (c_ih : PySem.W.codeIn K cd_ih "Shelf.__init__" = true)
    (k_ih : PySem.W.keepIn K (.ref f_ih) = true)
    (i_ih : PySem.W.isFn K (.ref f_ih) = true)
    (pgh : PySem.W.plainGet K C Str.empty = true)
    (hdh : PySem.W.hasDictIn K C = true)
    (poh : PySem.W.plainOver K C = true)
    (sah : PySem.W.findIn K (.ref C) "__setattr__" = some (some (.builtin "object.__setattr__")))
    (mkhC : PySem.W.makesIn K C = true)
    (khC : PySem.W.keepIn K (.ref C) = true)
    (nh_namer : PySem.W.findIn K (.ref C) "namer" = some none)
    (nh_busy : PySem.W.findIn K (.ref C) "busy" = some none)
    (nh_texts : PySem.W.findIn K (.ref C) "texts" = some none)
    (nh_names : PySem.W.findIn K (.ref C) "names" = some none)
    (nh_past : PySem.W.findIn K (.ref C) "past" = some none)
    (qah : PySem.W.findIn K (.ref C) "__class__" = some (some (.builtin "object.__class__")))
    (qmh : PySem.W.mroIn K C (.type "object") = some true)
    (a_hm_become : PySem.W.findIn K (.ref C) "become" = some (some (.ref f_hm_become)))
    (l_hm_become : K.lookup f_hm_become = some ⟨oc_hm_become, od_hm_become, .func (PySem.W.fnOf "become" "Shelf.become" (defArgs s_Shelf_become) (defBody s_Shelf_become) (defScope s_Shelf_become) .none kV_hm_become dc_hm_become pm_hm_become an_hm_become cd_hm_become ct_hm_become), sl_hm_become⟩)
    (c_hm_become : PySem.W.codeIn K cd_hm_become "Shelf.become" = true)
    (k_hm_become : PySem.W.keepIn K (.ref f_hm_become) = true)
    (i_hm_become : PySem.W.isFn K (.ref f_hm_become) = true)
    (a_hm_let_come : PySem.W.findIn K (.ref C) "let_come" = some (some (.ref f_hm_let_come)))
    (l_hm_let_come : K.lookup f_hm_let_come = some ⟨oc_hm_let_come, od_hm_let_come, .func (PySem.W.fnOf "let_come" "Shelf.let_come" (defArgs s_Shelf_let_come) (defBody s_Shelf_let_come) (defScope s_Shelf_let_come) .none kV_hm_let_come dc_hm_let_come pm_hm_let_come an_hm_let_come cd_hm_let_come ct_hm_let_come), sl_hm_let_come⟩)
    (c_hm_let_come : PySem.W.codeIn K cd_hm_let_come "Shelf.let_come" = true)
    (k_hm_let_come : PySem.W.keepIn K (.ref f_hm_let_come) = true)
    (i_hm_let_come : PySem.W.isFn K (.ref f_hm_let_come) = true)
    (a_hm_let_go : PySem.W.findIn K (.ref C) "let_go" = some (some (.ref f_hm_let_go)))
    (l_hm_let_go : K.lookup f_hm_let_go = some ⟨oc_hm_let_go, od_hm_let_go, .func (PySem.W.fnOf "let_go" "Shelf.let_go" (defArgs s_Shelf_let_go) (defBody s_Shelf_let_go) (defScope s_Shelf_let_go) .none kV_hm_let_go dc_hm_let_go pm_hm_let_go an_hm_let_go cd_hm_let_go ct_hm_let_go), sl_hm_let_go⟩)
    (c_hm_let_go : PySem.W.codeIn K cd_hm_let_go "Shelf.let_go" = true)
    (k_hm_let_go : PySem.W.keepIn K (.ref f_hm_let_go) = true)
    (i_hm_let_go : PySem.W.isFn K (.ref f_hm_let_go) = true)
    (a_hm_check_not_busy : PySem.W.findIn K (.ref C) "check_not_busy" = some (some (.ref f_hm_check_not_busy)))
    (l_hm_check_not_busy : K.lookup f_hm_check_not_busy = some ⟨oc_hm_check_not_busy, od_hm_check_not_busy, .func (PySem.W.fnOf "check_not_busy" "Shelf.check_not_busy" (defArgs s_Shelf_check_not_busy) (defBody s_Shelf_check_not_busy) (defScope s_Shelf_check_not_busy) .none kV_hm_check_not_busy dc_hm_check_not_busy pm_hm_check_not_busy an_hm_check_not_busy cd_hm_check_not_busy ct_hm_check_not_busy), sl_hm_check_not_busy⟩)
    (c_hm_check_not_busy : PySem.W.codeIn K cd_hm_check_not_busy "Shelf.check_not_busy" = true)
    (k_hm_check_not_busy : PySem.W.keepIn K (.ref f_hm_check_not_busy) = true)
    (i_hm_check_not_busy : PySem.W.isFn K (.ref f_hm_check_not_busy) = true)
    (a_hm_add : PySem.W.findIn K (.ref C) "add" = some (some (.ref f_hm_add)))
    (l_hm_add : K.lookup f_hm_add = some ⟨oc_hm_add, od_hm_add, .func (PySem.W.fnOf "add" "Shelf.add" (defArgs s_Shelf_add) (defBody s_Shelf_add) (defScope s_Shelf_add) .none kV_hm_add dc_hm_add pm_hm_add an_hm_add cd_hm_add ct_hm_add), sl_hm_add⟩)
    (c_hm_add : PySem.W.codeIn K cd_hm_add "Shelf.add" = true)
    (k_hm_add : PySem.W.keepIn K (.ref f_hm_add) = true)
    (i_hm_add : PySem.W.isFn K (.ref f_hm_add) = true)
    (a_hm_remove : PySem.W.findIn K (.ref C) "remove" = some (some (.ref f_hm_remove)))
    (l_hm_remove : K.lookup f_hm_remove = some ⟨oc_hm_remove, od_hm_remove, .func (PySem.W.fnOf "remove" "Shelf.remove" (defArgs s_Shelf_remove) (defBody s_Shelf_remove) (defScope s_Shelf_remove) .none kV_hm_remove dc_hm_remove pm_hm_remove an_hm_remove cd_hm_remove ct_hm_remove), sl_hm_remove⟩)
    (c_hm_remove : PySem.W.codeIn K cd_hm_remove "Shelf.remove" = true)
    (k_hm_remove : PySem.W.keepIn K (.ref f_hm_remove) = true)
    (i_hm_remove : PySem.W.isFn K (.ref f_hm_remove) = true)
    (a_hlen : PySem.W.findIn K (.ref C) "__len__" = some (some (.ref f_hlen)))
    (l_hlen : K.lookup f_hlen = some ⟨oc_hlen, od_hlen, .func (PySem.W.fnOf "__len__" "Shelf.__len__" (defArgs s_Shelf_len) (defBody s_Shelf_len) (defScope s_Shelf_len) .none kV_hlen dc_hlen pm_hlen an_hlen cd_hlen ct_hlen), sl_hlen⟩)
    (c_hlen : PySem.W.codeIn K cd_hlen "Shelf.__len__" = true)
    (k_hlen : PySem.W.keepIn K (.ref f_hlen) = true)
    (i_hlen : PySem.W.isFn K (.ref f_hlen) = true)
    (a_hrep : PySem.W.findIn K (.ref C) "__repr__" = some (some (.ref f_hrep)))
    (l_hrep : K.lookup f_hrep = some ⟨oc_hrep, od_hrep, .func (PySem.W.fnOf "__repr__" "Shelf.__repr__" (defArgs s_Shelf_repr) (defBody s_Shelf_repr) (defScope s_Shelf_repr) .none kV_hrep dc_hrep pm_hrep an_hrep cd_hrep ct_hrep), sl_hrep⟩)
    (c_hrep : PySem.W.codeIn K cd_hrep "Shelf.__repr__" = true)
    (k_hrep : PySem.W.keepIn K (.ref f_hrep) = true)
    (i_hrep : PySem.W.isFn K (.ref f_hrep) = true)
    (oeh : PySem.W.findIn K (.ref C) "__eq__" = some (some (.builtin "object.__eq__")))
    (onh : PySem.W.findIn K (.ref C) "__ne__" = some (some (.builtin "object.__ne__")))
    (oth : PySem.W.mroIn K C (.type "tuple") = some false)
    (fx_neh : (C == N) = false)
    (fx_ah : PySem.W.mroIn K N (.ref C) = some false)
    (fx_bh : PySem.W.mroIn K C (.ref N) = some false)
    (fx_kh : PySem.W.kitOne K (.ref C) (.ref N) = some false)
    (nbh : PySem.W.findIn K (.ref C) "__bool__" = some none)
    (z_ArithmeticError : PySem.W.nsIn K mainGlobals "ArithmeticError" = some none)
    (z_LookupError : PySem.W.nsIn K mainGlobals "LookupError" = some none)
    (z_ValueError : PySem.W.nsIn K mainGlobals "ValueError" = some none)
    (z_abs : PySem.W.nsIn K mainGlobals "abs" = some none)
    (z_all : PySem.W.nsIn K mainGlobals "all" = some none)
    (z_bool : PySem.W.nsIn K mainGlobals "bool" = some none)
    (z_divmod : PySem.W.nsIn K mainGlobals "divmod" = some none)
    (z_enumerate : PySem.W.nsIn K mainGlobals "enumerate" = some none)
    (z_int : PySem.W.nsIn K mainGlobals "int" = some none)
    (z_isinstance : PySem.W.nsIn K mainGlobals "isinstance" = some none)
    (z_len : PySem.W.nsIn K mainGlobals "len" = some none)
    (z_max : PySem.W.nsIn K mainGlobals "max" = some none)
    (z_min : PySem.W.nsIn K mainGlobals "min" = some none)
    (z_range : PySem.W.nsIn K mainGlobals "range" = some none)
    (z_repr : PySem.W.nsIn K mainGlobals "repr" = some none)
    (z_set : PySem.W.nsIn K mainGlobals "set" = some none)
    (z_sorted : PySem.W.nsIn K mainGlobals "sorted" = some none)
    (z_str : PySem.W.nsIn K mainGlobals "str" = some none)
    (z_tuple : PySem.W.nsIn K mainGlobals "tuple" = some none)
    (z_MOST_SIGNS : PySem.W.nsIn K mainGlobals "MOST_SIGNS" = some (some (.int 40 u_MOST_SIGNS)))
    (z_MOST_TEXT : PySem.W.nsIn K mainGlobals "MOST_TEXT" = some (some (.int 200 u_MOST_TEXT)))
    (z_MOST_LISTED : PySem.W.nsIn K mainGlobals "MOST_LISTED" = some (some (.int 6 u_MOST_LISTED)))
    (z_MOST_SHELVED : PySem.W.nsIn K mainGlobals "MOST_SHELVED" = some (some (.int 20 u_MOST_SHELVED)))
    (z_SIGNS : PySem.W.nsIn K mainGlobals "SIGNS" = some (some (.str ".0123456789abcdefghijklmnopqrstuvwxyz~" u_SIGNS)))
    (z_RULES : PySem.W.nsIn K mainGlobals "RULES" = some (some (.ref T_RULES)))
    (zl_RULES : K.lookup T_RULES = some ⟨.type "tuple", td_RULES, .seq #[.str "count" e_RULES_0, .str "free" e_RULES_1, .str "tight" e_RULES_2] tn_RULES, ts_RULES⟩)
    (z_LEAST_WIDTH : PySem.W.nsIn K mainGlobals "LEAST_WIDTH" = some (some (.int 6 u_LEAST_WIDTH)))
    (z_DEED_WORDS : PySem.W.nsIn K mainGlobals "DEED_WORDS" = some (some (.ref T_DEED_WORDS)))
    (zl_DEED_WORDS : K.lookup T_DEED_WORDS = some ⟨.type "tuple", td_DEED_WORDS, .seq #[.str "add" e_DEED_WORDS_0, .str "remove" e_DEED_WORDS_1] tn_DEED_WORDS, ts_DEED_WORDS⟩) :
    ∃ fd : FuncData, (∀ (s : Shared) (u : Value), BindsTo s fd ⟨[u], []⟩ [("_law_script", u)]) ∧ ∀ base : Heap, K.In base → base.Ns mainGlobals mg → FnG l.prog w K mg base 9 fa fd ["_law_script"] (spLaw K) := by
  have e := hfa.symm.trans (PySem.W.mg_of X G a_law)
  cases e
  have B : Bi mg := ⟨PySem.W.mg_none_of X G z_ArithmeticError, PySem.W.mg_none_of X G z_LookupError, PySem.W.mg_none_of X G z_ValueError, PySem.W.mg_none_of X G z_abs, PySem.W.mg_none_of X G z_all, PySem.W.mg_none_of X G z_bool, PySem.W.mg_none_of X G z_divmod, PySem.W.mg_none_of X G z_enumerate, PySem.W.mg_none_of X G z_int, PySem.W.mg_none_of X G z_isinstance, PySem.W.mg_none_of X G z_len, PySem.W.mg_none_of X G z_max, PySem.W.mg_none_of X G z_min, PySem.W.mg_none_of X G z_range, PySem.W.mg_none_of X G z_repr, PySem.W.mg_none_of X G z_set, PySem.W.mg_none_of X G z_sorted, PySem.W.mg_none_of X G z_str, PySem.W.mg_none_of X G z_tuple, cst_mk X G ⟨_, rfl⟩ z_MOST_SIGNS, cst_mk X G ⟨_, rfl⟩ z_MOST_TEXT, cst_mk X G ⟨_, rfl⟩ z_MOST_LISTED, cst_mk X G ⟨_, rfl⟩ z_MOST_SHELVED, cst_mk X G ⟨_, rfl⟩ z_SIGNS, cst_mk X G ⟨_, rfl⟩ z_LEAST_WIDTH⟩
  have Sn : NmC K mg N := ⟨⟨pgn, hdn, pon, san⟩, nn_rule, nn_width, PySem.W.mg_of X G anC, qan, qn, qt, qmn, if_pos (beq_self_eq_true _), ⟨T_RULES, PySem.W.mg_of X G z_RULES, fun H => .inr ⟨_, _, _, zl_RULES, rfl, rfl, by show 3 ≤ sizeLine; decide, (.cons ⟨_, rfl⟩ (.cons ⟨_, rfl⟩ (.cons ⟨_, rfl⟩ .nil)))⟩⟩⟩
  have Z : ShE K N := ⟨o_ci, o_ti, o_ne, o_nb, o_nl, qmn, ⟨f_q, _, a_q, i_q, fun_mk l_q c_q k_q, (fun_mk l_q c_q k_q).binds fun _ _ _ _ _ _ us hl => match us, hl with | [_, _], _ => rfl⟩, ⟨f_p, _, a_p, i_p, fun_mk l_p c_p k_p, (fun_mk l_p c_p k_p).binds fun _ _ _ _ _ _ us hl => match us, hl with | [_], _ => rfl⟩⟩
  have In : NInitAt K N := ⟨f_in, _, ⟨mknC, a_in, i_in, knC⟩, fun_mk l_in c_in k_in, (fun_mk l_in c_in k_in).binds fun _ _ _ _ _ _ us hl => match us, hl with | [_, _, _], _ => rfl⟩
  have Sh : ShlC K mg C := ⟨⟨pgh, hdh, poh, sah⟩, nh_namer, nh_busy, nh_texts, nh_names, nh_past, PySem.W.mg_of X G ahC⟩
  have D_Shelf_become : MethAt K C "become" "Shelf.become" s_Shelf_become ps_Shelf_become := ⟨f_hm_become, _, ⟨a_hm_become, i_hm_become, k_hm_become⟩, fun_mk l_hm_become c_hm_become k_hm_become, (fun_mk l_hm_become c_hm_become k_hm_become).binds fun _ _ _ _ _ _ us hl => match us, hl with | [_, _, _], _ => rfl⟩
  have D_Shelf_let_come : MethAt K C "let_come" "Shelf.let_come" s_Shelf_let_come ps_Shelf_let_come := ⟨f_hm_let_come, _, ⟨a_hm_let_come, i_hm_let_come, k_hm_let_come⟩, fun_mk l_hm_let_come c_hm_let_come k_hm_let_come, (fun_mk l_hm_let_come c_hm_let_come k_hm_let_come).binds fun _ _ _ _ _ _ us hl => match us, hl with | [_, _], _ => rfl⟩
  have D_Shelf_let_go : MethAt K C "let_go" "Shelf.let_go" s_Shelf_let_go ps_Shelf_let_go := ⟨f_hm_let_go, _, ⟨a_hm_let_go, i_hm_let_go, k_hm_let_go⟩, fun_mk l_hm_let_go c_hm_let_go k_hm_let_go, (fun_mk l_hm_let_go c_hm_let_go k_hm_let_go).binds fun _ _ _ _ _ _ us hl => match us, hl with | [_, _], _ => rfl⟩
  have D_Shelf_check_not_busy : MethAt K C "check_not_busy" "Shelf.check_not_busy" s_Shelf_check_not_busy ps_Shelf_check_not_busy := ⟨f_hm_check_not_busy, _, ⟨a_hm_check_not_busy, i_hm_check_not_busy, k_hm_check_not_busy⟩, fun_mk l_hm_check_not_busy c_hm_check_not_busy k_hm_check_not_busy, (fun_mk l_hm_check_not_busy c_hm_check_not_busy k_hm_check_not_busy).binds fun _ _ _ _ _ _ us hl => match us, hl with | [_], _ => rfl⟩
  have D_Shelf_add : MethAt K C "add" "Shelf.add" s_Shelf_add ps_Shelf_add := ⟨f_hm_add, _, ⟨a_hm_add, i_hm_add, k_hm_add⟩, fun_mk l_hm_add c_hm_add k_hm_add, (fun_mk l_hm_add c_hm_add k_hm_add).binds fun _ _ _ _ _ _ us hl => match us, hl with | [_, _], _ => rfl⟩
  have D_Shelf_remove : MethAt K C "remove" "Shelf.remove" s_Shelf_remove ps_Shelf_remove := ⟨f_hm_remove, _, ⟨a_hm_remove, i_hm_remove, k_hm_remove⟩, fun_mk l_hm_remove c_hm_remove k_hm_remove, (fun_mk l_hm_remove c_hm_remove k_hm_remove).binds fun _ _ _ _ _ _ us hl => match us, hl with | [_, _], _ => rfl⟩
  have D_Shelf_len : LenFn K C := ⟨f_hlen, _, a_hlen, i_hlen, fun_mk l_hlen c_hlen k_hlen, (fun_mk l_hlen c_hlen k_hlen).binds fun _ _ _ _ _ _ us hl => match us, hl with | [_], _ => rfl⟩
  have D_Shelf_repr : RepFn K C := ⟨f_hrep, _, a_hrep, i_hrep, fun_mk l_hrep c_hrep k_hrep, (fun_mk l_hrep c_hrep k_hrep).binds fun _ _ _ _ _ _ us hl => match us, hl with | [_], _ => rfl⟩
  have Oh : ObjE K C := ⟨oeh, onh, qmh, oth, fun e => .base (.ins e ⟨pgh, hdh, poh, sah⟩ qah qn qt qmh)⟩
  have CNh : C ≠ N := fun z => by rw [z, beq_self_eq_true] at fx_neh; cases fx_neh
  have Ih : ShInitAt K C := ⟨f_ih, _, ⟨mkhC, a_ih, i_ih, khC⟩, fun_mk l_ih c_ih k_ih, (fun_mk l_ih c_ih k_ih).binds fun _ _ _ _ _ _ us hl => match us, hl with | [_, _], _ => rfl⟩
  have A_is_integer : At K mg "is_integer" s_is_integer ps_is_integer := at_mk X G (fun _ _ _ _ _ _ us hl => match us, hl with | [_, _, _], _ => rfl) a_is_integer l_is_integer c_is_integer k_is_integer
  have A_is_tuple : At K mg "is_tuple" s_is_tuple ps_is_tuple := at_mk X G (fun _ _ _ _ _ _ us hl => match us, hl with | [_, _, _], _ => rfl) a_is_tuple l_is_tuple c_is_tuple k_is_tuple
  have A_is_text : At K mg "is_text" s_is_text ps_is_text := at_mk X G (fun _ _ _ _ _ _ us hl => match us, hl with | [_, _], _ => rfl) a_is_text l_is_text c_is_text k_is_text
  have A_check_text : At K mg "check_text" s_check_text ps_check_text := at_mk X G (fun _ _ _ _ _ _ us hl => match us, hl with | [_], _ => rfl) a_check_text l_check_text c_check_text k_check_text
  have A_check_texts : At K mg "check_texts" s_check_texts ps_check_texts := at_mk X G (fun _ _ _ _ _ _ us hl => match us, hl with | [_, _], _ => rfl) a_check_texts l_check_texts c_check_texts k_check_texts
  have A_check_namer : At K mg "check_namer" s_check_namer ps_check_namer := at_mk X G (fun _ _ _ _ _ _ us hl => match us, hl with | [_], _ => rfl) a_check_namer l_check_namer c_check_namer k_check_namer
  have A_base_of : At K mg "base_of" s_base_of ps_base_of := at_mk X G (fun _ _ _ _ _ _ us hl => match us, hl with | [_, _], _ => rfl) a_base_of l_base_of c_base_of k_base_of
  have A_numbered : At K mg "numbered" s_numbered ps_numbered := at_mk X G (fun _ _ _ _ _ _ us hl => match us, hl with | [_, _, _], _ => rfl) a_numbered l_numbered c_numbered k_numbered
  have A_counted_name : At K mg "counted_name" s_counted_name ps_counted_name := at_mk X G (fun _ _ _ _ _ _ us hl => match us, hl with | [_, _, _], _ => rfl) a_counted_name l_counted_name c_counted_name k_counted_name
  have A_free_name : At K mg "free_name" s_free_name ps_free_name := at_mk X G (fun _ _ _ _ _ _ us hl => match us, hl with | [_, _, _], _ => rfl) a_free_name l_free_name c_free_name k_free_name
  have A_name_of_next : At K mg "name_of_next" s_name_of_next ps_name_of_next := at_mk X G (fun _ _ _ _ _ _ us hl => match us, hl with | [_, _, _, _], _ => rfl) a_name_of_next l_name_of_next c_name_of_next k_name_of_next
  have A_named : At K mg "named" s_named ps_named := at_mk X G (fun _ _ _ _ _ _ us hl => match us, hl with | [_, _], _ => rfl) a_named l_named c_named k_named
  have A_orders : At K mg "orders" s_orders ps_orders := at_mk X G (fun _ _ _ _ _ _ us hl => match us, hl with | [_], _ => rfl) a_orders l_orders c_orders k_orders
  have A_named_in_order : At K mg "named_in_order" s_named_in_order ps_named_in_order := at_mk X G (fun _ _ _ _ _ _ us hl => match us, hl with | [_, _, _], _ => rfl) a_named_in_order l_named_in_order c_named_in_order k_named_in_order
  have A_names : At K mg "names" s_names ps_names := at_mk X G (fun _ _ _ _ _ _ us hl => match us, hl with | [_, _], _ => rfl) a_names l_names c_names k_names
  have A_meeting : At K mg "meeting" s_meeting ps_meeting := at_mk X G (fun _ _ _ _ _ _ us hl => match us, hl with | [_, _], _ => rfl) a_meeting l_meeting c_meeting k_meeting
  have A_possible_names : At K mg "possible_names" s_possible_names ps_possible_names := at_mk X G (fun _ _ _ _ _ _ us hl => match us, hl with | [_, _, _], _ => rfl) a_possible_names l_possible_names c_possible_names k_possible_names
  have A_law_source : At K mg "_law_source" s_law_source ps_law_source := at_mk X G (fun _ _ _ _ _ _ us hl => match us, hl with | [_, _], _ => rfl) a_law_source l_law_source c_law_source k_law_source
  have A_law_draw : At K mg "_law_draw" s_law_draw ps_law_draw := at_mk X G (fun _ _ _ _ _ _ us hl => match us, hl with | [_, _], _ => rfl) a_law_draw l_law_draw c_law_draw k_law_draw
  have A_law_one : At K mg "_law_one" s_law_one ps_law_one := at_mk X G (fun _ _ _ _ _ _ us hl => match us, hl with | [_, _], _ => rfl) a_law_one l_law_one c_law_one k_law_one
  have A_law_stem : At K mg "_law_stem" s_law_stem ps_law_stem := at_mk X G (fun _ _ _ _ _ _ us hl => match us, hl with | [_, _], _ => rfl) a_law_stem l_law_stem c_law_stem k_law_stem
  have A_law_word : At K mg "_law_word" s_law_word ps_law_word := at_mk X G (fun _ _ _ _ _ _ us hl => match us, hl with | [_, _], _ => rfl) a_law_word l_law_word c_law_word k_law_word
  have A_law_asked : At K mg "_law_asked" s_law_asked ps_law_asked := at_mk X G (fun _ _ _ _ _ _ us hl => match us, hl with | [_], _ => rfl) a_law_asked l_law_asked c_law_asked k_law_asked
  have A_law_right : At K mg "_law_right" s_law_right ps_law_right := at_mk X G (fun _ _ _ _ _ _ us hl => match us, hl with | [_], _ => rfl) a_law_right l_law_right c_law_right k_law_right
  refine ⟨PySem.W.fnOf "law" "law" (defArgs s_law) (defBody s_law) (defScope s_law) .none kV_law dc_law pm_law an_law cd_law ct_law, fun s v => .of_eq rfl, fun base _ _ => ?_⟩
  · exact fin B     Sn In Z Sh Ih Oh CNh fx_ah fx_bh fx_kh D_Shelf_become D_Shelf_let_come D_Shelf_let_go D_Shelf_check_not_busy D_Shelf_add D_Shelf_remove D_Shelf_len D_Shelf_repr nbh A_is_integer A_is_tuple A_is_text A_check_text A_check_texts A_check_namer A_base_of A_numbered A_counted_name A_free_name A_name_of_next A_named A_orders A_named_in_order A_names A_meeting A_possible_names A_law_source A_law_draw A_law_one A_law_stem A_law_word A_law_asked A_law_right (fun_mk l_law c_law k_law)
end Gu
open PySem PySem.W PyProof.Rows
set_option maxHeartbeats 0 in
theorem PySem.Challenge.cw_shownshort_k61_namers_and_shelves_as_val_holds : PySem.Challenge.rw_shownshort_k61_namers_and_shelves_as_val.Holds := by
  w_on; o_law; k_head; (case hw => w_witness2)
  k_fill
  refine Gu.walkG (l := PySem.Challenge.rw_shownshort_k61_namers_and_shelves_as_val) (n := 63) (k := 9) (x := "_law_script") (sp := Gu.spLaw) rfl (by decide) rfl ⟨rfl, by decide, by decide⟩ (fun w h Y => PySem.W.kIn_of Y) ?F (fun _ _ a ns hl hS => ⟨a, ns, rfl, hS, hl, fun _ => rfl⟩)
  case F =>
    intro w mg fa h KX G hmg
    refine' Gu.all_mk KX G hmg ?a_is_integer ?l_is_integer ?c_is_integer ?k_is_integer ?a_is_tuple ?l_is_tuple ?c_is_tuple ?k_is_tuple ?a_is_text ?l_is_text ?c_is_text ?k_is_text ?a_check_text ?l_check_text ?c_check_text ?k_check_text ?a_check_texts ?l_check_texts ?c_check_texts ?k_check_texts ?a_check_namer ?l_check_namer ?c_check_namer ?k_check_namer ?a_base_of ?l_base_of ?c_base_of ?k_base_of ?a_numbered ?l_numbered ?c_numbered ?k_numbered ?a_counted_name ?l_counted_name ?c_counted_name ?k_counted_name ?a_free_name ?l_free_name ?c_free_name ?k_free_name ?a_name_of_next ?l_name_of_next ?c_name_of_next ?k_name_of_next ?a_named ?l_named ?c_named ?k_named ?a_orders ?l_orders ?c_orders ?k_orders ?a_named_in_order ?l_named_in_order ?c_named_in_order ?k_named_in_order ?a_names ?l_names ?c_names ?k_names ?a_meeting ?l_meeting ?c_meeting ?k_meeting ?a_possible_names ?l_possible_names ?c_possible_names ?k_possible_names ?a_law_source ?l_law_source ?c_law_source ?k_law_source ?a_law_draw ?l_law_draw ?c_law_draw ?k_law_draw ?a_law_one ?l_law_one ?c_law_one ?k_law_one ?a_law_stem ?l_law_stem ?c_law_stem ?k_law_stem ?a_law_word ?l_law_word ?c_law_word ?k_law_word ?a_law_asked ?l_law_asked ?c_law_asked ?k_law_asked ?a_law_right ?l_law_right ?c_law_right ?k_law_right ?a_law ?l_law ?c_law ?k_law ?qn ?qt ?anC ?a_in ?l_in ?c_in ?k_in ?i_in ?pgn ?hdn ?pon ?san ?mknC ?knC ?nn_rule ?nn_width ?qan ?qmn ?a_q ?l_q ?c_q ?k_q ?i_q ?a_p ?l_p ?c_p ?k_p ?i_p ?o_ci ?o_ti ?o_ne ?o_nb ?o_nl ?ahC ?a_ih ?l_ih ?c_ih ?k_ih ?i_ih ?pgh ?hdh ?poh ?sah ?mkhC ?khC ?nh_namer ?nh_busy ?nh_texts ?nh_names ?nh_past ?qah ?qmh ?a_hm_become ?l_hm_become ?c_hm_become ?k_hm_become ?i_hm_become ?a_hm_let_come ?l_hm_let_come ?c_hm_let_come ?k_hm_let_come ?i_hm_let_come ?a_hm_let_go ?l_hm_let_go ?c_hm_let_go ?k_hm_let_go ?i_hm_let_go ?a_hm_check_not_busy ?l_hm_check_not_busy ?c_hm_check_not_busy ?k_hm_check_not_busy ?i_hm_check_not_busy ?a_hm_add ?l_hm_add ?c_hm_add ?k_hm_add ?i_hm_add ?a_hm_remove ?l_hm_remove ?c_hm_remove ?k_hm_remove ?i_hm_remove ?a_hlen ?l_hlen ?c_hlen ?k_hlen ?i_hlen ?a_hrep ?l_hrep ?c_hrep ?k_hrep ?i_hrep ?oeh ?onh ?oth ?fx_neh ?fx_ah ?fx_bh ?fx_kh ?nbh ?z_ArithmeticError ?z_LookupError ?z_ValueError ?z_abs ?z_all ?z_bool ?z_divmod ?z_enumerate ?z_int ?z_isinstance ?z_len ?z_max ?z_min ?z_range ?z_repr ?z_set ?z_sorted ?z_str ?z_tuple ?z_MOST_SIGNS ?z_MOST_TEXT ?z_MOST_LISTED ?z_MOST_SHELVED ?z_SIGNS ?z_RULES ?zl_RULES ?z_LEAST_WIDTH ?z_DEED_WORDS ?zl_DEED_WORDS
    (case a_is_integer => k_is)
    (case l_is_integer => k_is)
    (case c_is_integer => k_is)
    (case k_is_integer => k_is)
    (case a_is_tuple => k_is)
    (case l_is_tuple => k_is)
    (case c_is_tuple => k_is)
    (case k_is_tuple => k_is)
    (case a_is_text => k_is)
    (case l_is_text => k_is)
    (case c_is_text => k_is)
    (case k_is_text => k_is)
    (case a_check_text => k_is)
    (case l_check_text => k_is)
    (case c_check_text => k_is)
    (case k_check_text => k_is)
    (case a_check_texts => k_is)
    (case l_check_texts => k_is)
    (case c_check_texts => k_is)
    (case k_check_texts => k_is)
    (case a_check_namer => k_is)
    (case l_check_namer => k_is)
    (case c_check_namer => k_is)
    (case k_check_namer => k_is)
    (case a_base_of => k_is)
    (case l_base_of => k_is)
    (case c_base_of => k_is)
    (case k_base_of => k_is)
    (case a_numbered => k_is)
    (case l_numbered => k_is)
    (case c_numbered => k_is)
    (case k_numbered => k_is)
    (case a_counted_name => k_is)
    (case l_counted_name => k_is)
    (case c_counted_name => k_is)
    (case k_counted_name => k_is)
    (case a_free_name => k_is)
    (case l_free_name => k_is)
    (case c_free_name => k_is)
    (case k_free_name => k_is)
    (case a_name_of_next => k_is)
    (case l_name_of_next => k_is)
    (case c_name_of_next => k_is)
    (case k_name_of_next => k_is)
    (case a_named => k_is)
    (case l_named => k_is)
    (case c_named => k_is)
    (case k_named => k_is)
    (case a_orders => k_is)
    (case l_orders => k_is)
    (case c_orders => k_is)
    (case k_orders => k_is)
    (case a_named_in_order => k_is)
    (case l_named_in_order => k_is)
    (case c_named_in_order => k_is)
    (case k_named_in_order => k_is)
    (case a_names => k_is)
    (case l_names => k_is)
    (case c_names => k_is)
    (case k_names => k_is)
    (case a_meeting => k_is)
    (case l_meeting => k_is)
    (case c_meeting => k_is)
    (case k_meeting => k_is)
    (case a_possible_names => k_is)
    (case l_possible_names => k_is)
    (case c_possible_names => k_is)
    (case k_possible_names => k_is)
    (case a_law_source => k_is)
    (case l_law_source => k_is)
    (case c_law_source => k_is)
    (case k_law_source => k_is)
    (case a_law_draw => k_is)
    (case l_law_draw => k_is)
    (case c_law_draw => k_is)
    (case k_law_draw => k_is)
    (case a_law_one => k_is)
    (case l_law_one => k_is)
    (case c_law_one => k_is)
    (case k_law_one => k_is)
    (case a_law_stem => k_is)
    (case l_law_stem => k_is)
    (case c_law_stem => k_is)
    (case k_law_stem => k_is)
    (case a_law_word => k_is)
    (case l_law_word => k_is)
    (case c_law_word => k_is)
    (case k_law_word => k_is)
    (case a_law_asked => k_is)
    (case l_law_asked => k_is)
    (case c_law_asked => k_is)
    (case k_law_asked => k_is)
    (case a_law_right => k_is)
    (case l_law_right => k_is)
    (case c_law_right => k_is)
    (case k_law_right => k_is)
    (case a_law => k_is)
    (case l_law => k_is)
    (case c_law => k_is)
    (case k_law => k_is)
    (case qn => k_is)
    (case qt => k_is)
    (case anC => k_is)
    (case a_in => k_is)
    (case l_in => k_is)
    (case c_in => k_is)
    (case k_in => k_is)
    (case i_in => k_is)
    (case pgn => k_is)
    (case hdn => k_is)
    (case pon => k_is)
    (case san => k_is)
    (case mknC => k_is)
    (case knC => k_is)
    (case nn_rule => k_is)
    (case nn_width => k_is)
    (case qan => k_is)
    (case qmn => k_is)
    (case a_q => k_is)
    (case l_q => k_is)
    (case c_q => k_is)
    (case k_q => k_is)
    (case i_q => k_is)
    (case a_p => k_is)
    (case l_p => k_is)
    (case c_p => k_is)
    (case k_p => k_is)
    (case i_p => k_is)
    (case o_ci => k_is)
    (case o_ti => k_is)
    (case o_ne => k_is)
    (case o_nb => k_is)
    (case o_nl => k_is)
    (case ahC => k_is)
    (case a_ih => k_is)
    (case l_ih => k_is)
    (case c_ih => k_is)
    (case k_ih => k_is)
    (case i_ih => k_is)
    (case pgh => k_is)
    (case hdh => k_is)
    (case poh => k_is)
    (case sah => k_is)
    (case mkhC => k_is)
    (case khC => k_is)
    (case nh_namer => k_is)
    (case nh_busy => k_is)
    (case nh_texts => k_is)
    (case nh_names => k_is)
    (case nh_past => k_is)
    (case qah => k_is)
    (case qmh => k_is)
    (case a_hm_become => k_is)
    (case l_hm_become => k_is)
    (case c_hm_become => k_is)
    (case k_hm_become => k_is)
    (case i_hm_become => k_is)
    (case a_hm_let_come => k_is)
    (case l_hm_let_come => k_is)
    (case c_hm_let_come => k_is)
    (case k_hm_let_come => k_is)
    (case i_hm_let_come => k_is)
    (case a_hm_let_go => k_is)
    (case l_hm_let_go => k_is)
    (case c_hm_let_go => k_is)
    (case k_hm_let_go => k_is)
    (case i_hm_let_go => k_is)
    (case a_hm_check_not_busy => k_is)
    (case l_hm_check_not_busy => k_is)
    (case c_hm_check_not_busy => k_is)
    (case k_hm_check_not_busy => k_is)
    (case i_hm_check_not_busy => k_is)
    (case a_hm_add => k_is)
    (case l_hm_add => k_is)
    (case c_hm_add => k_is)
    (case k_hm_add => k_is)
    (case i_hm_add => k_is)
    (case a_hm_remove => k_is)
    (case l_hm_remove => k_is)
    (case c_hm_remove => k_is)
    (case k_hm_remove => k_is)
    (case i_hm_remove => k_is)
    (case a_hlen => k_is)
    (case l_hlen => k_is)
    (case c_hlen => k_is)
    (case k_hlen => k_is)
    (case i_hlen => k_is)
    (case a_hrep => k_is)
    (case l_hrep => k_is)
    (case c_hrep => k_is)
    (case k_hrep => k_is)
    (case i_hrep => k_is)
    (case oeh => k_is)
    (case onh => k_is)
    (case oth => k_is)
    (case fx_neh => first | rfl | decide +kernel | k_is)
    (case fx_ah => first | rfl | decide +kernel | k_is)
    (case fx_bh => first | rfl | decide +kernel | k_is)
    (case fx_kh => first | rfl | decide +kernel | k_is)
    (case nbh => k_is)
    (case z_ArithmeticError => k_is)
    (case z_LookupError => k_is)
    (case z_ValueError => k_is)
    (case z_abs => k_is)
    (case z_all => k_is)
    (case z_bool => k_is)
    (case z_divmod => k_is)
    (case z_enumerate => k_is)
    (case z_int => k_is)
    (case z_isinstance => k_is)
    (case z_len => k_is)
    (case z_max => k_is)
    (case z_min => k_is)
    (case z_range => k_is)
    (case z_repr => k_is)
    (case z_set => k_is)
    (case z_sorted => k_is)
    (case z_str => k_is)
    (case z_tuple => k_is)
    (case z_MOST_SIGNS => k_is)
    (case z_MOST_TEXT => k_is)
    (case z_MOST_LISTED => k_is)
    (case z_MOST_SHELVED => k_is)
    (case z_SIGNS => k_is)
    (case z_RULES => k_is)
    (case zl_RULES => k_is)
    (case z_LEAST_WIDTH => k_is)
    (case z_DEED_WORDS => k_is)
    (case zl_DEED_WORDS => k_is)
