import PyProof.Rows.All
import Wide.All
import OpenK.AllK
import Wide.FinOn
import HandS.Base
import HandS.Call
import HandS.List
import HandS.Comp
import HandS.Ends
import HandS.Dict
import HandS.Iter
import HandS.Text
import HandS.Words
import HandS.WordsList
import HandS.WordsDict
import HandS.Conv
import HandS.Walk
import HandS.IsInst
import HandS.MakeKw
import HandS.MakeKwOnly
import HandS.Flow
import HandS.TupAny
import HandS.TupMul
import HandS.FStr
import HandS.Zip
import HandS.Style
import HandS.Codes
import HandS.TupLe
import HandS.SetKeys
import HandS.Strs
import HandS.SetFor
import HandS.Deep
import HandS.SortInts
import HandS.More
import HandS.CallLocal
import HandS.HeadHook3
import HandS.Exc
import HandS.TryOnly
import HandS.TryMany
import HandS.WordsExc
import HandS.ExcField
import HandS.ExcIs
import HandS.ExcInit
import HandS.Lambda
import KE.KExcInit
import KE.KExcIs
import PyProof.ExcBaseAll.LookupError
import PyProof.ExcBaseAll.ArithmeticError
import KE.GoesMore
import KE.GoesZip
import KE.KUnpack
import PyProof.TupleOfStr
import PySem.Challenge.RW_shownshort_k58_whole_counted_names_that
set_option Elab.async false
set_option linter.all false
set_option maxRecDepth 100000
namespace Gu
open PySem PySem.Spec PyProof.Rows L2
/-! the text, by places -/
def topS (i : Nat) : Stmt := PySem.Challenge.pw_shownshort_k58_whole_counted_names_that.main.body.getD i (.Pass ⟨0, 0, 0, 0⟩)
abbrev s_wall : Stmt := topS 0
abbrev ps_wall : List Str := ["k"]
theorem sc_wall : FnScope ["k"] ps_wall (defScope s_wall) := ⟨rfl, rfl, rfl, by decide +kernel, rfl, by decide +kernel, by decide +kernel⟩
abbrev s_InvalidText_init : Stmt := inClass (topS 3) 0
abbrev ps_InvalidText_init : List Str := ["self", "value"]
theorem sc_InvalidText_init : FnScope ["self", "value"] ps_InvalidText_init (defScope s_InvalidText_init) := ⟨rfl, rfl, rfl, by decide +kernel, rfl, by decide +kernel, by decide +kernel⟩
abbrev s_InvalidRule_init : Stmt := inClass (topS 4) 0
abbrev ps_InvalidRule_init : List Str := ["self", "value"]
theorem sc_InvalidRule_init : FnScope ["self", "value"] ps_InvalidRule_init (defScope s_InvalidRule_init) := ⟨rfl, rfl, rfl, by decide +kernel, rfl, by decide +kernel, by decide +kernel⟩
abbrev s_InvalidWidth_init : Stmt := inClass (topS 5) 0
abbrev ps_InvalidWidth_init : List Str := ["self", "value"]
theorem sc_InvalidWidth_init : FnScope ["self", "value"] ps_InvalidWidth_init (defScope s_InvalidWidth_init) := ⟨rfl, rfl, rfl, by decide +kernel, rfl, by decide +kernel, by decide +kernel⟩
abbrev s_InvalidLine_init : Stmt := inClass (topS 6) 0
abbrev ps_InvalidLine_init : List Str := ["self", "value"]
theorem sc_InvalidLine_init : FnScope ["self", "value"] ps_InvalidLine_init (defScope s_InvalidLine_init) := ⟨rfl, rfl, rfl, by decide +kernel, rfl, by decide +kernel, by decide +kernel⟩
abbrev s_NotANamer_init : Stmt := inClass (topS 7) 0
abbrev ps_NotANamer_init : List Str := ["self", "value"]
theorem sc_NotANamer_init : FnScope ["self", "value"] ps_NotANamer_init (defScope s_NotANamer_init) := ⟨rfl, rfl, rfl, by decide +kernel, rfl, by decide +kernel, by decide +kernel⟩
abbrev s_InvalidDeeds_init : Stmt := inClass (topS 8) 0
abbrev ps_InvalidDeeds_init : List Str := ["self", "index"]
theorem sc_InvalidDeeds_init : FnScope ["self", "index"] ps_InvalidDeeds_init (defScope s_InvalidDeeds_init) := ⟨rfl, rfl, rfl, by decide +kernel, rfl, by decide +kernel, by decide +kernel⟩
abbrev s_UnknownName_init : Stmt := inClass (topS 12) 0
abbrev ps_UnknownName_init : List Str := ["self", "value"]
theorem sc_UnknownName_init : FnScope ["self", "value"] ps_UnknownName_init (defScope s_UnknownName_init) := ⟨rfl, rfl, rfl, by decide +kernel, rfl, by decide +kernel, by decide +kernel⟩
abbrev s_TooMany_init : Stmt := inClass (topS 14) 0
abbrev ps_TooMany_init : List Str := ["self", "limit"]
theorem sc_TooMany_init : FnScope ["self", "limit"] ps_TooMany_init (defScope s_TooMany_init) := ⟨rfl, rfl, rfl, by decide +kernel, rfl, by decide +kernel, by decide +kernel⟩
abbrev s_is_integer : Stmt := topS 20
abbrev ps_is_integer : List Str := ["value", "least", "most"]
theorem sc_is_integer : FnScope ["value", "least", "most"] ps_is_integer (defScope s_is_integer) := ⟨rfl, rfl, rfl, by decide +kernel, rfl, by decide +kernel, by decide +kernel⟩
abbrev s_is_tuple : Stmt := topS 21
abbrev ps_is_tuple : List Str := ["value", "least", "most"]
theorem sc_is_tuple : FnScope ["value", "least", "most"] ps_is_tuple (defScope s_is_tuple) := ⟨rfl, rfl, rfl, by decide +kernel, rfl, by decide +kernel, by decide +kernel⟩
abbrev s_is_text : Stmt := topS 22
abbrev ps_is_text : List Str := ["value", "most"]
theorem sc_is_text : FnScope ["value", "most", "character"] ps_is_text (defScope s_is_text) := ⟨rfl, rfl, rfl, by decide +kernel, rfl, by decide +kernel, by decide +kernel⟩
abbrev s_check_text : Stmt := topS 23
abbrev ps_check_text : List Str := ["text"]
theorem sc_check_text : FnScope ["text"] ps_check_text (defScope s_check_text) := ⟨rfl, rfl, rfl, by decide +kernel, rfl, by decide +kernel, by decide +kernel⟩
abbrev s_Namer_init : Stmt := inClass (topS 27) 0
abbrev ps_Namer_init : List Str := ["self", "rule", "width"]
theorem sc_Namer_init : FnScope ["self", "rule", "width"] ps_Namer_init (defScope s_Namer_init) := ⟨rfl, rfl, rfl, by decide +kernel, rfl, by decide +kernel, by decide +kernel⟩
abbrev s_Namer_eq : Stmt := inClass (topS 27) 1
abbrev ps_Namer_eq : List Str := ["self", "other"]
theorem sc_Namer_eq : FnScope ["self", "other"] ps_Namer_eq (defScope s_Namer_eq) := ⟨rfl, rfl, rfl, by decide +kernel, rfl, by decide +kernel, by decide +kernel⟩
abbrev s_Namer_repr : Stmt := inClass (topS 27) 2
abbrev ps_Namer_repr : List Str := ["self"]
theorem sc_Namer_repr : FnScope ["self"] ps_Namer_repr (defScope s_Namer_repr) := ⟨rfl, rfl, rfl, by decide +kernel, rfl, by decide +kernel, by decide +kernel⟩
abbrev s_check_namer : Stmt := topS 28
abbrev ps_check_namer : List Str := ["namer"]
theorem sc_check_namer : FnScope ["namer"] ps_check_namer (defScope s_check_namer) := ⟨rfl, rfl, rfl, by decide +kernel, rfl, by decide +kernel, by decide +kernel⟩
abbrev s_base_of : Stmt := topS 29
abbrev ps_base_of : List Str := ["namer", "text"]
theorem sc_base_of : FnScope ["namer", "text"] ps_base_of (defScope s_base_of) := ⟨rfl, rfl, rfl, by decide +kernel, rfl, by decide +kernel, by decide +kernel⟩
abbrev s_numbered : Stmt := topS 30
abbrev ps_numbered : List Str := ["namer", "base", "number"]
theorem sc_numbered : FnScope ["namer", "base", "number", "ending"] ps_numbered (defScope s_numbered) := ⟨rfl, rfl, rfl, by decide +kernel, rfl, by decide +kernel, by decide +kernel⟩
abbrev s_counted_name : Stmt := topS 31
abbrev ps_counted_name : List Str := ["namer", "base", "texts"]
theorem sc_counted_name : FnScope ["namer", "base", "texts", "number", "text"] ps_counted_name (defScope s_counted_name) := ⟨rfl, rfl, rfl, by decide +kernel, rfl, by decide +kernel, by decide +kernel⟩
abbrev s_free_name : Stmt := topS 32
abbrev ps_free_name : List Str := ["namer", "base", "taken"]
theorem sc_free_name : FnScope ["namer", "base", "taken", "name", "number"] ps_free_name (defScope s_free_name) := ⟨rfl, rfl, rfl, by decide +kernel, rfl, by decide +kernel, by decide +kernel⟩
abbrev s_name_of_next : Stmt := topS 33
abbrev ps_name_of_next : List Str := ["namer", "text", "texts", "taken"]
theorem sc_name_of_next : FnScope ["namer", "text", "texts", "taken", "base"] ps_name_of_next (defScope s_name_of_next) := ⟨rfl, rfl, rfl, by decide +kernel, rfl, by decide +kernel, by decide +kernel⟩
abbrev s_is_deed : Stmt := topS 36
abbrev ps_is_deed : List Str := ["value"]
theorem sc_is_deed : FnScope ["value"] ps_is_deed (defScope s_is_deed) := ⟨rfl, rfl, rfl, by decide +kernel, rfl, by decide +kernel, by decide +kernel⟩
abbrev s_check_deeds : Stmt := topS 37
abbrev ps_check_deeds : List Str := ["deeds"]
theorem sc_check_deeds : FnScope ["deeds", "place", "deed"] ps_check_deeds (defScope s_check_deeds) := ⟨rfl, rfl, rfl, by decide +kernel, rfl, by decide +kernel, by decide +kernel⟩
abbrev s_Shelf_init : Stmt := inClass (topS 38) 0
abbrev ps_Shelf_init : List Str := ["self", "namer"]
theorem sc_Shelf_init : FnScope ["self", "namer"] ps_Shelf_init (defScope s_Shelf_init) := ⟨rfl, rfl, rfl, by decide +kernel, rfl, by decide +kernel, by decide +kernel⟩
abbrev s_Shelf_len : Stmt := inClass (topS 38) 1
abbrev ps_Shelf_len : List Str := ["self"]
theorem sc_Shelf_len : FnScope ["self"] ps_Shelf_len (defScope s_Shelf_len) := ⟨rfl, rfl, rfl, by decide +kernel, rfl, by decide +kernel, by decide +kernel⟩
abbrev s_Shelf_repr : Stmt := inClass (topS 38) 2
abbrev ps_Shelf_repr : List Str := ["self"]
theorem sc_Shelf_repr : FnScope ["self"] ps_Shelf_repr (defScope s_Shelf_repr) := ⟨rfl, rfl, rfl, by decide +kernel, rfl, by decide +kernel, by decide +kernel⟩
abbrev s_Shelf_check_not_busy : Stmt := inClass (topS 38) 3
abbrev ps_Shelf_check_not_busy : List Str := ["self"]
theorem sc_Shelf_check_not_busy : FnScope ["self"] ps_Shelf_check_not_busy (defScope s_Shelf_check_not_busy) := ⟨rfl, rfl, rfl, by decide +kernel, rfl, by decide +kernel, by decide +kernel⟩
abbrev s_Shelf_become : Stmt := inClass (topS 38) 4
abbrev ps_Shelf_become : List Str := ["self", "texts", "names"]
theorem sc_Shelf_become : FnScope ["self", "texts", "names"] ps_Shelf_become (defScope s_Shelf_become) := ⟨rfl, rfl, rfl, by decide +kernel, rfl, by decide +kernel, by decide +kernel⟩
abbrev s_Shelf_let_come : Stmt := inClass (topS 38) 5
abbrev ps_Shelf_let_come : List Str := ["self", "text"]
theorem sc_Shelf_let_come : FnScope ["self", "text", "name"] ps_Shelf_let_come (defScope s_Shelf_let_come) := ⟨rfl, rfl, rfl, by decide +kernel, rfl, by decide +kernel, by decide +kernel⟩
abbrev s_Shelf_let_go : Stmt := inClass (topS 38) 6
abbrev ps_Shelf_let_go : List Str := ["self", "name"]
theorem sc_Shelf_let_go : FnScope ["self", "name", "place", "text"] ps_Shelf_let_go (defScope s_Shelf_let_go) := ⟨rfl, rfl, rfl, by decide +kernel, rfl, by decide +kernel, by decide +kernel⟩
abbrev s_Shelf_do_deed : Stmt := inClass (topS 38) 7
abbrev ps_Shelf_do_deed : List Str := ["self", "deed"]
theorem sc_Shelf_do_deed : FnScope ["self", "deed", "word", "told"] ps_Shelf_do_deed (defScope s_Shelf_do_deed) := ⟨rfl, rfl, rfl, by decide +kernel, rfl, by decide +kernel, by decide +kernel⟩
abbrev s_Shelf_add : Stmt := inClass (topS 38) 8
abbrev ps_Shelf_add : List Str := ["self", "text"]
theorem sc_Shelf_add : FnScope ["self", "text"] ps_Shelf_add (defScope s_Shelf_add) := ⟨rfl, rfl, rfl, by decide +kernel, rfl, by decide +kernel, by decide +kernel⟩
abbrev s_Shelf_remove : Stmt := inClass (topS 38) 9
abbrev ps_Shelf_remove : List Str := ["self", "name"]
theorem sc_Shelf_remove : FnScope ["self", "name"] ps_Shelf_remove (defScope s_Shelf_remove) := ⟨rfl, rfl, rfl, by decide +kernel, rfl, by decide +kernel, by decide +kernel⟩
abbrev s_Shelf_do_all : Stmt := inClass (topS 38) 10
abbrev ps_Shelf_do_all : List Str := ["self"]
theorem sc_Shelf_do_all : FnScope ["self", "texts", "names", "past", "place", "deed"] ps_Shelf_do_all (defScope s_Shelf_do_all) := ⟨rfl, rfl, rfl, by decide +kernel, rfl, by decide +kernel, by decide +kernel⟩
abbrev s_Shelf_undo : Stmt := inClass (topS 38) 11
abbrev ps_Shelf_undo : List Str := ["self"]
theorem sc_Shelf_undo : FnScope ["self"] ps_Shelf_undo (defScope s_Shelf_undo) := ⟨rfl, rfl, rfl, by decide +kernel, rfl, by decide +kernel, by decide +kernel⟩
abbrev s_Shelf_trial : Stmt := inClass (topS 38) 12
abbrev ps_Shelf_trial : List Str := ["self"]
theorem sc_Shelf_trial : FnScope ["self"] ps_Shelf_trial (defScope s_Shelf_trial) := ⟨rfl, rfl, rfl, by decide +kernel, rfl, by decide +kernel, by decide +kernel⟩
abbrev s_word_behind : Stmt := topS 41
abbrev ps_word_behind : List Str := ["line", "order"]
theorem sc_word_behind : FnScope ["line", "order", "front", "space", "word"] ps_word_behind (defScope s_word_behind) := ⟨rfl, rfl, rfl, by decide +kernel, rfl, by decide +kernel, by decide +kernel⟩
abbrev s_Console_init : Stmt := inClass (topS 42) 0
abbrev ps_Console_init : List Str := ["self", "namer"]
theorem sc_Console_init : FnScope ["self", "namer"] ps_Console_init (defScope s_Console_init) := ⟨rfl, rfl, rfl, by decide +kernel, rfl, by decide +kernel, by decide +kernel⟩
abbrev s_Console_say : Stmt := inClass (topS 42) 1
abbrev ps_Console_say : List Str := ["self", "line"]
theorem sc_Console_say : FnScope ["self", "line", "text", "name"] ps_Console_say (defScope s_Console_say) := ⟨rfl, rfl, rfl, by decide +kernel, rfl, by decide +kernel, by decide +kernel⟩
abbrev s_Console_answer_add : Stmt := inClass (topS 42) 2
abbrev ps_Console_answer_add : List Str := ["self", "text"]
theorem sc_Console_answer_add : FnScope ["self", "text"] ps_Console_answer_add (defScope s_Console_answer_add) := ⟨rfl, rfl, rfl, by decide +kernel, rfl, by decide +kernel, by decide +kernel⟩
abbrev s_Console_answer_remove : Stmt := inClass (topS 42) 3
abbrev ps_Console_answer_remove : List Str := ["self", "name"]
theorem sc_Console_answer_remove : FnScope ["self", "name"] ps_Console_answer_remove (defScope s_Console_answer_remove) := ⟨rfl, rfl, rfl, by decide +kernel, rfl, by decide +kernel, by decide +kernel⟩
abbrev s_Console_answer_undo : Stmt := inClass (topS 42) 4
abbrev ps_Console_answer_undo : List Str := ["self"]
theorem sc_Console_answer_undo : FnScope ["self"] ps_Console_answer_undo (defScope s_Console_answer_undo) := ⟨rfl, rfl, rfl, by decide +kernel, rfl, by decide +kernel, by decide +kernel⟩
abbrev s_Console_answer_names : Stmt := inClass (topS 42) 5
abbrev ps_Console_answer_names : List Str := ["self"]
theorem sc_Console_answer_names : FnScope ["self"] ps_Console_answer_names (defScope s_Console_answer_names) := ⟨rfl, rfl, rfl, by decide +kernel, rfl, by decide +kernel, by decide +kernel⟩
abbrev s_Console_answer_meet : Stmt := inClass (topS 42) 6
abbrev ps_Console_answer_meet : List Str := ["self"]
theorem sc_Console_answer_meet : FnScope ["self"] ps_Console_answer_meet (defScope s_Console_answer_meet) := ⟨rfl, rfl, rfl, by decide +kernel, rfl, by decide +kernel, by decide +kernel⟩
abbrev s_law_source : Stmt := topS 44
abbrev ps_law_source : List Str := ["_law_cells", "_law_turn"]
theorem sc_law_source : FnScope ["_law_cells", "_law_turn", "_law_mixed", "_law_cell", "_law_own"] ps_law_source (defScope s_law_source) := ⟨rfl, rfl, rfl, by decide +kernel, rfl, by decide +kernel, by decide +kernel⟩
abbrev s_law_draw : Stmt := topS 45
abbrev ps_law_draw : List Str := ["_law_source_here", "_law_size"]
theorem sc_law_draw : FnScope ["_law_source_here", "_law_size", "_law_digit", "_law_state", "_law_factor"] ps_law_draw (defScope s_law_draw) := ⟨rfl, rfl, rfl, by decide +kernel, rfl, by decide +kernel, by decide +kernel⟩
abbrev s_law_one : Stmt := topS 46
abbrev ps_law_one : List Str := ["_law_source_here", "_law_some"]
theorem sc_law_one : FnScope ["_law_source_here", "_law_some"] ps_law_one (defScope s_law_one) := ⟨rfl, rfl, rfl, by decide +kernel, rfl, by decide +kernel, by decide +kernel⟩
abbrev s_law_stem : Stmt := topS 47
abbrev ps_law_stem : List Str := ["_law_source_here", "_law_size"]
theorem sc_law_stem : FnScope ["_law_source_here", "_law_size", "_law_abc", "_law_k"] ps_law_stem (defScope s_law_stem) := ⟨rfl, rfl, rfl, by decide +kernel, rfl, by decide +kernel, by decide +kernel⟩
abbrev s_law_come : Stmt := topS 48
abbrev ps_law_come : List Str := ["_law_mine", "_law_held", "_law_size", "_law_text_here"]
theorem sc_law_come : FnScope ["_law_mine", "_law_held", "_law_size", "_law_text_here", "_law_base", "_law_count", "_law_due", "_law_pair"] ps_law_come (defScope s_law_come) := ⟨rfl, rfl, rfl, by decide +kernel, rfl, by decide +kernel, by decide +kernel⟩
abbrev s_law_gone : Stmt := topS 49
abbrev ps_law_gone : List Str := ["_law_mine", "_law_held", "_law_spot"]
theorem sc_law_gone : FnScope ["_law_mine", "_law_held", "_law_spot", "_law_name_here", "_law_first", "_law_k"] ps_law_gone (defScope s_law_gone) := ⟨rfl, rfl, rfl, by decide +kernel, rfl, by decide +kernel, by decide +kernel⟩
abbrev s_law_right : Stmt := topS 50
abbrev ps_law_right : List Str := ["_law_source_here"]
theorem sc_law_right : FnScope ["_law_source_here", "_law_stem_here", "_law_size", "_law_mine", "_law_mate", "_law_held", "_law_words", "_law_turn", "_law_spot", "_law_name_here", "_law_gone_here", "_law_word", "_law_given", "_law_pair"] ps_law_right (defScope s_law_right) := ⟨rfl, rfl, rfl, by decide +kernel, rfl, by decide +kernel, by decide +kernel⟩
abbrev s_law : Stmt := topS 51
abbrev ps_law : List Str := ["_law_script"]
theorem sc_law : FnScope ["_law_script", "_law_mine", "_law_told", "_law_k"] ps_law (defScope s_law) := ⟨rfl, rfl, rfl, by decide +kernel, rfl, by decide +kernel, by decide +kernel⟩
/-- names that the module leaves to Python -/
structure Bi (mg : Str → Option Value) : Prop where
  ArithmeticError : mg "ArithmeticError" = none
  LookupError : mg "LookupError" = none
  ValueError : mg "ValueError" = none
  abs : mg "abs" = none
  all : mg "all" = none
  bool : mg "bool" = none
  divmod : mg "divmod" = none
  enumerate : mg "enumerate" = none
  int : mg "int" = none
  isinstance : mg "isinstance" = none
  len : mg "len" = none
  list : mg "list" = none
  max : mg "max" = none
  min : mg "min" = none
  range : mg "range" = none
  set : mg "set" = none
  str : mg "str" = none
  tuple : mg "tuple" = none
  MOST_SIGNS : ∃ u, mg "MOST_SIGNS" = some u ∧ RelV (.int 40) u
  MOST_TEXT : ∃ u, mg "MOST_TEXT" = some u ∧ RelV (.int 200) u
  MOST_SHELVED : ∃ u, mg "MOST_SHELVED" = some u ∧ RelV (.int 20) u
  SIGNS : ∃ u, mg "SIGNS" = some u ∧ RelV (.str ".0123456789abcdefghijklmnopqrstuvwxyz~") u
  LEAST_WIDTH : ∃ u, mg "LEAST_WIDTH" = some u ∧ RelV (.int 6) u
  REFUSED : ∃ u, mg "REFUSED" = some u ∧ RelV (.str "refused") u
end Gu
namespace Gu
open PySem PySem.Spec PyProof.Rows L2
/-! cuts -/
/-- from a middle state on -/
def tHalt (t u : TS) : TS := fun D σ H => ∃ M : L2.St → Hp → Prop, t { D with nx := M } σ H ∧ ∀ σ1 H1, M σ1 H1 → u D σ1 H1
/-! defs as they stand behind the top -/
structure At (K : PySem.W.Frag) (mg : Str → Option Value) (x : Str) (st : Stmt) (ps : List Str) : Prop where
  ex : ∃ (f : Addr) (fd : FuncData), Fun K x x st f fd ∧ Binds K fd ps [] ∧ mg x = some (.ref f)
structure Cal (P : Program) (w : World) (K : PySem.W.Frag) (mg : Str → Option Value) (base : Heap) (k : Nat) (x : Str) (ps : List Str) (sp : Sp) : Prop where
  ex : ∃ (f : Addr) (fd : FuncData), FnOk P w K mg base CX0 k f fd ps sp ∧ mg x = some (.ref f) ∧ PySem.W.keepIn K (.ref f) = true ∧ Binds K fd ps [] ∧ ∃ oc od sl, K.lookup f = some ⟨oc, od, .func fd, sl⟩
theorem At.cal {P : Program} {w : World} {K : PySem.W.Frag} {mg : Str → Option Value} {base : Heap} {x : Str} {st : Stmt} {N ps : List Str} {k : Nat} {sp : Sp} (D : At K mg x st ps) (S : FnScope N ps (defScope st)) (len : ∀ vs H Q E, sp vs H Q E → vs.length = ps.length)
    (body : ∀ (f : Addr) (cdv : Value) (A : Around) (outer : List Env) (s : Shared) (H : Hp) (vs : List V) (Q : VK) (E : XK), Room k (A.deeper (envOfC x (defScope st) s.heap.objs.size f cdv)) → sp vs H Q E →
      ∃ t, PSs (cxOf CX0 P w K mg base N x (defScope st) f cdv A outer s H E).nox (defBody st) t ∧ t { nx := fun _ H' => Q .non H', rt := Q } (start N vs) H) : Cal P w K mg base (k + 1) x ps sp := by
  obtain ⟨f, fd, F, b, g⟩ := D.ex
  obtain ⟨oc, od, kV, doc, pm, an, cdv, ct, osl, e, lk, hcd⟩ := F.ex
  exact ⟨f, fd, F.ok S len (body f), g, F.kp, b, oc, od, osl, lk⟩
section
variable {X : Cx} {k j : Nat} {x : Str} {ps : List Str} {sp : Sp} {p pos : Pos} {e : Expr} {es : List Expr} {t : TA}
theorem pe_own (c : Cal X.prog X.w X.K X.mg X.base k x ps sp) (hr : Room j X.A) (hk : k ≤ j) (hg : Gl X x) (ha : PA X (e :: es) t)
    (hdb : (x == ("__debug__" : Str)) = false := by decide) (he : starEach (e :: es) X.env = (false, eval e X.env) :: starEach es X.env := by rfl) (hpl : (backTo pos (starEach es X.env)).any (·.1) = false := by rfl) :
    PE X (.Call (.Name x p) (e :: es) [] pos) (tCall sp [] E0 t) := by
  obtain ⟨f, fd, F, hm, kp, b, _⟩ := c.ex
  exact pe_call F (hr.mono hk) hg hm kp b .nil pass0 ha hdb he hpl
theorem pe_cst {v : V} (h : ∃ u, X.mg x = some u ∧ RelV v u) (hg : Gl X x) (hdb : (x == ("__debug__" : Str)) = false := by decide) : PE X (.Name x pos) (tC v) := by
  obtain ⟨u, hm, r⟩ := h
  exact pe_glob hg hm r hdb
end
def tMid (t : TE) : TE := fun σ H Q => ∃ M : VK, t σ H M ∧ ∀ v G, M v G → Q v G
theorem pe_mid {X : Cx} {e : Expr} {t : TE} (d : PE X e t) : PE X e (tMid t) := ⟨fun pins s σ H Q I ⟨M, m, k⟩ => thn (d.run pins s σ H M I m) fun u s1 ⟨v, G, I1, r1, m1⟩ => ⟨v, G, I1, r1, k v G m1⟩⟩
/-! ### heaps -/
theorem same_new {H : Hp} {p : Addr} {o : HO} (h : H p = none) : Same H (upd H p o) := fun b x e => by
  rw [upd_ne (ne_of_none e h)]
  exact e
/-- a pot of three ints stands at p -/
def Pot (H : Hp) (p : Addr) : Prop := ∃ x y z : Int, H p = some (.lst [.int x, .int y, .int z])
/-- from H to G the pot at p may have changed, the rest stands -/
structure Ladled (p : Addr) (H G : Hp) : Prop where
  pot : Pot G p
  keep : ∀ b o, H b = some o → b ≠ p → G b = some o
theorem Pot.some {H : Hp} {p : Addr} (h : Pot H p) : ∃ o, H p = some o := by
  obtain ⟨x, y, z, e⟩ := h
  exact ⟨_, e⟩
theorem Pot.same {H G : Hp} {p : Addr} (s : Same H G) (h : Pot H p) : Pot G p := by
  obtain ⟨x, y, z, e⟩ := h
  exact ⟨x, y, z, s _ _ e⟩
theorem Ladled.refl {H : Hp} {p : Addr} (h : Pot H p) : Ladled p H H := ⟨h, fun _ _ e _ => e⟩
theorem Ladled.trans {H G J : Hp} {p : Addr} (a : Ladled p H G) (b : Ladled p G J) : Ladled p H J := ⟨b.pot, fun c o e n => b.keep c o (a.keep c o e n) n⟩
theorem Ladled.same {H G J : Hp} {p : Addr} (a : Ladled p H G) (b : Same G J) : Ladled p H J := ⟨a.pot.same b, fun c o e n => b _ _ (a.keep c o e n)⟩
theorem Ladled.ofSame {H G : Hp} {p : Addr} (h : Pot H p) (b : Same H G) : Ladled p H G := ⟨h.same b, fun c o e _ => b _ _ e⟩
theorem Ladled.new {H G : Hp} {p q : Addr} {o : HO} (a : Ladled p H G) (h : G q = none) : Ladled p H (upd G q o) := a.same (same_new h)
theorem Ladled.free {H G : Hp} {p l : Addr} (a : Ladled p H G) (h : G l = none) : H l = none := by
  cases q : H l with
  | none => rfl
  | some o =>
    by_cases e : l = p
    · subst e
      obtain ⟨u, hu⟩ := a.pot.some
      rw [hu] at h
      cases h
    · rw [a.keep l o q e] at h
      cases h
/-- what is not known at first may change -/
theorem Ladled.mut {H G : Hp} {p q : Addr} {o : HO} (a : Ladled p H G) (h : H q = none) (n : q ≠ p) : Ladled p H (upd G q o) := by
  refine ⟨?_, fun b u e nb => ?_⟩
  · obtain ⟨x, y, z, e⟩ := a.pot
    exact ⟨x, y, z, by rw [upd_ne (Ne.symm n)]; exact e⟩
  · rw [upd_ne (ne_of_none e h)]
    exact a.keep b u e nb
end Gu
namespace Gu
open PySem PySem.Spec PyProof.Rows L2
section
variable {P : Program} {w : World} {K : PySem.W.Frag} {mg : Str → Option Value} {base : Heap}
/-! ### _law_draw -/
def spLadle : Sp := fun vs H Q _ => ∃ (p : Addr) (m : Int), vs = [.ref p, .int m] ∧ Pot H p ∧ 0 < m ∧ m < 1000000 ∧ ∀ d G, 0 ≤ d → d < m → Ladled p H G → Q (.int d) G
theorem cal_draw (B : Bi mg) (D : At K mg "_law_draw" s_law_draw ps_law_draw) : Cal P w K mg base 1 "_law_draw" ps_law_draw spLadle := by
  refine D.cal sc_law_draw (fun vs H Q E h => ?_) (fun f cdv A outer s H vs Q E hr h => ?_)
  · obtain ⟨p, m, rfl, _⟩ := h
    rfl
  · obtain ⟨p, m, rfl, ⟨x, y, z, hp⟩, m0, m1, k⟩ := h
    refine ⟨_, (pss_cons (ps_asg (pe_op op_add (pe_ix ix_list (pv 0) pe_int (fun _ _ => rfl)) pe_int) (pg_sub (pv 0) pe_int set_list))
      (pss_cons (ps_if (pt_cmpR op_gt (pe_ix ix_list (pv 0) pe_int (fun _ _ => rfl)) pe_int (nomark _)) (pss_cons (ps_asg (pe_callB call_divmod (by rfl) B.divmod (by decide +kernel) (pa_cons (pe_ix ix_list (pv 0) pe_int (fun _ _ => rfl)) (pa_cons (pv 1) pa_nil))) (pg_tup rfl (pgs_cons (pg_sub (pv 0) pe_int set_list) (pgs_cons (pg_name (i := 2) sc_law_draw.nd rfl (.inl rfl)) pgs_nil))))
      (pss_one (ps_ret (pv 2)))) pss_nil)
      (pss_cons (ps_set (i := 3) sc_law_draw.nd rfl (.inl rfl) (pe_callTy call_int1 (by rfl) B.int (by decide +kernel) (pa_cons (pe_ix ix_list (pv 0) pe_int (fun _ _ => rfl)) pa_nil)))
      (pss_cons (ps_set (i := 4) sc_law_draw.nd rfl (.inl rfl) (pe_op op_add (pe_op op_mod (pe_callTy call_int1 (by rfl) B.int (by decide +kernel) (pa_cons (pv 3) pa_nil)) pe_int) pe_int))
      (pss_cons (ps_asg (pe_op op_mod (pe_callTy call_int1 (by rfl) B.int (by decide +kernel) (pa_cons (pe_op op_add (pe_op op_add (pe_op op_mul (pv 3) (pv 4)) (pe_op op_mul pe_int (pe_ix ix_list (pv 0) pe_int (fun _ _ => rfl)))) pe_int) pa_nil)) pe_int) (pg_sub (pv 0) pe_int set_list))
      (pss_one (ps_ret (pe_op op_mod (pe_op op_fdiv (pe_callTy call_int1 (by rfl) B.int (by decide +kernel) (pa_cons (pe_ix ix_list (pv 0) pe_int (fun _ _ => rfl)) pa_nil)) pe_int) (pv 1))))))))), ?_⟩
    refine ⟨_, rfl, p, _, _, _, rfl, rfl, .inl (.inl hp), (rfl : atI [V.int x, V.int y, V.int z] 2 = some (V.int z)), _, _, rfl, rfl, _, rfl, p, _, _, 2, rfl, rfl, hp, rfl, ?_⟩
    have h1 : upd H p (.lst ([V.int x, V.int y, V.int z].set 2 (.int (z + 1)))) p = some (.lst [.int x, .int y, .int (z + 1)]) := upd_same
    refine ⟨_, rfl, p, _, _, _, rfl, rfl, .inl (.inl h1), (rfl : atI [V.int x, V.int y, V.int (z + 1)] 0 = some (V.int x)), _, _, rfl, rfl, _, rfl, ite2 (fun _ => ?_) (fun _ => ?_)⟩
    · refine ⟨_, rfl, p, _, _, _, rfl, rfl, .inl (.inl h1), (rfl : atI [V.int x, V.int y, V.int (z + 1)] 0 = some (V.int x)), _, rfl, _, _, rfl, ⟨m0, by omega⟩, fun q hq => ?_⟩
      have npq : p ≠ q := ne_of_none h1 hq
      refine ⟨q, _, rfl, .inl (.inl upd_same), rfl, _, _, rfl, ⟨_, rfl, p, _, _, 0, rfl, rfl, (by rw [upd_ne npq]; exact h1), rfl, _, _, rfl, rfl, ?_⟩⟩
      refine ⟨_, rfl, ?_⟩
      refine k (x % m) _ (Int.emod_nonneg _ (by omega)) (Int.emod_lt_of_pos _ m0) ⟨⟨_, _, _, upd_same⟩, fun b o e n => ?_⟩
      have hb : upd H p (.lst ([V.int x, V.int y, V.int z].set 2 (.int (z + 1)))) b = some o := by rw [upd_ne n]; exact e
      rw [upd_ne n, upd_ne (ne_of_none hb hq), upd_ne n]
      exact e
    · have f0 : 0 ≤ y % 9973 := Int.emod_nonneg _ (by decide)
      have f1 : y % 9973 < 9973 := Int.emod_lt_of_pos _ (by decide)
      refine ⟨_, rfl, p, _, _, _, rfl, rfl, .inl (.inl h1), (rfl : atI [V.int x, V.int y, V.int (z + 1)] 1 = some (V.int y)), .inl ⟨_, rfl, ?_⟩⟩
      refine ⟨_, rfl, .inl ⟨_, rfl, _, _, rfl, rfl, (by decide : (0 : Int) < 9973), _, _, rfl, rfl, ?_⟩⟩
      refine ⟨_, rfl, _, rfl, _, _, rfl, rfl, .inr ⟨by omega, by omega⟩, _, rfl, p, _, _, _, rfl, rfl, .inl (.inl h1), (rfl : atI [V.int x, V.int y, V.int (z + 1)] 2 = some (V.int (z + 1))), _, _, rfl, rfl, .inl ⟨by decide, by decide⟩, _, _, rfl, rfl, _, _, rfl, rfl, .inl ⟨_, rfl, _, _, rfl, rfl, (by decide : (0 : Int) < 2147483587), ?_⟩⟩
      refine ⟨_, rfl, p, _, _, 1, rfl, rfl, h1, rfl, ?_⟩
      refine ⟨_, rfl, p, _, _, _, rfl, rfl, .inl (.inl upd_same), rfl, .inl ⟨_, rfl, _, _, rfl, rfl, ⟨by decide, by decide⟩, _, rfl, _, _, rfl, rfl, m0, ?_⟩⟩
      refine k _ _ (Int.emod_nonneg _ (by omega)) (Int.emod_lt_of_pos _ m0) ⟨⟨_, _, _, upd_same⟩, fun b o e n => ?_⟩
      rw [upd_ne n, upd_ne n]
      exact e
/-! ### _law_one: of a list -/
def spOneOf (K : PySem.W.Frag) : Sp := fun vs H Q _ => ∃ (p : Addr), Pot H p ∧
  (∃ (l : Addr) (xs : List V), vs = [.ref p, .ref l] ∧ SqL K H l xs ∧ l ≠ p ∧ 0 < xs.length ∧ xs.length < 1000 ∧ ∀ v G, v ∈ xs → Ladled p H G → Q v G)
theorem Ladled.seq {K : PySem.W.Frag} {H G : Hp} {p l : Addr} {xs : List V} (a : Ladled p H G) (n : l ≠ p) (h : SqL K H l xs) : SqL K G l xs := by
  rcases h with (h | ⟨o, h⟩) | h
  · exact .inl (.inl (a.keep _ _ h n))
  · exact .inl (.inr ⟨o, a.keep _ _ h n⟩)
  · exact .inr h
theorem at_in {α : Type} {xs : List α} {d : Int} (h0 : 0 ≤ d) (h1 : d < (xs.length : Int)) : ∃ v, v ∈ xs ∧ atI xs d = some v := by
  obtain ⟨j, rfl⟩ := Int.eq_ofNat_of_zero_le h0
  have hj : j < xs.length := by omega
  exact ⟨xs[j], List.getElem_mem hj, atI_nat (List.getElem?_eq_getElem hj)⟩
theorem cal_one (B : Bi mg) (D : At K mg "_law_one" s_law_one ps_law_one) (C_law_draw : Cal P w K mg base 1 "_law_draw" ps_law_draw spLadle) : Cal P w K mg base 2 "_law_one" ps_law_one (spOneOf K) := by
  refine D.cal sc_law_one (fun vs H Q E h => ?_) (fun f cdv A outer s H vs Q E hr h => ?_)
  · obtain ⟨p, _, l, xs, rfl, _⟩ := h
    rfl
  · refine ⟨_, (pss_one (ps_ret (pe_ix ix_list (pv 1) (pe_own C_law_draw hr (by decide) (by rfl) (pa_cons (pv 0) (pa_cons (pe_callB call_len (by rfl) B.len (by decide +kernel) (pa_cons (pv 1) pa_nil)) pa_nil))) (fun _ _ => rfl)))), ?_⟩
    obtain ⟨p, hp, l, xs, rfl, hl, np, l0, l1, k⟩ := h
    refine ⟨_, rfl, _, rfl, _, rfl, _, _, rfl, .inl ⟨_, hl, rfl⟩, p, _, rfl, hp, by omega, by omega, fun d G d0 d1 L => ?_⟩
    obtain ⟨v, hv, ha⟩ := at_in (xs := xs) d0 d1
    exact ⟨l, xs, d, v, rfl, rfl, L.seq np hl, ha, k v G hv L⟩
/-! ### _law_source -/
theorem sq_same {K : PySem.W.Frag} {H G : Hp} {l : Addr} {xs : List V} (a : Same H G) (h : SqL K H l xs) : SqL K G l xs := by
  rcases h with (h | ⟨o, h⟩) | h
  · exact .inl (.inl (a _ _ h))
  · exact .inl (.inr ⟨o, a _ _ h⟩)
  · exact .inr h
def spPot (K : PySem.W.Frag) : Sp := fun vs H Q _ => ∃ (a : Addr) (k : Nat) (ns : List Int), vs = [.ref a, .int (k : Int)] ∧ SqL K H a (ns.map V.int) ∧ k < 1000 ∧ ∀ p G, H p = none → Pot G p → Same H G → Q (.ref p) G
theorem cal_source (B : Bi mg) (D : At K mg "_law_source" s_law_source ps_law_source) : Cal P w K mg base 1 "_law_source" ps_law_source (spPot K) := by
  refine D.cal sc_law_source (fun vs H Q E h => ?_) (fun f cdv A outer s H vs Q E hr h => ?_)
  · obtain ⟨a, k, ns, rfl, _⟩ := h
    rfl
  · obtain ⟨a, k, ns, rfl, hS, hk, q⟩ := h
    refine ⟨_, (pss_cons (ps_set (i := 2) sc_law_source.nd rfl (.inl rfl) (pe_op op_add pe_int (pe_op op_mul pe_int (pv 1))))
      (pss_cons (ps_for PassesOwn.never rfl (pi_list (pe_slice sl_list (pv 0) po_none (po_some pe_int))) (pg_name (i := 3) sc_law_source.nd rfl (.inl rfl))
      (pss_one (ps_set (i := 2) sc_law_source.nd rfl (.inl rfl) (pe_op op_mod (pe_callTy call_int1 (by rfl) B.int (by decide +kernel) (pa_cons (pe_op op_add (pe_op op_mul (pv 2) pe_int) (pv 3)) pa_nil)) pe_int))))
      (pss_cons (ps_set (i := 4) sc_law_source.nd rfl (.inl rfl) (pe_mid (pe_ifExp (pt_cmpR op_lt (pv 1) (pe_callB call_len_seq (by rfl) B.len (by decide +kernel) (pa_cons (pv 0) pa_nil)) (nomark _)) (pe_ix ix_list (pv 0) (pv 1) (fun _ _ => rfl)) (pv 2))))
      (pss_cons (ps_set (i := 2) sc_law_source.nd rfl (.inl rfl) (pe_op op_mod (pe_callTy call_int1 (by rfl) B.int (by decide +kernel) (pa_cons (pe_op op_add (pe_op op_mul (pv 2) pe_int) (pv 4)) pa_nil)) pe_int))
      (pss_one (ps_ret (pe_lst (pa_cons (pe_mid (pe_ifExp (pt_cmpR op_ge (pe_callB call_abs (by rfl) B.abs (by decide +kernel) (pa_cons (pv 4) pa_nil)) (pe_op op_pow pe_int pe_int) (nomark _)) (pe_callB call_abs (by rfl) B.abs (by decide +kernel) (pa_cons (pv 4) pa_nil)) pe_int)) (pa_cons (pv 2) (pa_cons pe_int pa_nil)))))))))), ?_⟩
    refine ⟨_, rfl, _, _, rfl, rfl, .inl ⟨by decide, by decide⟩, _, _, rfl, rfl, ?_⟩
    refine ⟨_, rfl, 6, rfl, a, _, rfl, hS, fun c nc => ?_⟩
    have sc : Same H (upd H c (.lst (cutV (ns.map V.int) none (some 6)))) := same_new nc
    have hC : cutV (ns.map V.int) none (some 6) = (ns.take 6).map V.int := by
      unfold cutV
      rw [HT.sIx_none, show HT.sIx (ns.map V.int).length (ns.map V.int).length (some 6) = min 6 (ns.map V.int).length from HT.sIx_nat _ _ 6, List.drop_zero, Nat.sub_zero, List.map_take, List.take_eq_take_iff]
      omega
    refine ⟨c, rfl, ⟨_, .inl (.inl upd_same)⟩, for_list (K := K) (a := c) (xs := (ns.take 6).map V.int) (fun i σ J => ∃ (mx : Int) (u : Option V), σ = [some (.ref a), some (.int (k : Int)), some (.int mx), u, none] ∧ Same H J ∧ J c = some (.lst ((ns.take 6).map V.int)))
      ⟨_, none, rfl, sc, by rw [upd_same, hC]⟩ (fun i σ J _ ⟨_, _, _, _, e⟩ => .inl (.inl e)) ?_ ?_⟩
    · rintro i v σ J hi ⟨mx, u, rfl, sJ, eJ⟩
      obtain ⟨t, rfl⟩ : ∃ t, v = V.int t := by
        rw [List.getElem?_map] at hi
        cases e : (ns.take 6)[i]? with
        | none =>
          rw [e] at hi
          cases hi
        | some t =>
          rw [e] at hi
          exact ⟨t, (Option.some.inj hi).symm⟩
      refine ⟨_, rfl, _, _, rfl, rfl, .inr ⟨by decide, by decide⟩, _, rfl, _, _, rfl, rfl, .inl ⟨_, rfl, _, _, rfl, rfl, (by decide : (0 : Int) < 2147483629), ?_⟩⟩
      exact ⟨_, _, rfl, sJ, eJ⟩
    · rintro σ J ⟨mx, u, rfl, sJ, eJ⟩
      refine ⟨fun v J1 => (∃ i : Int, v = .int i) ∧ J1 = J, ?_, ?_⟩
      · refine ⟨_, rfl, _, rfl, a, _, rfl, .inl (sq_same sJ hS), _, _, rfl, rfl, _, rfl, ite2 (fun e => ?_) (fun _ => ?_)⟩
        · have hlt := of_decide_eq_true e
          have hj : k < ns.length := by
            rw [List.length_map] at hlt
            omega
          refine ⟨_, rfl, _, rfl, a, _, _, _, rfl, rfl, sq_same sJ hS, atI_nat (j := k) (v := .int ns[k]) (by rw [List.getElem?_map, List.getElem?_eq_getElem hj]; rfl), ⟨_, rfl⟩, rfl⟩
        · exact ⟨_, rfl, ⟨_, rfl⟩, rfl⟩
      · rintro _ _ ⟨⟨own, rfl⟩, rfl⟩
        refine ⟨_, rfl, _, _, rfl, rfl, .inr ⟨by decide, by decide⟩, _, rfl, _, _, rfl, rfl, .inl ⟨_, rfl, _, _, rfl, rfl, (by decide : (0 : Int) < 2147483629), ?_⟩⟩
        refine ⟨fun v J1 => (∃ i : Int, v = .int i) ∧ Same H J1, ?_, ?_⟩
        · refine ⟨_, rfl, _, rfl, _, _, rfl, rfl, ⟨by decide, by decide, by decide⟩, _, _, rfl, rfl, _, rfl, ite2 (fun _ => ⟨_, rfl, _, rfl, ⟨_, rfl⟩, sJ⟩) (fun _ => ⟨⟨_, rfl⟩, sJ⟩)⟩
        · rintro _ J1 ⟨⟨x, rfl⟩, s1⟩
          exact ⟨_, rfl, by show 3 ≤ sizeLine; decide, fun p np => q p _ (s1.free np) ⟨_, _, _, upd_same⟩ (s1.trans (same_new np))⟩
end
end Gu
namespace Gu
open PySem PySem.Spec PyProof.Rows L2
/-! ### texts of the laws about names -/
def abc : Str := ".0123456789abcdefghijklmnopqrstuvwxyz~"
/-- at most n signs -/
structure Wd (n : Nat) (y : Str) : Prop where
  len : y.cps.toList.length ≤ n
  sgn : ∀ c ∈ y.cps.toList, c ∈ abc.cps.toList
theorem Wd.mono {n m : Nat} {y : Str} (h : Wd n y) (k : n ≤ m) : Wd m y := ⟨Nat.le_trans h.len k, h.sgn⟩
theorem str_app (a b : Str) : (a ++ b).cps.toList = a.cps.toList ++ b.cps.toList := by
  show (a.cps ++ b.cps).toList = _
  rw [Array.toList_append]
theorem Wd.app {n m k : Nat} {y z : Str} (a : Wd n y) (b : Wd m z) (h : n + m ≤ k) : Wd k (y ++ z) := by
  have h1 := a.len
  have h2 := b.len
  refine ⟨?_, fun c hc => ?_⟩
  · rw [str_app, List.length_append]
    omega
  · rw [str_app] at hc
    rcases List.mem_append.mp hc with hc | hc
    · exact a.sgn c hc
    · exact b.sgn c hc
theorem Wd.cut {n : Nat} {y : Str} (a : Wd n y) (lo hi : Option Int) : Wd n (cutS y lo hi) :=
  ⟨Nat.le_trans (cutS_length y lo hi) a.len, fun c hc => a.sgn c (List.mem_of_mem_drop (List.mem_of_mem_take hc))⟩
theorem cutS_head (y : Str) {h : Int} (h0 : 0 ≤ h) : (cutS y none (some h)).cps.toList = y.cps.toList.take h.toNat := by
  obtain ⟨k, rfl⟩ := Int.eq_ofNat_of_zero_le h0
  unfold cutS
  rw [HT.sIx_none, HT.sIx_nat, List.drop_zero, Nat.sub_zero, Int.toNat_natCast]
  show y.cps.toList.take (min k y.cps.toList.length) = _
  rw [List.take_eq_take_iff]
  omega
theorem wd_head {y : Str} (a : ∀ c ∈ y.cps.toList, c ∈ abc.cps.toList) {h : Int} (h0 : 0 ≤ h) {m : Nat} (hm : h ≤ m) : Wd m (cutS y none (some h)) := by
  refine ⟨?_, fun c hc => ?_⟩
  · rw [cutS_head y h0, List.length_take]
    omega
  · rw [cutS_head y h0] at hc
    exact a c (List.mem_of_mem_take hc)
theorem wd_lit {z : Str} {n : Nat} (h : decide (z.cps.toList.length ≤ n ∧ ∀ c ∈ z.cps.toList, c ∈ abc.cps.toList) = true) : Wd n z := ⟨(of_decide_eq_true h).1, (of_decide_eq_true h).2⟩
theorem wd_digit {i : Int} (h0 : 0 ≤ i) (h1 : i < 10) : Wd 1 (toString i : String) := by
  obtain ⟨k, rfl⟩ := Int.eq_ofNat_of_zero_le h0
  have a : ∀ k ∈ List.range 10, ((toString (Int.ofNat k) : String) : Str).cps.toList.length ≤ 1 ∧ ∀ c ∈ ((toString (Int.ofNat k) : String) : Str).cps.toList, c ∈ abc.cps.toList := by decide +kernel
  have b := a k (List.mem_range.mpr (by omega))
  exact ⟨b.1, b.2⟩
theorem log_small {i : Int} (h0 : 0 ≤ i) (h1 : i < 1000) : i.natAbs.log2 < 1920 := by
  by_cases e : i.natAbs = 0
  · rw [e]
    decide
  · exact (Nat.log2_lt e).mpr (Nat.lt_of_lt_of_le (by omega : i.natAbs < 2 ^ 10) (Nat.pow_le_pow_right (by decide) (by decide)))
theorem Pot.off {H : Hp} {p q : Addr} (h : Pot H p) (n : H q = none) : q ≠ p := fun e => by
  subst e
  obtain ⟨o, ho⟩ := h.some
  rw [n] at ho
  cases ho
theorem yesT {σ : L2.St} {H : Hp} {Q : Bool → Hp → Prop} (h : Q true H) : tYes σ H Q := h
/-! single signs -/
def sg (c : Nat) : Str := ⟨#[c]⟩
theorem join_sgs : ∀ cs : List Nat, (Str.join ⟨#[]⟩ (cs.map sg)).cps.toList = cs
  | [] => rfl
  | c :: r => by
    rw [List.map_cons, join_nil_cons, str_app, join_sgs r]
    rfl
theorem tjoin_sgs (cs : List Nat) : (Txt.join "" (cs.map sg)).cps.toList = cs := by
  have e : (("" : String) : Str) = ⟨#[]⟩ := by decide +kernel
  show (Builtin.Str.glued _ _).cps.toList = cs
  rw [e, StrLaws.glued_eq_join]
  exact join_sgs cs
theorem sgs_len (cs : List Nat) : ((cs.map sg).map (·.length)).sum = cs.length := by
  induction cs with
  | nil => rfl
  | cons c r ih =>
    rw [List.map_cons, List.map_cons, List.sum_cons, ih]
    show 1 + r.length = r.length + 1
    omega
/-! text * int -/
def rRepS : R2 := fun x y H Q => ∃ z k, x = .str z ∧ y = .int k ∧ 2 ≤ k ∧ k ≤ 1000 ∧ 0 < z.length ∧ z.length ≤ 1000 ∧ ∀ y : Str, y.cps.toList = (List.replicate k.toNat z.cps.toList).flatten → Q (.str y) H
theorem fold_rep (z : Array Nat) : ∀ (k : Nat) (acc : Array Nat), ((List.replicate k z).foldl (· ++ ·) acc).toList = acc.toList ++ (List.replicate k z.toList).flatten
  | 0, acc => by simp
  | k + 1, acc => by
    rw [List.replicate_succ, List.foldl_cons, fold_rep z k, List.replicate_succ, List.flatten_cons, Array.toList_append, List.append_assoc]
theorem op_mul_str {X : Cx} : OpR X (binaryOp .Mult) rRepS := by
  intro pins s σ H x y v u Q I rx ry h
  obtain ⟨z, k, rfl, rfl, k0, k1, z0, z1, q⟩ := h
  obtain ⟨t, rfl⟩ := rx
  obtain ⟨t', rfl⟩ := ry
  have n1 : ¬ k < 1 := by omega
  have n2 : (k == 1 || z.length == 0) = false := by
    rw [Bool.or_eq_false_iff]
    exact ⟨beq_eq_false_iff_ne.mpr (by omega), beq_eq_false_iff_ne.mpr (by omega)⟩
  have m1 : (z.length : Int) * k ≤ 1000 * 1000 := Int.mul_le_mul (by omega) k1 (by omega) (by omega)
  have m2 : z.length * k.toNat ≤ 1000 * 1000 := Nat.mul_le_mul z1 (by omega)
  refine PySem.P.mul_str ?_ (fun _ _ => Int.not_lt.mpr ((Int.le_ediv_iff_mul_le (by omega)).mpr (by omega))) (fun _ _ => decide_eq_false (by rw [sizeLine_eq]; omega)) ?_
  · rw [Bool.or_eq_false_iff]
    exact ⟨decide_eq_false (by omega), decide_eq_false (by omega)⟩
  · rw [if_neg n1, n2, if_neg Bool.false_ne_true]
    have e : ((List.replicate k.toNat z.cps).foldl (· ++ ·) #[]).toList = (List.replicate k.toNat z.cps.toList).flatten := by
      rw [fold_rep]
      rfl
    refine ⟨?_, .str ⟨(List.replicate k.toNat z.cps).foldl (· ++ ·) #[]⟩, H, I.tok _, ⟨_, rfl⟩, q _ e⟩
    show ((List.replicate k.toNat z.cps).foldl (· ++ ·) #[]).size ≤ _
    rw [← Array.length_toList, e, PyProof.Rows.lm_len_rep_flat]
    show k.toNat * z.length ≤ sizeLine
    rw [Nat.mul_comm, sizeLine_eq]
    omega
end Gu
namespace Gu
open PySem PySem.Spec PyProof.Rows L2
theorem Pot.ne {H : Hp} {p q : Addr} (h : Pot H p) (n : H q = none) : q ≠ p := h.off n
end Gu
namespace Gu
open PySem PySem.Spec PyProof.Rows L2
section
variable {P : Program} {w : World} {K : PySem.W.Frag} {mg : Str → Option Value} {base : Heap}
/-! ### _law_stem -/
def spStem : Sp := fun vs H Q _ => ∃ (p : Addr) (m : Int), vs = [.ref p, .int m] ∧ Pot H p ∧ 0 < m ∧ m < 100 ∧ ∀ (y : Str) (G : Hp), Ladled p H G → 0 < y.cps.toList.length → Wd m.toNat y → Q (.str y) G
theorem cal_stem (B : Bi mg) (D : At K mg "_law_stem" s_law_stem ps_law_stem) (C_law_draw : Cal P w K mg base 1 "_law_draw" ps_law_draw spLadle) : Cal P w K mg base 2 "_law_stem" ps_law_stem spStem := by
  refine D.cal sc_law_stem (fun vs H Q E h => ?_) (fun f cdv A outer s H vs Q E hr h => ?_)
  · obtain ⟨p, m, rfl, _⟩ := h
    rfl
  · obtain ⟨p, m, rfl, hp, m0, m1, k⟩ := h
    refine ⟨_, (pss_cons (ps_set (i := 2) sc_law_stem.nd rfl (.inr rfl) pe_str)
      (pss_one (ps_ret (pe_join pe_str (pe_lc (own := [("_law_k", 3)]) (by rfl) sc_law_stem.nd (pi_range1 (by rfl) B.range (pa_cons (pe_op op_add pe_int (pe_own C_law_draw hr (by decide) (by rfl) (pa_cons (pv 0) (pa_cons (pv 1) pa_nil)))) pa_nil)) (blkOk_by (own := [("_law_k", 3)]) (N := ["_law_source_here", "_law_size", "_law_abc", "_law_k"]) (sc := defScope s_law_stem) (by decide +kernel)) (fun _ _ _ _ _ => pg_name (i := 3) sc_law_stem.nd rfl (.inl rfl)) (fun _ _ _ _ _ => pts_nil) (fun _ _ _ _ _ => (pe_ix ix_str (pv 2) (pe_own C_law_draw hr (by decide) (by rfl) (pa_cons (pv 0) (pa_cons pe_int pa_nil))) (fun _ _ => rfl)))))))), ?_⟩
    refine ⟨⟨_, rfl⟩, _, rfl, _, rfl, p, m, rfl, hp, m0, by omega, fun d G1 d0 d1 L1 => ?_⟩
    refine ⟨_, _, rfl, rfl, _, rfl, by omega, by omega, fun M nM => lc_range (lo := 0) (n := (1 + d).toNat) (fun i J => ∃ cs : List Nat, cs.length = i ∧ (∀ c ∈ cs, c ∈ abc.cps.toList) ∧ J M = some (.lst ((cs.map sg).map V.str)) ∧ Ladled p H J)
      ⟨[], rfl, (fun c hc => by cases hc), upd_same, L1.mut (L1.free nM) (L1.pot.off nM)⟩ ?_ ?_⟩
    · rintro i J hi ⟨cs, rfl, hc, eM, L⟩
      have hM : H M = none := L1.free nM
      refine ⟨rfl, yesT (iteT ⟨_, rfl, _, rfl, p, 38, rfl, L.pot, by decide, by decide, fun c G c0 c1 L2 => ?_⟩)⟩
      obtain ⟨v, hv, ha⟩ := at_in (xs := abc.cps.toList) c0 c1
      have gM := L2.keep _ _ eM (hp.off hM)
      refine ⟨abc, c, v, rfl, rfl, by decide +kernel, ha, _, gM, small1000 (by rw [List.length_map, List.length_map]; omega), cs ++ [v], by rw [List.length_append]; rfl, fun x hx => ?_, ?_, (L.trans L2).mut hM (hp.off hM)⟩
      · rcases List.mem_append.mp hx with hx | hx
        · exact hc x hx
        · rw [List.mem_singleton.mp hx]
          exact hv
      · rw [upd_same, List.map_append, List.map_append]
        rfl
    · rintro J ⟨cs, el, hc, eM, L⟩
      refine ⟨_, M, _, rfl, rfl, .inl (.inl (.inl eM)), ?_, k _ J L ?_ ⟨?_, ?_⟩⟩
      · rw [sgs_len, List.length_map]
        have e0 : (("" : String) : Str).length = 0 := by decide +kernel
        rw [e0]
        omega
      · rw [tjoin_sgs]
        omega
      · rw [tjoin_sgs]
        omega
      · rw [tjoin_sgs]
        exact hc
end
end Gu
namespace Gu
open PySem PySem.Spec PyProof.Rows L2
/-! ### _law_numbered -/
def ending (n : Int) : Str := (("~" : String) : Str) ++ ((toString n : String) : Str)
def nbase (w : Int) (t : Str) : Str := cutS t none (some w)
def numbered (so : Str) (w : Int) (t : Str) (n : Int) : Str :=
  if decide (so = ("tight" : String)) && decide (w < ((nbase w t).length : Int) + ((ending n).length : Int)) then cutS (nbase w t) none (some (w - (ending n).length)) ++ ending n else nbase w t ++ ending n
theorem ending_len {n : Int} (h0 : 0 ≤ n) (h1 : n < 10) : (ending n).length ≤ 2 := by
  have a := (wd_digit h0 h1).len
  have e : (ending n).length = 1 + ((toString n : String) : Str).length := by
    show (ending n).cps.toList.length = _
    unfold ending
    rw [str_app, List.length_append]
    rfl
  rw [e]
  show 1 + ((toString n : String) : Str).cps.toList.length ≤ 2
  omega
theorem str_eq_iff {a b : Str} : decide (V.str a = V.str b) = decide (a = b) := by
  by_cases e : a = b
  · rw [decide_eq_true e, decide_eq_true (by rw [e])]
  · rw [decide_eq_false e, decide_eq_false (fun h => e (V.str.inj h))]
end Gu
namespace Gu
open PySem PySem.Spec PyProof.Rows L2
/-! ### names, as the laws tell them -/
/-- the first of f a, f (a + 1), .. that is not taken, f (a + k) at the latest -/
def seek (f : Nat → Str) (ys : List Str) : Nat → Nat → Str
  | 0, a => f a
  | k + 1, a => if f a ∈ ys then seek f ys k (a + 1) else f a
theorem seek_at {f : Nat → Str} {ys : List Str} : ∀ (d k a : Nat), d ≤ k → (∀ j, j < d → f (a + j) ∈ ys) → f (a + d) ∉ ys → seek f ys k a = f (a + d)
  | 0, 0, a, _, _, _ => rfl
  | 0, k + 1, a, _, _, n => by
    unfold seek
    rw [if_neg (show f a ∉ ys from n)]
    rfl
  | d + 1, 0, _, h, _, _ => absurd h (by omega)
  | d + 1, k + 1, a, h, t, n => by
    unfold seek
    rw [if_pos (show f a ∈ ys from t 0 (by omega)), seek_at d k (a + 1) (by omega) (fun j hj => by
      have := t (j + 1) (by omega)
      rw [show a + 1 + j = a + (j + 1) by omega]
      exact this) (by
      rw [show a + 1 + d = a + (d + 1) by omega]
      exact n), show a + 1 + d = a + (d + 1) by omega]
theorem fewer : ∀ (xs ys : List Str), xs.Nodup → (∀ x ∈ xs, x ∈ ys) → xs.length ≤ ys.length
  | [], _, _, _ => Nat.zero_le _
  | x :: xs, ys, hn, h => by
    have hx := h x (List.mem_cons_self ..)
    have hc := List.nodup_cons.mp hn
    have ne : ∀ y ∈ xs, y ≠ x := fun y hy e => by
      subst e
      exact hc.1 hy
    have := fewer xs (ys.erase x) hc.2 fun y hy => (List.mem_erase_of_ne (ne y hy)).mpr (h y (List.mem_cons_of_mem _ hy))
    rw [List.length_erase_of_mem hx] at this
    have := List.length_pos_of_mem hx
    rw [List.length_cons]
    omega
def cand (so : Str) (w : Int) (t : Str) (i : Nat) : Str := numbered so w t (2 + (i : Int))
theorem last_of (a : Str) {n : Int} (h0 : 0 ≤ n) (h1 : n < 10) : (a ++ ending n).cps.toList.getLast? = some (48 + n.toNat) := by
  obtain ⟨k, rfl⟩ := Int.eq_ofNat_of_zero_le h0
  have e : ∀ k ∈ List.range 10, (ending (Int.ofNat k)).cps.toList.getLast? = some (48 + k) := by decide +kernel
  have b := e k (List.mem_range.mpr (by omega))
  rw [str_app, List.getLast?_append, show (Int.toNat ((k : Nat) : Int)) = k from rfl, show (ending ((k : Nat) : Int)).cps.toList.getLast? = some (48 + k) from b]
  rfl
theorem cand_last (so : Str) (w : Int) (t : Str) {i : Nat} (h : i < 8) : (cand so w t i).cps.toList.getLast? = some (50 + i) := by
  have e : 48 + (2 + (i : Int)).toNat = 50 + i := by omega
  unfold cand numbered
  split
  · rw [last_of _ (by omega) (by omega), e]
  · rw [last_of _ (by omega) (by omega), e]
theorem cands_nodup (so : Str) (w : Int) (t : Str) : ∀ n, n ≤ 8 → ((List.range n).map (cand so w t)).Nodup
  | 0, _ => List.nodup_nil
  | n + 1, h => by
    rw [List.range_succ, List.map_append]
    refine List.nodup_append.mpr ⟨cands_nodup so w t n (by omega), List.nodup_cons.mpr ⟨List.not_mem_nil, List.nodup_nil⟩, fun x hx y hy e => ?_⟩
    obtain ⟨i, hi, rfl⟩ := List.mem_map.mp hx
    have hi := List.mem_range.mp hi
    rw [List.mem_singleton.mp hy] at e
    have a := cand_last so w t (i := i) (by omega)
    rw [e, cand_last so w t (i := n) (by omega)] at a
    have := Option.some.inj a
    omega
/-- not all of them are taken -/
theorem some_free {so : Str} {w : Int} {t : Str} {ys : List Str} (h : ys.length ≤ 6) (a : ∀ j, j < ys.length + 1 → cand so w t j ∈ ys) : False := by
  have := fewer _ ys (cands_nodup so w t (ys.length + 1) (by omega)) fun x hx => by
    obtain ⟨i, hi, rfl⟩ := List.mem_map.mp hx
    exact a i (List.mem_range.mp hi)
  rw [List.length_map, List.length_range] at this
  omega
def mates (w : Int) (t : Str) (ps : List (Str × Str)) : List (Str × Str) := ps.filter fun q => decide (nbase w q.1 = nbase w t)
def nameOf (so : Str) (w : Int) (t : Str) (ps : List (Str × Str)) : Str :=
  if so = ("count" : String) then (if (mates w t ps).length = 0 then nbase w t else numbered so w t (((mates w t ps).length : Int) + 1))
  else if nbase w t ∈ ps.map (·.2) then seek (cand so w t) (ps.map (·.2)) (ps.map (·.2)).length 0 else nbase w t
theorem wd_base {n : Nat} {t : Str} (h : Wd n t) (w : Int) : Wd n (nbase w t) := h.cut _ _
theorem wd_numbered {n : Nat} {t : Str} {so : Str} {w k : Int} (h : Wd n t) (h0 : 0 ≤ k) (h1 : k < 10) : Wd (n + 2) (numbered so w t k) := by
  have a : Wd 2 (ending k) := (wd_lit (z := ("~" : String)) (n := 1) (by decide +kernel)).app (wd_digit h0 h1) (by decide)
  unfold numbered
  split
  · exact ((wd_base h w).cut _ _).app a (Nat.le_refl _)
  · exact (wd_base h w).app a (Nat.le_refl _)
theorem wd_seek {n : Nat} {so : Str} {w : Int} {t : Str} {ys : List Str} (h : Wd n t) : ∀ (k a : Nat), a + k < 8 → Wd (n + 2) (seek (cand so w t) ys k a)
  | 0, a, l => wd_numbered h (by omega) (by omega)
  | k + 1, a, l => by
    unfold seek
    split
    · exact wd_seek h k (a + 1) (by omega)
    · exact wd_numbered h (by omega) (by omega)
theorem wd_name {n : Nat} {so : Str} {w : Int} {t : Str} {ps : List (Str × Str)} (h : Wd n t) (l : ps.length ≤ 6) : Wd (n + 2) (nameOf so w t ps) := by
  have m : (mates w t ps).length ≤ ps.length := List.length_filter_le ..
  unfold nameOf
  split
  · split
    · exact (wd_base h w).mono (by omega)
    · exact wd_numbered h (by omega) (by omega)
  · split
    · exact wd_seek h _ _ (by rw [List.length_map]; omega)
    · exact (wd_base h w).mono (by omega)
/-! lists that == looks into -/
theorem shaped_of {ds : List PyData} (h : ∀ d ∈ ds, d.canLay0 = true ∧ d.depth ≤ 10) : SeqAt.shaped (.list ds) = true := by
  have a : ∀ ds : List PyData, (∀ d ∈ ds, d.canLay0 = true ∧ d.depth ≤ 10) → PyData.canLayAll0 ds = true ∧ PyData.depthAll ds ≤ 10 := by
    intro ds
    induction ds with
    | nil => exact fun _ => ⟨rfl, Nat.zero_le _⟩
    | cons d ds ih =>
      intro h
      have b := ih fun e he => h e (List.mem_cons_of_mem _ he)
      have c := h d (List.mem_cons_self ..)
      refine ⟨?_, Nat.max_le.mpr ⟨c.2, b.2⟩⟩
      show (d.canLay0 && PyData.canLayAll0 ds) = true
      rw [c.1, b.1]
      rfl
  have b := a ds h
  unfold SeqAt.shaped
  rw [Bool.and_eq_true]
  refine ⟨b.1, decide_eq_true ?_⟩
  show PyData.depthAll ds + 1 ≤ 64
  omega
theorem wd_lay {n : Nat} {y : Str} (h : Wd n y) : (PyData.str y).canLay0 = true := by
  have a : ∀ c ∈ abc.cps.toList, c < 0x110000 := by decide +kernel
  show y.cps.all _ = true
  rw [← Array.all_toList, List.all_eq_true]
  exact fun c hc => decide_eq_true (a c (h.sgn c hc))
def pdat (q : Str × Str) : PyData := .tuple [.str q.1, .str q.2]
theorem pdat_ok {n : Nat} {q : Str × Str} (a : Wd n q.1) (b : Wd n q.2) : (pdat q).canLay0 = true ∧ (pdat q).depth ≤ 10 := by
  refine ⟨?_, by show 1 ≤ 10; decide⟩
  show ((PyData.str q.1).canLay0 && ((PyData.str q.2).canLay0 && true)) = true
  rw [wd_lay a, wd_lay b]
  rfl
theorem eqv_nil (ds : List PyData) : PyData.eqv (.list ds) (.list []) = decide (ds.length = 0) := by
  cases ds with
  | nil => rfl
  | cons d ds => rfl
end Gu
namespace Gu
open PySem PySem.Spec PyProof.Rows L2
/-! ### _law_name -/
/-- a list of pairs of texts -/
structure PairsAt (H : Hp) (a : Addr) (qs : List (Addr × Str × Str)) : Prop where
  ls : H a = some (.lst (qs.map fun q => V.ref q.1))
  tp : ∀ q ∈ qs, H q.1 = some (.tup [.str q.2.1, .str q.2.2])
theorem PairsAt.same {H G : Hp} {a : Addr} {qs : List (Addr × Str × Str)} (s : Same H G) (h : PairsAt H a qs) : PairsAt G a qs := ⟨s _ _ h.ls, fun q hq => s _ _ (h.tp q hq)⟩
theorem ref_at {qs : List (Addr × Str × Str)} {i : Nat} {v : V} (hi : (qs.map fun q => V.ref q.1)[i]? = some v) : ∃ q, qs[i]? = some q ∧ v = .ref q.1 ∧ q ∈ qs := by
  rw [List.getElem?_map] at hi
  cases e : qs[i]? with
  | none =>
    rw [e] at hi
    cases hi
  | some q =>
    rw [e] at hi
    exact ⟨q, rfl, (Option.some.inj hi).symm, List.mem_of_getElem? e⟩
theorem same_off {H J : Hp} {M : Addr} {o : HO} (s : Same H J) (n : H M = none) : Same H (upd J M o) := fun b x e => by
  rw [upd_ne (ne_of_none e n)]
  exact s b x e
theorem dp_pairs {K : PySem.W.Frag} {H : Hp} : ∀ {qs : List (Addr × Str × Str)}, (∀ q ∈ qs, H q.1 = some (.tup [.str q.2.1, .str q.2.2])) → DpAll K H (qs.map fun q => V.ref q.1) (qs.map fun q => pdat q.2)
  | [], _ => .nil
  | q :: qs, h => .cons (.tup (.inl (.inl (h q (List.mem_cons_self ..)))) (.cons (.str _) (.cons (.str _) .nil))) (dp_pairs fun r hr => h r (List.mem_cons_of_mem _ hr))
theorem mates_len (w : Int) (t : Str) (qs : List (Addr × Str × Str)) : (mates w t (qs.map (·.2))).length = (qs.filter fun q => decide (nbase w q.2.1 = nbase w t)).length := by
  unfold mates
  rw [List.filter_map, List.length_map]
  rfl
theorem in_strs (x : Str) (ys : List Str) : inV (.str x) (ys.map V.str) = decide (x ∈ ys) := by
  unfold inV
  rw [List.any_map]
  by_cases e : x ∈ ys
  · rw [decide_eq_true e, List.any_eq_true]
    exact ⟨x, e, beq_self_eq_true x⟩
  · rw [decide_eq_false e, List.any_eq_false]
    intro y hy h
    have h := eq_of_beq (show (y == x) = true from h)
    exact e (h ▸ hy)
theorem flat_strs (ys : List Str) : (ys.map V.str).all flatV = true := by
  rw [List.all_map, List.all_eq_true]
  exact fun _ _ => rfl
theorem take_next {α : Type} {qs : List α} {i : Nat} {q : α} (h : qs[i]? = some q) : qs.take (i + 1) = qs.take i ++ [q] := by
  rw [List.take_add_one, h]
  rfl
end Gu
namespace Gu
open PySem PySem.Spec PyProof.Rows L2
/-! ### _law_names -/
def pairsOf (so : Str) (w : Int) (ts : List Str) : List (Str × Str) := ts.foldl (fun ps t => ps ++ [(t, nameOf so w t ps)]) []
def namesOf (so : Str) (w : Int) (ts : List Str) : List Str := (pairsOf so w ts).map (·.2)
theorem pairsOf_snoc (so : Str) (w : Int) (ts : List Str) (t : Str) : pairsOf so w (ts ++ [t]) = pairsOf so w ts ++ [(t, nameOf so w t (pairsOf so w ts))] := by
  unfold pairsOf
  rw [List.foldl_append]
  rfl
theorem pairsOf_len (so : Str) (w : Int) (ts : List Str) : (pairsOf so w ts).length = ts.length := by
  have a : ∀ (ts : List Str) (acc : List (Str × Str)), (ts.foldl (fun ps t => ps ++ [(t, nameOf so w t ps)]) acc).length = acc.length + ts.length := by
    intro ts
    induction ts with
    | nil => exact fun _ => rfl
    | cons t ts ih =>
      intro acc
      rw [List.foldl_cons, ih, List.length_append, List.length_cons]
      show acc.length + 1 + ts.length = acc.length + (ts.length + 1)
      omega
  have b := a ts []
  rw [List.length_nil, Nat.zero_add] at b
  exact b
theorem st_same {K : PySem.W.Frag} {H G : Hp} {l : Addr} {xs : List V} (a : Same H G) (h : SqT K H l xs) : SqT K G l xs := by
  rcases h with (h | ⟨o, h⟩) | h
  · exact .inl (.inl (a _ _ h))
  · exact .inl (.inr ⟨o, a _ _ h⟩)
  · exact .inr h
theorem pairs_wd {so : Str} {w : Int} (ts : List Str) (l : ts.length ≤ 7) (h : ∀ t ∈ ts, Wd 200 t) : ∀ q ∈ pairsOf so w ts, Wd 200 q.1 ∧ Wd 202 q.2 := by
  have a : ∀ (ts : List Str) (acc : List (Str × Str)), acc.length + ts.length ≤ 7 → (∀ t ∈ ts, Wd 200 t) → (∀ q ∈ acc, Wd 200 q.1 ∧ Wd 202 q.2) → ∀ q ∈ ts.foldl (fun ps t => ps ++ [(t, nameOf so w t ps)]) acc, Wd 200 q.1 ∧ Wd 202 q.2 := by
    intro ts
    induction ts with
    | nil => exact fun _ _ _ h => h
    | cons t ts ih =>
      intro acc l ht ha
      rw [List.length_cons] at l
      rw [List.foldl_cons]
      refine ih _ (by rw [List.length_append, List.length_singleton]; omega) (fun x hx => ht x (List.mem_cons_of_mem _ hx)) fun q hq => ?_
      rcases List.mem_append.mp hq with hq | hq
      · exact ha q hq
      · rw [List.mem_singleton.mp hq]
        exact ⟨ht t (List.mem_cons_self ..), wd_name (ht t (List.mem_cons_self ..)) (by omega)⟩
  exact a ts [] (by rw [List.length_nil]; omega) h fun q hq => by cases hq
end Gu
namespace Gu
open PySem PySem.Spec PyProof.Rows L2
/-! ### things made by their class -/
structure Mak (P : Program) (w : World) (K : PySem.W.Frag) (mg : Str → Option Value) (base : Heap) (k : Nat) (x : Str) (C : Addr) (sp : Sp) : Prop where
  ex : ∃ (f : Addr) (fd : FuncData) (ps : List Str), Mk K C f ∧ FnOk P w K mg base CX0 k f fd ps sp ∧ mg x = some (.ref C) ∧ Binds K fd ps []
section
variable {X : Cx} {k j : Nat} {x : Str} {C : Addr} {sp : Sp} {p pos : Pos} {e : Expr} {es : List Expr} {t : TA}
theorem pe_new (c : Mak X.prog X.w X.K X.mg X.base k x C sp) (hr : Room j X.A) (hk : k + 1 ≤ j) (hg : Gl X x) (ha : PA X (e :: es) t)
    (hdb : (x == ("__debug__" : Str)) = false := by decide) (he : starEach (e :: es) X.env = (false, eval e X.env) :: starEach es X.env := by rfl) (hpl : (backTo pos (starEach es X.env)).any (·.1) = false := by rfl) :
    PE X (.Call (.Name x p) (e :: es) [] pos) (tMake C sp [] E0 t) := by
  obtain ⟨f, fd, ps, M, F, hm, b⟩ := c.ex
  exact pe_make M F (hr.mono hk) hg hm b .nil pass0 ha hdb he hpl
end
end Gu
namespace Gu
open PySem PySem.Spec PyProof.Rows L2
/-! ### calls by keywords alone -/
structure CalK (P : Program) (w : World) (K : PySem.W.Frag) (mg : Str → Option Value) (base : Heap) (k : Nat) (x : Str) (ks : List Str) (gV : List V → List V) (sp : Sp) : Prop where
  ex : ∃ (f : Addr) (fd : FuncData) (ps : List Str) (g : List Value → List Value), FnOk P w K mg base CX0 k f fd ps sp ∧ mg x = some (.ref f) ∧ PySem.W.keepIn K (.ref f) = true ∧ KBn K fd ps 0 ks (fun _ ws => g ws) (fun _ zs => gV zs)
theorem Cal.kw {P : Program} {w : World} {K : PySem.W.Frag} {mg : Str → Option Value} {base : Heap} {k : Nat} {x : Str} {st : Stmt} {ps ks : List Str} {sp : Sp} (g : {α : Type} → List α → List α) (c : Cal P w K mg base k x ps sp) (D : At K mg x st ps)
    (hv : ∀ {zs : List V} {ws : List Value}, Vals zs ws → Vals (g zs) (g ws))
    (hb : ∀ (kV doc pm : Value) (an : Option Addr) (cdv ct : Value) (ws : List Value), ws.length = ks.length → bindArgs (PySem.W.fnOf x x (defArgs st) (defBody st) (defScope st) .none kV doc pm an cdv ct) ⟨[], ks.zip ws⟩ = pure (ps.zip (g ws))) : CalK P w K mg base k x ks g sp := by
  obtain ⟨f, fd, F, hm, kp, b, oc, od, sl, lk⟩ := c.ex
  obtain ⟨f2, fd2, F2, b2, hm2⟩ := D.ex
  cases hm.symm.trans hm2
  obtain ⟨oc2, od2, kV, doc, pm, an, cdv, ct, sl2, e, lk2, hcd⟩ := F2.ex
  cases lk.symm.trans lk2
  refine ⟨f, fd, ps, g, F, hm, kp, ⟨fun s us ws I l1 l2 => ?_, fun _ r => hv r⟩⟩
  cases us with
  | nil =>
    rw [e]
    exact BindsTo.of_eq (hb kV doc pm an cdv ct ws l2)
  | cons u r => cases l1
def tKw (m : Nat) (gV : List V → List V) (sp : Sp) (tk : TA) : TE := fun σ H Q => tk σ H fun zs G => zs.length = m ∧ sp (gV zs) G Q E0
section
variable {X : Cx} {k j : Nat} {x : Str} {ks : List Str} {gV : List V → List V} {sp : Sp} {p pos : Pos} {kws : List Keyword} {tk : TA}
theorem pe_kw (c : CalK X.prog X.w X.K X.mg X.base k x ks gV sp) (hr : Room j X.A) (hk : k ≤ j) (hg : Gl X x) (hkw : PK X kws tk) (hall : (backToKw pos (keywordEach kws X.env)).all (·.1.isSome) = true := by rfl)
    (hks : (backToKw pos (keywordEach kws X.env)).filterMap (·.1) = ks := by rfl) (hdb : (x == ("__debug__" : Str)) = false := by decide)
    (hpl : ((backTo pos (starEach [] X.env)).any (·.1) || (backToKw pos (keywordEach kws X.env)).any (·.1.isNone)) = false := by rfl) : PE X (.Call (.Name x p) [] kws pos) (tKw ks.length gV sp tk) := by
  obtain ⟨f, fd, ps, g, F, hm, kp, b⟩ := c.ex
  refine ⟨fun pins s σ H Q I h => ?_⟩
  refine wpAny_Call_Name_kw (ld_glob I hg hm ?_ hdb)
  refine PySem.W.callWith_KW0 (h₀ := X.base) I.ok.mod.kin kp hall ?_ hpl
  refine thn (hkw.run pos pins s σ H _ I h) fun ws s2 ⟨zs, G, I2, rz, l2, q2⟩ => ⟨I2.kIn, ?_⟩
  rw [hks]
  exact run_fnN (us := []) (vs := []) F (hr.mono hk) b pass0 I2 .nil rz rfl l2 q2
end
def swap2 {α : Type} : List α → List α
  | [a, b] => [b, a]
  | l => l
theorem swap2_vals {zs : List V} {ws : List Value} (r : Vals zs ws) : Vals (swap2 zs) (swap2 ws) := by
  cases r with
  | nil => exact .nil
  | cons a r =>
    cases r with
    | nil => exact .cons a .nil
    | cons b r =>
      cases r with
      | nil => exact .cons b (.cons a .nil)
      | cons c r => exact .cons a (.cons b (.cons c r))
theorem str_ext {a b : Str} (h : a.cps.toList = b.cps.toList) : a = b := by
  cases a
  cases b
  exact congrArg Str.mk (Array.ext' h)
end Gu
namespace Gu
open PySem PySem.Spec PyProof.Rows L2
/-! ### defs that are called where no container is being written out -/
structure FnG (P : Program) (w : World) (K : PySem.W.Frag) (mg : Str → Option Value) (base : Heap) (k : Nat) (f : Addr) (fd : FuncData) (ps : List Str) (sp : Sp) : Prop where
  len : ∀ vs H Q E, sp vs H Q E → vs.length = ps.length
  run : ∀ (A : Around) (outer : List Env) (s : Shared) (H : Hp) (args : Args) (us : List Value) (vs : List V) (Q : VK) (E : XK), Room k A → A.guards = some [] → Env0 P w K mg base A outer s H → BindsTo s fd args (ps.zip us) → Vals vs us → sp vs H Q E →
    codeAny (model P w) A (.call (.ref f) args) (CR CX0 outer P w H s Q E) s
section
variable {P : Program} {w : World} {K : PySem.W.Frag} {mg : Str → Option Value} {base : Heap}
theorem okG {x qual : Str} {st : Stmt} {f : Addr} {fd : FuncData} {N ps : List Str} {k : Nat} {sp : Sp} (F : Fun K x qual st f fd) (S : FnScope N ps (defScope st)) (len : ∀ vs H Q E, sp vs H Q E → vs.length = ps.length)
    (body : ∀ (cdv : Value) (A : Around) (outer : List Env) (s : Shared) (H : Hp) (vs : List V) (Q : VK) (E : XK), Room k (A.deeper (envOfC qual (defScope st) s.heap.objs.size f cdv)) → A.guards = some [] → sp vs H Q E →
      ∃ t, PSs (cxOf CX0 P w K mg base N qual (defScope st) f cdv A outer s H E).nox (defBody st) t ∧ t { nx := fun _ G => Q .non G, rt := Q } (start N vs) H) : FnG P w K mg base (k + 1) f fd ps sp := by
  obtain ⟨oc, od, kV, doc, pm, an, cdv, ct, osl, rfl, lk, hcd⟩ := F.ex
  refine ⟨len, fun A outer s H args us vs Q E room quiet env binds rel want => ?_⟩
  have stays : ∀ b o, base.get? b = some o → s.heap.get? b = some o := fun b o e => (env.bs b o e).1
  have inK : K.In s.heap := env.mod.kin.keeps stays
  have free : s.heap.NoLimit := env.mod.nolimit.keeps stays
  refine codeAny_call_function room.depth (inK _ _ lk) rfl S.co S.gen rfl (PySem.W.codeRec_of inK hcd) (binds _ _ _ _ ?_)
  refine wpAny_newFunctionEnv_cells S.kind (fun ⟨n, v⟩ hy => (S.par n (List.of_mem_zip hy).1).imp id fun q => ⟨q, PySem.W.cellsFrom_some _ _ _ (.inl q)⟩) fun env1 e1 s1 c1 => ?_
  subst e1
  refine ⟨free.keeps c1.toInCall.keep, codeAny_func ?_⟩
  obtain ⟨t, d, q⟩ := body cdv A outer s H vs Q E (room.deeper _) quiet want
  refine wpAny_mono (d.nox.run [] s1 (start N vs) H _ (inv_start S room.hd env (len _ _ _ _ want) rel c1) q) (fun fl s2 h2 => ?_) fun e s2 h2 => h2
  cases fl with
  | ret u =>
    obtain ⟨v, σ2, G, J, rv, r⟩ := h2
    exact ⟨v, G, J.os, J.bare, J.base, J.hok, rv, r⟩
  | next =>
    obtain ⟨σ2, G, J, r⟩ := h2
    exact ⟨V.non, G, J.os, J.bare, J.base, J.hok, rfl, r⟩
  | brk => exact (h2.choose_spec.choose_spec.2 : False).elim
  | cont => exact (h2.choose_spec.choose_spec.2 : False).elim
structure CalG (P : Program) (w : World) (K : PySem.W.Frag) (mg : Str → Option Value) (base : Heap) (k : Nat) (x : Str) (ps : List Str) (sp : Sp) : Prop where
  ex : ∃ (f : Addr) (fd : FuncData), FnG P w K mg base k f fd ps sp ∧ mg x = some (.ref f) ∧ PySem.W.keepIn K (.ref f) = true ∧ Binds K fd ps []
theorem At.calG {x : Str} {st : Stmt} {N ps : List Str} {k : Nat} {sp : Sp} (D : At K mg x st ps) (S : FnScope N ps (defScope st)) (len : ∀ vs H Q E, sp vs H Q E → vs.length = ps.length)
    (body : ∀ (f : Addr) (cdv : Value) (A : Around) (outer : List Env) (s : Shared) (H : Hp) (vs : List V) (Q : VK) (E : XK), Room k (A.deeper (envOfC x (defScope st) s.heap.objs.size f cdv)) → A.guards = some [] → sp vs H Q E →
      ∃ t, PSs (cxOf CX0 P w K mg base N x (defScope st) f cdv A outer s H E).nox (defBody st) t ∧ t { nx := fun _ G => Q .non G, rt := Q } (start N vs) H) : CalG P w K mg base (k + 1) x ps sp := by
  obtain ⟨f, fd, F, b, g⟩ := D.ex
  exact ⟨f, fd, okG F S len (body f), g, F.kp, b⟩
end
def tCallG (sp : Sp) (t : TA) : TE := fun σ H Q => t σ H fun vs G => sp vs G Q E0
section
variable {X : Cx} {k j : Nat} {x : Str} {ps : List Str} {sp : Sp} {p pos : Pos} {e : Expr} {es : List Expr} {t : TA}
theorem pe_ownG (c : CalG X.prog X.w X.K X.mg X.base k x ps sp) (hr : Room j X.A) (hk : k ≤ j) (quiet : X.A.guards = some []) (hg : Gl X x) (ha : PA X (e :: es) t)
    (hdb : (x == ("__debug__" : Str)) = false := by decide) (he : starEach (e :: es) X.env = (false, eval e X.env) :: starEach es X.env := by rfl) (hpl : (backTo pos (starEach es X.env)).any (·.1) = false := by rfl) :
    PE X (.Call (.Name x p) (e :: es) [] pos) (tCallG sp t) := by
  obtain ⟨f, fd, F, hm, kp, b⟩ := c.ex
  refine ⟨fun pins s σ H Q I h => wpAny_Call_Name_kw (ld_glob I hg hm (PySem.W.callWith_K (h₀ := X.base) I.ok.mod.kin kp (thn (ha.run pos pins s σ H _ I h) fun us s1 ⟨vs, G, I1, r, q⟩ => ⟨I1.kIn, ?_⟩) he hpl) hdb)⟩
  have ll : (us ++ []).length = ps.length := by
    rw [List.append_nil, ← r.length]
    exact F.len _ _ _ _ q
  have bt := b s1 us I1.kIn ll
  rw [List.append_nil] at bt
  refine wpAny_call (codeAny_mono (F.run X.A X.stack s1 G ⟨us, []⟩ us vs Q E0 (hr.mono hk) quiet I1.env0 bt r q) fun rr s2 h2 => ?_)
  cases rr with
  | error e => exact (h2 : False).elim
  | ok fl =>
    cases fl with
    | ret u => exact I1.after h2
    | next => exact (h2 : False).elim
    | brk => exact (h2 : False).elim
    | cont => exact (h2 : False).elim
end
end Gu
namespace Gu
open PySem PySem.Spec PyProof.Rows L2
/-- a heap in which nothing is tracked but, at most, the script at a, which stands still there -/
theorem quiet_end {P : Program} {w : World} {K : PySem.W.Frag} {mg mb : Str → Option Value} {k : Nat} {fa a : Addr} {fd : FuncData} {x : Str} {sp : Sp} {s : Shared} {us : List Value} {H : Hp} (inK : K.In s.heap) (nsG : s.heap.Ns mainGlobals mg) (nsB : s.heap.Ns builtinsNs mb)
    (bb : ∀ x : Str, x ≠ "__name__" → mb x = bootBuiltins x) (nl : s.heap.NoLimit) (ng : s.gens = #[]) (at_a : s.heap.get? a = some { cls := .type "list", data := .seq us.toArray }) (room : Room k callerA)
    (F : ∀ base : Heap, K.In base → base.Ns mainGlobals mg → FnG P w K mg base k fa fd [x] sp) (bind : ∀ (s : Shared) (u : Value), BindsTo s fd ⟨[u], []⟩ [(x, u)]) (want : sp [.ref a] H (fun v _ => v = .bl true) fun _ _ _ => False)
    (only : Only H) (ok : HOk P w H s.heap) (one : ∀ b, H b ≠ none → b = a ∧ K.lookup a = none) :
    codeAny (model P w) callerA (.call (.ref fa) ⟨[.ref a], []⟩) (fun r s2 => r = .ok (.ret (.bool true)) ∧ OldK s.heap s2.heap ∧ s2.os = s.os ∧ AllBare s2.gens) s := by
  have dictFree : ∀ (b : Addr) (o : Obj) (es : Array DictEntry) (ep : Nat), s.heap.get? b = some o → o.data = .dict es ep → H b = none := fun b o es ep e d =>
    Classical.byContradiction fun z => by
      have hb := (one b z).1
      rw [hb, at_a] at e
      cases e
      exact Data.noConfusion d
  have hiddenNs : ∀ (b : Addr) (m : Str → Option Value), s.heap.Ns b m → (hidT s.heap H).Ns b m := fun b m h => by
    obtain ⟨o, es, ep, e, d, r⟩ := h
    exact ⟨o, es, ep, hidT_get e (dictFree b o es ep e d), d, r⟩
  have hiddenK : K.In (hidT s.heap H) := fun b o e => hidT_get (inK b o e) (Classical.byContradiction fun z => by
    obtain ⟨h1, h2⟩ := one b z
    rw [h1, h2] at e
    cases e)
  have env : Env0 P w K mg (hidT s.heap H) callerA [] s H := by
    refine ⟨rfl, ⟨hiddenK, hiddenNs _ _ nsG, ⟨mb, hiddenNs _ _ nsB, bb⟩, ?_⟩, fun b o e => of_hidT e, Nat.le_of_eq (hidT_size _ _), trivial, fun b hb => absurd (show b ∈ ([] : List Addr) from hb) List.not_mem_nil, ok, .of_eq ng⟩
    obtain ⟨mc, h1, h2⟩ := nl
    exact ⟨mc, hiddenNs _ _ h1, h2⟩
  refine codeAny_mono ((F _ hiddenK (hiddenNs _ _ nsG)).run callerA [] s H ⟨[.ref a], []⟩ [.ref a] [.ref a] _ _ room rfl env (bind s (.ref a)) (.cons rfl .nil) want) fun r s2 h2 => ?_
  cases r with
  | error e => exact (h2 : False).elim
  | ok fl =>
    cases fl with
    | next => exact (h2 : False).elim
    | brk => exact (h2 : False).elim
    | cont => exact (h2 : False).elim
    | ret u =>
      obtain ⟨v, G, os, bare, un, ok2, rv, hv⟩ := h2
      cases (show v = .bl true from hv)
      cases (show u = Value.bool true from rv)
      refine ⟨rfl, OldK.of_keep fun b o e => ?_, os, bare⟩
      rcases only b with z | ⟨ob, xs, z⟩
      · exact un.keep b o e z (fun y => absurd (show b ∈ ([] : List Addr) from y) List.not_mem_nil) (by simp)
      · have e1 := (ok b _ z).1
        have e2 := (ok2 b _ (un.frzs b ob _ z)).1
        rw [e] at e1
        cases e1
        exact e2
/-- the law's call, by its promise -/
theorem quiet_call {P : Program} {w : World} {K : PySem.W.Frag} {mg mb : Str → Option Value} {k : Nat} {fa a : Addr} {fd : FuncData} {x : Str} {sp : Sp} {s : Shared} {us : List Value} {ns : List Int} (inK : K.In s.heap) (nsG : s.heap.Ns mainGlobals mg) (nsB : s.heap.Ns builtinsNs mb)
    (bb : ∀ x : Str, x ≠ "__name__" → mb x = bootBuiltins x) (nl : s.heap.NoLimit) (ng : s.gens = #[]) (at_a : s.heap.get? a = some { cls := .type "list", data := .seq us.toArray }) (nums : IntsAre us ns) (small : ns.length ≤ sizeLine) (room : Room k callerA)
    (F : ∀ base : Heap, K.In base → base.Ns mainGlobals mg → FnG P w K mg base k fa fd [x] sp) (bind : ∀ (s : Shared) (u : Value), BindsTo s fd ⟨[u], []⟩ [(x, u)])
    (want : ∀ H : Hp, SqL K H a (ns.map V.int) → sp [.ref a] H (fun v _ => v = .bl true) fun _ _ _ => False) :
    codeAny (model P w) callerA (.call (.ref fa) ⟨[.ref a], []⟩) (fun r s2 => r = .ok (.ret (.bool true)) ∧ OldK s.heap s2.heap ∧ s2.os = s.os ∧ AllBare s2.gens) s := by
  have rel := vals_ints nums
  cases hk : K.lookup a with
  | some o =>
    have e := inK a o hk
    rw [at_a] at e
    cases e
    refine quiet_end (H := fun _ => none) inK nsG nsB bb nl ng at_a room F bind (want _ (.inr ⟨_, us.toArray, _, hk, rfl, rfl, rfl, ?_, rel⟩)) (fun _ => .inl rfl) (fun b u z => nomatch (show (none : Option HO) = some u from z)) fun b z => absurd rfl z
    rw [List.size_toArray, nums.length]
    exact small
  | none =>
    refine quiet_end (H := upd (fun _ => none) a (.frz { cls := .type "list", data := .seq us.toArray } (.lst (ns.map V.int)))) inK nsG nsB bb nl ng at_a room F bind (want _ (.inl (.inr ⟨_, upd_same⟩))) (fun b => ?_) (fun b u z => ?_) fun b z => ?_
    · by_cases hb : b = a
      · exact .inr ⟨_, _, by rw [hb]; exact upd_same⟩
      · exact .inl (upd_ne hb)
    · by_cases hb : b = a
      · subst hb
        rw [upd_same] at z
        cases z
        exact ⟨at_a, by rw [List.length_map]; exact small, us, _, rel, at_a⟩
      · rw [upd_ne hb] at z
        cases z
    · by_cases hb : b = a
      · exact ⟨hb, hk⟩
      · exact absurd (upd_ne hb) z
theorem walkG {l : PySem.W.OpenLaw} {n k : Nat} {q : Program} {loose : List Str} {XP : (Str → Option Value) → Heap → Prop} {YP : World → Heap → Prop} {d : DefRec} {K : Params → PySem.W.Frag} {x : Str} {sp : PySem.W.Frag → Sp} (most : l.most = some n) (small : n ≤ sizeLine) (plain : d.params.defaults = []) (room : Room k callerA)
    (left : ∀ (w : World) (h : Heap), YP w h → (K w.params).In h)
    (F : ∀ (w : World) (mg : Str → Option Value) (fa : Addr) (h : Heap), (K w.params).In h → h.Ns mainGlobals mg → mg d.name = some (.ref fa) → ∃ fd : FuncData, (∀ (s : Shared) (u : Value), BindsTo s fd ⟨[u], []⟩ [(x, u)]) ∧
      ∀ base : Heap, (K w.params).In base → base.Ns mainGlobals mg → FnG l.prog w (K w.params) mg base k fa fd [x] (sp (K w.params)))
    (want : ∀ (w : World) (H : Hp) (a : Addr) (ns : List Int), ns.length ≤ n → SqL (K w.params) H a (ns.map V.int) → sp (K w.params) [.ref a] H (fun v _ => v = .bl true) fun _ _ _ => False) :
    PySem.W.WalkO q loose XP YP l.row.toRowW d [] (fun f vs => PySem.call f vs) := by
  refine Att.attach_call most plain fun w s0 s mg mb fa o pm cd doc a us ns G Y ho hd hcd hmg at_a nums le ng => ?_
  obtain ⟨fd, bind, fn⟩ := F w mg fa _ (left w _ Y) G.T.g hmg
  exact quiet_call (left w _ Y) G.T.g G.T.b G.T.builtins G.T.nolimit ng at_a nums (Nat.le_trans le small) room fn bind fun H hS => want w H a ns le hS
end Gu
namespace Gu
open PySem PySem.Spec PyProof.Rows L2
/-! ### what can be written out -/
structure Fine (n W : Nat) (d : PyData) : Prop where
  nd : d.hasDict = false
  sh : d.showable = true
  ls : d.leavesShort 80 = true
  dp : d.depth ≤ n
  wt : d.weight ≤ W
structure FineAll (n W : Nat) (ds : List PyData) : Prop where
  nd : PyData.hasDictAll ds = false
  sh : PyData.showableAll ds = true
  ls : PyData.leavesShortAll 80 ds = true
  dp : PyData.depthAll ds ≤ n
  wt : PyData.weightAll ds ≤ ds.length * (W + 1)
theorem FineAll.of {n W : Nat} : ∀ {ds : List PyData}, (∀ d ∈ ds, Fine n W d) → FineAll n W ds
  | [], _ => ⟨rfl, rfl, rfl, Nat.zero_le _, Nat.zero_le _⟩
  | d :: ds, h => by
    have a := h d (List.mem_cons_self ..)
    have b := FineAll.of (ds := ds) fun e he => h e (List.mem_cons_of_mem _ he)
    refine ⟨?_, ?_, ?_, Nat.max_le.mpr ⟨a.dp, b.dp⟩, ?_⟩
    · show (d.hasDict || PyData.hasDictAll ds) = false
      rw [a.nd, b.nd]
      rfl
    · show (d.showable && PyData.showableAll ds) = true
      rw [a.sh, b.sh]
      rfl
    · show (d.leavesShort 80 && PyData.leavesShortAll 80 ds) = true
      rw [a.ls, b.ls]
      rfl
    · show d.weight + 1 + PyData.weightAll ds ≤ (ds.length + 1) * (W + 1)
      have := a.wt
      have := b.wt
      rw [Nat.succ_mul]
      omega
theorem FineAll.list {n W : Nat} {ds : List PyData} (a : FineAll n W ds) : Fine (n + 1) (ds.length * (W + 1)) (.list ds) := ⟨a.nd, a.sh, a.ls, Nat.succ_le_succ a.dp, a.wt⟩
theorem FineAll.tup {n W : Nat} {ds : List PyData} (a : FineAll n W ds) : Fine (n + 1) (ds.length * (W + 1)) (.tuple ds) := ⟨a.nd, a.sh, a.ls, Nat.succ_le_succ a.dp, a.wt⟩
theorem Fine.mono {n m W Z : Nat} {d : PyData} (h : Fine n W d) (a : n ≤ m) (b : W ≤ Z) : Fine m Z d := ⟨h.nd, h.sh, h.ls, Nat.le_trans h.dp a, Nat.le_trans h.wt b⟩
theorem Fine.bool (b : Bool) : Fine 0 0 (.bool b) := ⟨rfl, rfl, rfl, Nat.le_refl _, Nat.le_refl _⟩
theorem Fine.none : Fine 0 0 .none := ⟨rfl, rfl, rfl, Nat.le_refl _, Nat.le_refl _⟩
theorem Fine.int {i : Int} (h : i.natAbs < 2 ^ 70) : Fine 0 70 (.int i) := by
  have l : i.natAbs.log2 < 70 := PySem.Flt.log2_lt_of (by decide) h
  refine ⟨rfl, decide_eq_true (by omega), decide_eq_true ?_, Nat.le_refl _, ?_⟩
  · have e := int_text_length_le (a := i) (k := 70) (by decide) l
    show (Str.ofString (toString i)).length ≤ 80
    rw [PySem.ofString_length]
    omega
  · show (if i == 0 then 0 else i.natAbs.log2 + 1) ≤ 70
    split <;> omega
theorem Fine.str {z : Str} {W : Nat} (h : ∀ c ∈ z.cps.toList, c < 16 ^ 8) (w : z.cps.toList.length ≤ W) : Fine 0 W (.str z) := by
  refine ⟨rfl, rfl, ?_, Nat.le_refl _, w⟩
  show (z.cps.toList.all fun c => decide (c < 16 ^ 8)) = true
  rw [List.all_eq_true]
  exact fun c hc => decide_eq_true (h c hc)
theorem Fine.fits {d : PyData} (h : Fine 60 100000 d) : d.shown.length ≤ sizeLine := by
  have a := PyData.shown_le 80 (by decide) d h.ls
  have b := h.wt
  have c : (80 + 2) * d.weight ≤ 82 * 100000 := Nat.mul_le_mul_left _ b
  have e : sizeLine = 16777216 := by decide
  omega
section
variable {X : Cx}
/-- repr of a list or tuple, where none is being written out -/
theorem call_reprD (quiet : X.A.guards = some []) (hu : X.A.units + 64 < cLine) : CallR X (.builtin "repr") (fun xs H Q => ∃ (a : Addr) (d : PyData), xs = [.ref a] ∧ Dp X.K H (.ref a) d ∧ Fine 60 100000 d ∧ Q (.str d.shown) H) := by
  intro pins s σ H xs us Q I r h
  obtain ⟨a, d, rfl, hd, fine, q⟩ := h
  cases r with
  | cons r rr =>
    cases rr
    cases (show _ = Value.ref a from r)
    obtain ⟨as, rd⟩ := Dp.reads I d (.ref a) (.ref a) hd rfl
    have dp := fine.dp
    exact repr_of_reads' rd fine.sh (PyData.noDict_hsm fine.nd) quiet (by omega) (fun _ _ e => e) (fun g u tk keep => ⟨.str d.shown, H, I.kept (t' := tk) keep, ⟨_, rfl⟩, q⟩) fine.fits
end
end Gu
namespace Gu
open PySem PySem.Spec PyProof.Rows L2
def spRight : Sp := fun vs H Q _ => ∃ (p : Addr), vs = [.ref p] ∧ Pot H p ∧ ∀ G, Ladled p H G → Q (.bl true) G
end Gu
namespace Gu
open PySem PySem.Spec PyProof.Rows L2
def sorts : List Str := ["count", "free", "tight"]
section
variable {P : Program} {w : World} {K : PySem.W.Frag} {mg : Str → Option Value} {base : Heap} {C : Addr}
/-- Namer.__init__, Nm: what stands at a namer -/
def spNInit (C : Addr) (Nm : Hp → Addr → Str → Int → Prop) : Sp := fun vs H Q _ => ∃ (x dx : Addr) (so : Str) (w : Int), vs = [.ref x, .str so, .int w] ∧ H x = some (.ins C dx []) ∧ so ∈ sorts ∧ 6 ≤ w ∧ w ≤ 40 ∧
  ∀ (G : Hp), Nm G x so w → (∀ c o, H c = some o → c ≠ x → G c = some o) → Q .non G
def spNamesP (K : PySem.W.Frag) (Nm : Hp → Addr → Str → Int → Prop) : Sp := fun vs H Q _ => ∃ (x l : Addr) (so : Str) (w : Int) (ts : List Str), vs = [.ref x, .ref l] ∧ Nm H x so w ∧ so ∈ sorts ∧ 6 ≤ w ∧ w ≤ 40 ∧ SqT K H l (ts.map V.str) ∧ ts.length ≤ 6 ∧ (∀ t ∈ ts, Wd 200 t) ∧
  ∀ (p : Addr) (G : Hp), SqT K G p ((namesOf so w ts).map V.str) → Same H G → Q (.ref p) G
theorem names_wd {so : Str} {w : Int} {ts : List Str} (l : ts.length ≤ 6) (h : ∀ t ∈ ts, Wd 200 t) : ∀ y ∈ namesOf so w ts, Wd 202 y := fun y hy => by
  obtain ⟨q, hq, rfl⟩ := List.mem_map.mp hy
  exact (pairs_wd ts (by omega) h q hq).2
theorem names_len (so : Str) (w : Int) (ts : List Str) : (namesOf so w ts).length = ts.length := by
  unfold namesOf
  rw [List.length_map, pairsOf_len]
theorem dp_strs {K : PySem.W.Frag} {H : Hp} : ∀ ys : List Str, DpAll K H (ys.map V.str) (ys.map PyData.str)
  | [] => .nil
  | y :: ys => .cons (.str y) (dp_strs ys)
theorem fine_strs {ys : List Str} (l : ys.length ≤ 100) (h : ∀ y ∈ ys, Wd 300 y) : Fine 60 100000 (.tuple (ys.map PyData.str)) := by
  have a : ∀ c ∈ abc.cps.toList, c < 16 ^ 8 := by decide +kernel
  have b : FineAll 0 300 (ys.map PyData.str) := FineAll.of fun d hd => by
    obtain ⟨y, hy, rfl⟩ := List.mem_map.mp hd
    exact Fine.str (fun c hc => a c ((h y hy).sgn c hc)) (h y hy).len
  refine b.tup.mono (by decide) ?_
  rw [List.length_map]
  have := Nat.mul_le_mul_right (300 + 1) l
  omega
/-! names are short -/
theorem wd_num {m : Nat} {so t : Str} {w k : Int} (h : Wd m (nbase w t)) (h0 : 0 ≤ k) (h1 : k < 10) : Wd (m + 2) (numbered so w t k) := by
  have a : Wd 2 (ending k) := (wd_lit (z := ("~" : String)) (n := 1) (by decide +kernel)).app (wd_digit h0 h1) (by decide)
  unfold numbered
  split
  · exact (h.cut _ _).app a (Nat.le_refl _)
  · exact h.app a (Nat.le_refl _)
theorem short_seek {m : Nat} {so t : Str} {w : Int} {ys : List Str} (h : Wd m (nbase w t)) : ∀ (k a : Nat), a + k < 8 → Wd (m + 2) (seek (cand so w t) ys k a)
  | 0, a, l => wd_num h (by omega) (by omega)
  | k + 1, a, l => by
    unfold seek
    split
    · exact short_seek h k (a + 1) (by omega)
    · exact wd_num h (by omega) (by omega)
theorem short_name {n : Nat} {so t : Str} {w : Int} {ps : List (Str × Str)} (h : Wd n t) (w0 : 0 ≤ w) (w1 : w ≤ 40) (l : ps.length ≤ 6) : Wd 42 (nameOf so w t ps) := by
  have b : Wd 40 (nbase w t) := wd_head h.sgn w0 (by omega)
  have m : (mates w t ps).length ≤ ps.length := List.length_filter_le ..
  unfold nameOf
  split
  · split
    · exact b.mono (by decide)
    · exact wd_num b (by omega) (by omega)
  · split
    · exact short_seek b _ _ (by rw [List.length_map]; omega)
    · exact b.mono (by decide)
theorem pairs_are {so : Str} {w : Int} (ts : List Str) (l : ts.length ≤ 7) : ∀ q ∈ pairsOf so w ts, ∃ ps : List (Str × Str), q.1 ∈ ts ∧ ps.length ≤ 6 ∧ q.2 = nameOf so w q.1 ps := by
  have a : ∀ (ts : List Str) (acc : List (Str × Str)) (all : List Str), acc.length + ts.length ≤ 7 → (∀ t ∈ ts, t ∈ all) → (∀ q ∈ acc, ∃ ps : List (Str × Str), q.1 ∈ all ∧ ps.length ≤ 6 ∧ q.2 = nameOf so w q.1 ps) → ∀ q ∈ ts.foldl (fun ps t => ps ++ [(t, nameOf so w t ps)]) acc, ∃ ps : List (Str × Str), q.1 ∈ all ∧ ps.length ≤ 6 ∧ q.2 = nameOf so w q.1 ps := by
    intro ts
    induction ts with
    | nil => exact fun _ _ _ _ h => h
    | cons t ts ih =>
      intro acc all l ht ha
      rw [List.length_cons] at l
      rw [List.foldl_cons]
      refine ih _ all (by rw [List.length_append, List.length_singleton]; omega) (fun x hx => ht x (List.mem_cons_of_mem _ hx)) fun q hq => ?_
      rcases List.mem_append.mp hq with hq | hq
      · exact ha q hq
      · rw [List.mem_singleton.mp hq]
        exact ⟨acc, ht t (List.mem_cons_self ..), by omega, rfl⟩
  exact a ts [] ts (by rw [List.length_nil]; omega) (fun _ h => h) fun q hq => by cases hq
theorem names_short {so : Str} {w : Int} {ts : List Str} (l : ts.length ≤ 6) (h : ∀ t ∈ ts, Wd 200 t) (w0 : 0 ≤ w) (w1 : w ≤ 40) : ∀ y ∈ namesOf so w ts, Wd 42 y := fun y hy => by
  obtain ⟨q, hq, rfl⟩ := List.mem_map.mp hy
  obtain ⟨ps, h1, h2, h3⟩ := pairs_are ts (by omega) q hq
  rw [h3]
  exact short_name (h _ h1) w0 w1 h2
end
end Gu
namespace Gu
open PySem PySem.Spec PyProof.Rows L2
theorem yes {σ : L2.St} {H : Hp} {Q : Bool → Hp → Prop} (h : Q true H) : tYes σ H Q := h
end Gu
namespace Gu
open PySem PySem.Spec PyProof.Rows L2
/-! ### is_integer, is_text -/
/-- isinstance(x, T) is b -/
def Isa (K : PySem.W.Frag) (H : Hp) (x : V) (T : String) (b : Bool) : Prop := ∃ t, TyX K H x t ∧ PySem.W.kitOne K t (.type T) = some b
def signs : Str := ".0123456789abcdefghijklmnopqrstuvwxyz~"
def isTxt (z : Str) (m : Int) : Bool := decide ((z.length : Int) ≤ m) && z.cps.toList.all fun c => decide (c ∈ signs.cps.toList)
section
variable {P : Program} {w : World} {K : PySem.W.Frag} {mg : Str → Option Value} {base : Heap}
theorem Isa.int_int {H : Hp} {i : Int} : Isa K H (.int i) "int" true := ⟨_, .base (.int i), kit_ty (by decide +kernel)⟩
theorem Isa.int_bool {H : Hp} {i : Int} : Isa K H (.int i) "bool" false := ⟨_, .base (.int i), kit_ty (by decide +kernel)⟩
theorem Isa.str_str {H : Hp} {z : Str} : Isa K H (.str z) "str" true := ⟨_, .base (.str z), kit_ty (by decide +kernel)⟩
def spIsInteger (K : PySem.W.Frag) : Sp := fun vs H Q _ => ∃ (x : V) (a b : Int), vs = [x, .int a, .int b] ∧
  ((∃ v, x = .int v ∧ Q (.bl (decide (a ≤ v ∧ v ≤ b))) H) ∨ (Isa K H x "int" false ∧ Q (.bl false) H) ∨ (Isa K H x "int" true ∧ Isa K H x "bool" true ∧ Q (.bl false) H))
theorem cal_isInteger (B : Bi mg) (D : At K mg "is_integer" s_is_integer ps_is_integer) : Cal P w K mg base 1 "is_integer" ps_is_integer (spIsInteger K) := by
  refine D.cal sc_is_integer (fun vs H Q E h => ?_) (fun f cdv A outer s H vs Q E hr h => ?_)
  · obtain ⟨x, a, b, rfl, _⟩ := h
    rfl
  · obtain ⟨x, a, b, rfl, h⟩ := h
    refine ⟨_, (pss_cons (ps_if (PW.pt (pw_or (pt_not (pt_val (pe_callB call_isi (by rfl) B.isinstance (by decide +kernel) (pa_cons (pv 0) (pa_cons (pe_bltn (v := .ty "int") (by rfl) B.int (by decide +kernel) rfl) pa_nil))))) (pw_or1 (pt_val (pe_callB call_isi (by rfl) B.isinstance (by decide +kernel) (pa_cons (pv 0) (pa_cons (pe_bltn (v := .ty "bool") (by rfl) B.bool (by decide +kernel) rfl) pa_nil))))))) (pss_one (ps_ret pe_bl)) pss_nil)
      (pss_one (ps_ret (pe_chain op_le op_le (pv 1) (pv 0) (pv 2))))), ?_⟩
    rcases h with ⟨v, rfl, k⟩ | ⟨⟨t, i1, i2⟩, k⟩ | ⟨⟨t, i1, i2⟩, ⟨t', j1, j2⟩, k⟩
    · obtain ⟨t, i1, i2⟩ := Isa.int_int (K := K) (H := H) (i := v)
      obtain ⟨t', j1, j2⟩ := Isa.int_bool (K := K) (H := H) (i := v)
      refine ⟨_, rfl, _, _, t, _, true, rfl, .ty _, i1, i2, _, rfl, iteF ⟨_, rfl, _, _, t', _, false, rfl, .ty _, j1, j2, _, rfl, iteF ?_⟩⟩
      refine ⟨_, rfl, _, rfl, _, _, rfl, rfl, _, rfl, ?_⟩
      by_cases e1 : a ≤ v
      · rw [decide_eq_true e1]
        refine iteT ⟨_, rfl, _, _, rfl, rfl, ?_⟩
        have e : decide (a ≤ v ∧ v ≤ b) = decide (v ≤ b) := by simp only [e1, true_and]
        rw [e] at k
        exact k
      · rw [decide_eq_false e1]
        refine iteF ?_
        have e : decide (a ≤ v ∧ v ≤ b) = false := by simp only [e1, false_and, decide_false]
        rw [e] at k
        exact k
    · refine ⟨_, rfl, _, _, t, _, false, rfl, .ty _, i1, i2, _, rfl, iteT (iteT k)⟩
    · refine ⟨_, rfl, _, _, t, _, true, rfl, .ty _, i1, i2, _, rfl, iteF ⟨_, rfl, _, _, t', _, true, rfl, .ty _, j1, j2, _, rfl, iteT k⟩⟩
def spIsText (K : PySem.W.Frag) : Sp := fun vs H Q _ => ∃ (x : V) (m : Int), vs = [x, .int m] ∧
  ((∃ z : Str, x = .str z ∧ z.length ≤ 1000 ∧ ∀ G, Same H G → Q (.bl (isTxt z m)) G) ∨ (Isa K H x "str" false ∧ Q (.bl false) H))
theorem cal_isText (B : Bi mg) (D : At K mg "is_text" s_is_text ps_is_text) : Cal P w K mg base 1 "is_text" ps_is_text (spIsText K) := by
  refine D.cal sc_is_text (fun vs H Q E h => ?_) (fun f cdv A outer s H vs Q E hr h => ?_)
  · obtain ⟨x, m, rfl, _⟩ := h
    rfl
  · obtain ⟨x, m, rfl, h⟩ := h
    refine ⟨_, (pss_cons (ps_if (PW.pt (pw_or (pt_not (pt_val (pe_callB call_isi (by rfl) B.isinstance (by decide +kernel) (pa_cons (pv 0) (pa_cons (pe_bltn (v := .ty "str") (by rfl) B.str (by decide +kernel) rfl) pa_nil))))) (pw_or1 (pt_cmpR op_gt (pe_callB call_len (by rfl) B.len (by decide +kernel) (pa_cons (pv 0) pa_nil)) (pv 1) (nomark _))))) (pss_one (ps_ret pe_bl)) pss_nil)
      (pss_one (ps_ret (pe_callB (cr_all rfl) (by rfl) B.all (by decide +kernel) (pa_cons (pe_lc (own := [("character", 2)]) (by rfl) sc_is_text.nd (pi_str (pv 0)) (blkOk_by (own := [("character", 2)]) (N := ["value", "most", "character"]) (sc := defScope s_is_text) (by decide +kernel)) (fun _ _ _ _ _ => pg_name (i := 2) sc_is_text.nd rfl (.inl rfl)) (fun _ _ _ _ _ => pts_nil) (fun _ _ _ _ _ => (pe_cmpR op_in_sign (pv 2) (pe_cst B.SIGNS (by rfl)) (by rfl)))) pa_nil))))), ?_⟩
    rcases h with ⟨z, rfl, zl, k⟩ | ⟨⟨t, i1, i2⟩, k⟩
    · obtain ⟨t, i1, i2⟩ := Isa.str_str (K := K) (H := H) (z := z)
      refine ⟨_, rfl, _, _, t, _, true, rfl, .ty _, i1, i2, _, rfl, iteF ⟨_, rfl, _, _, rfl, ⟨Nat.le_of_lt (small1000 zl), rfl⟩, _, rfl, _, _, rfl, rfl, _, rfl, ite2 (fun e => ?_) (fun e => ?_)⟩⟩
      · have e1 : ¬ (z.length : Int) ≤ m := by
          have := of_decide_eq_true e
          omega
        have e2 : isTxt z m = false := by
          unfold isTxt
          rw [decide_eq_false e1, Bool.false_and]
        rw [e2] at k
        exact k H (Same.refl H)
      · have e1 : (z.length : Int) ≤ m := by
          have h2 : ¬ m < (z.length : Int) := fun h3 => e (decide_eq_true h3)
          omega
        refine ⟨_, rfl, z, rfl, fun D nD => lc_it walk_str (fun i J => Same H J ∧ J D = some (.lst (((z.cps.toList.take i).map fun c => decide (c ∈ signs.cps.toList)).map V.bl)))
          ⟨same_new nD, by rw [upd_same]; rfl⟩ (fun _ _ _ _ => trivial) ?_ ?_⟩
        · rintro i v J _ hi ⟨sJ, eJ⟩ ⟨rfl, c, hc, rfl⟩
          refine ⟨rfl, yes (iteT ?_)⟩
          refine ⟨_, rfl, c, signs, rfl, rfl, _, eJ, small1000 ?_, ?_, ?_⟩
          · rw [List.length_map, List.length_map, List.length_take]
            have : z.length = z.cps.toList.length := rfl
            omega
          · exact fun b o e => by
              rw [upd_ne (ne_of_none e nD)]
              exact sJ b o e
          · rw [upd_same]
            have hc' : z.cps.toList[i]? = some c := by
              rw [← Array.getElem?_toList] at hc
              exact hc
            rw [List.take_add_one, hc', List.map_append, List.map_append]
            rfl
        · rintro J ⟨sJ, eJ⟩
          refine ⟨D, ((z.cps.toList.take z.cps.size).map fun c => decide (c ∈ signs.cps.toList)), rfl, .inl (.inl eJ), ?_⟩
          have e2 : ((z.cps.toList.take z.cps.size).map fun c => decide (c ∈ signs.cps.toList)).all id = isTxt z m := by
            unfold isTxt
            rw [decide_eq_true e1, Bool.true_and, List.take_of_length_le (show z.cps.toList.length ≤ z.cps.size from Nat.le_refl _), List.all_map]
            rfl
          rw [e2]
          exact k J sJ
    · refine ⟨_, rfl, _, _, t, _, false, rfl, .ty _, i1, i2, _, rfl, iteT (iteT k)⟩
end
end Gu
namespace Gu
open PySem PySem.Spec PyProof.Rows L2
/-! ### is_tuple -/
theorem isaTupP {K : PySem.W.Frag} {H : Hp} {l : Addr} {xs : List V} (h : SqT K H l xs) : Isa K H (.ref l) "tuple" true := by
  rcases h with (h | ⟨o, h⟩) | ⟨o, its, n, e, c, _⟩
  · exact ⟨_, .base (.tup h), kit_ty (by decide +kernel)⟩
  · exact ⟨_, .fTuple h, kit_ty (by decide +kernel)⟩
  · exact ⟨_, .kTuple e c, kit_ty (by decide +kernel)⟩
section
variable {P : Program} {w : World} {K : PySem.W.Frag} {mg : Str → Option Value} {base : Heap} {C : Addr}
def spIsTuple (K : PySem.W.Frag) : Sp := fun vs H Q _ => ∃ (x : V) (a b : Int), vs = [x, .int a, .int b] ∧
  ((∃ (l : Addr) (xs : List V), x = .ref l ∧ SqT K H l xs ∧ Q (.bl (decide (a ≤ (xs.length : Int) ∧ (xs.length : Int) ≤ b))) H) ∨ (Isa K H x "tuple" false ∧ Q (.bl false) H))
theorem cal_isTuple (B : Bi mg) (D : At K mg "is_tuple" s_is_tuple ps_is_tuple) : Cal P w K mg base 1 "is_tuple" ps_is_tuple (spIsTuple K) := by
  refine D.cal sc_is_tuple (fun vs H Q E h => ?_) (fun f cdv A outer s H vs Q E hr h => ?_)
  · obtain ⟨x, a, b, rfl, _⟩ := h
    rfl
  · obtain ⟨x, a, b, rfl, h⟩ := h
    refine ⟨_, (pss_one (ps_ret (pe_and (pe_callB call_isi (by rfl) B.isinstance (by decide +kernel) (pa_cons (pv 0) (pa_cons (pe_bltn (v := .ty "tuple") (by rfl) B.tuple (by decide +kernel) rfl) pa_nil))) (pe_one (pe_chain op_le op_le (pv 1) (pe_callB call_len (by rfl) B.len (by decide +kernel) (pa_cons (pv 0) pa_nil)) (pv 2)))))), ?_⟩
    rcases h with ⟨l, xs, rfl, hT, k⟩ | ⟨⟨t, i1, i2⟩, k⟩
    · obtain ⟨t, i1, i2⟩ := isaTupP hT
      refine ⟨_, rfl, _, _, t, _, true, rfl, .ty _, i1, i2, _, rfl, iteT ?_⟩
      refine ⟨_, rfl, _, rfl, _, _, rfl, .inr ⟨_, hT, rfl⟩, _, _, rfl, rfl, _, rfl, ?_⟩
      by_cases e1 : a ≤ (xs.length : Int)
      · rw [decide_eq_true e1]
        refine iteT ⟨_, rfl, _, _, rfl, rfl, ?_⟩
        have e : decide (a ≤ (xs.length : Int) ∧ (xs.length : Int) ≤ b) = decide ((xs.length : Int) ≤ b) := by simp only [e1, true_and]
        rw [e] at k
        exact k
      · rw [decide_eq_false e1]
        refine iteF ?_
        have e : decide (a ≤ (xs.length : Int) ∧ (xs.length : Int) ≤ b) = false := by simp only [e1, false_and, decide_false]
        rw [e] at k
        exact k
    · exact ⟨_, rfl, _, _, t, _, false, rfl, .ty _, i1, i2, _, rfl, iteF k⟩
end
end Gu
namespace PySem
open Sem (wp)
open AutoSeq1 (wpAny_loadPart')
theorem gu_new_enum (a : Addr) (vs : Array Value) (n : Nat) (dt : Option Addr) (sl : Array (Option Value)) : Meets (Builtin.«enumerate.__new__» ⟨[.type "enumerate", .ref a], []⟩) (fun _ R s =>
    s.heap.get? a = some ⟨.type "tuple", dt, .seq vs n, sl⟩ ∧ R (.ok (.ret (.ref (s.heap.push { cls := .type "tuple_iterator", data := .fields #[.ref a, .int 0 0] }).objs.size))) { s with heap := (s.heap.push { cls := .type "tuple_iterator", data := .fields #[.ref a, .int 0 0] }).push { cls := .type "enumerate", data := .fields #[.none, .bool false, .ref s.heap.objs.size, rawInt 0, .none, .none] } }) :=
  .of_wp fun prog w A R s h => by
    obtain ⟨s1, s2, s3, s4, s5⟩ := s
    obtain ⟨ha, h⟩ := h
    have sb := sub_enumerate
    have hT : Heap.IsTuple (Shared.heap ⟨s1, s2, s3, s4, s5⟩) a vs := ⟨_, ha, rfl, n, rfl⟩
    wp_walk using wpAny_loadPart' ha
    refine wpAny_stack_any fun fr => wpAny_pure ?_
    split
    · next c _ _ _ _ _ =>
      cases (c == Value.type "enumerate") <;> (wp_walk using wpAny_loadPart' ha, wpAny_pyIter_tuple hT; exact ⟨_, rfl, h⟩)
    · wp_walk using wpAny_loadPart' ha, wpAny_pyIter_tuple hT
      exact ⟨_, rfl, h⟩
section
variable {prog : Program} {w : World} {A : Around} {E : Value → Shared → Prop} {s : Shared}
theorem gu_call_enum {a : Addr} {vs : Array Value} {Q : Value → Shared → Prop} (hT : s.heap.IsTuple a vs)
    (h : ∀ g, IsEnum g (s.heap.objs.size + 1) s.heap.objs.size 0 .none → g.IsTupleIter s.heap.objs.size a 0 → (∀ b o, s.heap.get? b = some o → g.get? b = some o) → Q (.ref (s.heap.objs.size + 1)) { s with heap := g }) :
    wpAny (model prog w) A (call (.type "enumerate") [.ref a]) Q E s := by
  obtain ⟨⟨oc, od, dd, sl⟩, ha, hc, n, hd⟩ := hT
  cases (show oc = .type "tuple" from hc)
  cases (show dd = .seq vs n from hd)
  refine callType_new F.called_enumerate (by decide) (F.typeCall_enumerate_1 _) (F.newCall_enumerate_1 _) (fun o => F.args_object_init_2 o _) F.entry_enumerate_new (gu_new_enum a vs n od sl) ⟨ha, ?_⟩
  have z1 : (s.heap.push { cls := .type "tuple_iterator", data := .fields #[.ref a, .int 0 0] }).objs.size = s.heap.objs.size + 1 := Heap.size_push ..
  show _ ∧ _
  rw [z1]
  have en : IsEnum ((s.heap.push { cls := .type "tuple_iterator", data := .fields #[.ref a, .int 0 0] }).push { cls := .type "enumerate", data := .fields #[.none, .bool false, .ref s.heap.objs.size, rawInt 0, .none, .none] }) (s.heap.objs.size + 1) s.heap.objs.size 0 .none := by
    have q := Heap.get?_push_size (s.heap.push { cls := .type "tuple_iterator", data := .fields #[.ref a, .int 0 0] }) (o := { cls := .type "enumerate", data := .fields #[.none, .bool false, .ref s.heap.objs.size, rawInt 0, .none, .none] }) rfl
    rw [z1] at q
    exact q
  exact ⟨⟨_, en, rfl⟩, h _ en ⟨_, Heap.get?_push_of_some _ (Heap.get?_push_size _ rfl), rfl, rfl⟩ fun b o x => Heap.get?_push_of_some _ (Heap.get?_push_of_some _ x)⟩
end
end PySem
namespace Gu
open PySem PySem.Spec PyProof.Rows L2
/-- the tuple at a, each item in a new pair with its place -/
def EnT (K : PySem.W.Frag) (a : Addr) : It where
  go := fun i H => ∃ (xs : List V) (x : V), SqT K H a xs ∧ xs[i]? = some x
  yld := fun i H v G => ∃ T x, v = .ref T ∧ H T = none ∧ G = upd H T (.tup [.int (i : Nat), x]) ∧ ∀ xs, SqT K H a xs → xs[i]? = some x
  stop := fun i H => ∃ xs : List V, SqT K H a xs ∧ xs.length = i
theorem turn_enT {P : Program} {w : World} {K : PySem.W.Frag} {es : List Expr} {kk : Nat} {tp : Pos} (a e it : Addr) :
    Turn P w K (.Tuple es kk tp) (EnT K a) [e, it] e (fun i h => (∃ old, IsEnum h e it ((i : Nat) : Int) old) ∧ h.IsTupleIter it a i ∧ e ≠ it) where
  mem := List.mem_cons_self ..
  obj := fun i h st b hb => by
    obtain ⟨⟨old, he⟩, ⟨o, ho, hc, hd⟩, _⟩ := st
    simp only [List.mem_cons, List.not_mem_nil, or_false] at hb
    rcases hb with rfl | rfl
    · exact ⟨_, he, fun v q => nomatch q⟩
    · exact ⟨o, ho, fun v q => by rw [hd] at q; cases q⟩
  keep := fun i h g st k => by
    obtain ⟨⟨old, he⟩, hi, ne⟩ := st
    exact ⟨⟨old, k e (by simp) _ he⟩, hi.at fun o q => k it (by simp) o q, ne⟩
  item := by
    intro X hP hw hK hc i pins s σ H E I hf st hg
    subst hP hw hK
    obtain ⟨⟨old, he⟩, hit, ne⟩ := st
    obtain ⟨xs, x, hq, hx⟩ := hg
    obtain ⟨its, rv, tp, hz⟩ := I.tuple hq
    obtain ⟨u, hu, ru⟩ := rv.get hx
    have el : e < s.heap.objs.size := Heap.lt_size he
    have il : it < s.heap.objs.size := by
      obtain ⟨_, q, _⟩ := hit
      exact Heap.lt_size q
    have tp' : s.heap.IsTuple a its.toArray := tp
    have nai : a ≠ it := fun z => by
      obtain ⟨o1, g1, c1, _⟩ := tp'
      obtain ⟨o2, g2, c2, _⟩ := hit
      rw [z] at g1
      cases g1.symm.trans g2
      exact absurd (Value.type.inj (c1.symm.trans c2)) (by decide)
    have nea : e ≠ a := fun z => by
      obtain ⟨o1, g1, c1, _⟩ := tp'
      have g2 := he
      rw [z] at g2
      cases g1.symm.trans g2
      exact absurd (Value.type.inj c1) (by decide)
    have hd : X.A.in1.handled = none := I.ok.hd hc
    refine wpAny_pyNext_enum_itemD (Draws.tuple hd it a nai its.toArray) he ⟨hit, tp'⟩ (i := i) (by
      have := (List.getElem?_eq_some_iff.mp hu).1
      simpa using this) ne (by simp [ne, nea]) fun y g tk hy ho st' hT hsz hk => ?_
    have ey : y = u := by
      have : its[i]? = some y := by simpa using hy
      rw [hu] at this
      exact (Option.some.inj this).symm
    subst ey
    refine ⟨_, rfl, wpAny_letOwnedTupleGo_enum (s := { s with heap := g, toks := tk + 1 }) ho fun g2 he' sb => ?_⟩
    have hT2 : g2.get? s.heap.objs.size = some { cls := .type "tuple", data := .seq #[.int i tk, y] } := (sb.2 _ (Nat.ne_of_gt el)).trans hT
    have nw : ObjOk X.prog X.w (upd H s.heap.objs.size (.tup [.int (i : Nat), x])) g2 s.heap.objs.size (.tup [.int (i : Nat), x]) := ⟨by show 2 ≤ sizeLine; decide, [.int i tk, y], .cons ⟨_, rfl⟩ (.cons ru .nil), ⟨_, hT2, rfl, _, rfl⟩⟩
    have I1 : Inv X pins σ (upd H s.heap.objs.size (.tup [.int (i : Nat), x])) { s with heap := g2, toks := tk + 1 } :=
      I.turnedNew (ch := [e, it]) (fun b ob hb q => (sb.2 b (fun z => hb (by simp [z]))).trans (hk b ob (fun z => hb (by simp [z])) (fun z => hb (by simp [z])) q)) hf (Nat.le_refl _) nw
    refine ⟨.ref s.heap.objs.size, _, I1, rfl, ⟨_, x, rfl, I.hok.fresh (Nat.le_refl _), rfl, fun ys hy => by rw [I.tuple_inj hy hq]; exact hx⟩, ⟨⟨y, ?_⟩, st'.1.at fun o q => (sb.2 it (Ne.symm ne)).trans q, ne⟩, fun b hb => ?_⟩
    · rw [show ((i + 1 : Nat) : Int) = (i : Int) + 1 by omega]
      exact he'
    · have hb' : b < s.heap.objs.size := by
        simp only [List.mem_cons, List.not_mem_nil, or_false] at hb
        rcases hb with rfl | rfl
        · exact el
        · exact il
      rw [upd_ne (Nat.ne_of_lt hb')]
      exact (hf b hb).1
  done := by
    intro X hP hw hK hc i pins s σ H E I hf st hg
    subst hP hw hK
    obtain ⟨⟨old, he⟩, hit, ne⟩ := st
    obtain ⟨xs, hq, hx⟩ := hg
    obtain ⟨its, rv, tp, hz⟩ := I.tuple hq
    have tp' : s.heap.IsTuple a its.toArray := tp
    have nai : a ≠ it := fun z => by
      obtain ⟨o1, g1, c1, _⟩ := tp'
      obtain ⟨o2, g2, c2, _⟩ := hit
      rw [z] at g1
      cases g1.symm.trans g2
      exact absurd (Value.type.inj (c1.symm.trans c2)) (by decide)
    have hd : X.A.in1.handled = none := I.ok.hd hc
    have en : its.toArray.size = i := by
      have := rv.length
      simp only [List.size_toArray]
      omega
    obtain ⟨f0, f1, f2, f3, f4, f5⟩ := hf it (by simp)
    exact wpAny_pyNext_enum_endD (Draws.tuple hd it a nai its.toArray) he ⟨by rw [en]; exact hit, tp'⟩ fun g eb => ⟨rfl, I.turned (t' := s.toks) (fun b o hb q => eb b o hb q) f0 f1 f3 f4 f5⟩
  self := fun A i s Q E st h => by
    obtain ⟨⟨_, he⟩, _⟩ := st
    exact wpAny_pyIter_enum he h
def iEnT (K : PySem.W.Frag) (ta : TA) : TI := fun σ H R => ta σ H fun vs G => ∃ a xs, vs = [.ref a] ∧ SqT K G a xs ∧ R (EnT K a) G
theorem pi_enT {X : Cx} {e : Expr} {ta : TA} {p pos tp : Pos} {es : List Expr} {kk : Nat} (hg : Gl X "enumerate") (hm : X.mg "enumerate" = none) (ha : PA X [e] ta) (hs : starEach [e] X.env = [(false, eval e X.env)] := by rfl) :
    PI X (.Tuple es kk tp) (.Call (.Name "enumerate" p) [e] [] pos) (iEnT X.K ta) := by
  refine ⟨fun pins s σ H R I h => ?_⟩
  refine Call_ (ld_blt I hg hm boot_enumerate (PyProof.Rows.callWith_type1 (thn (ha.run pos pins s σ H _ I h) fun us s1 ⟨vs, G, I1, r1, q1⟩ => ?_) hs rfl))
  obtain ⟨a, xs, ex, hq, q⟩ := q1
  subst ex
  cases r1 with
  | cons r rr =>
    cases rr
    cases r
    obtain ⟨its, rv, tq, hz⟩ := I1.tuple hq
    refine gu_call_enum (show s1.heap.IsTuple a its.toArray from tq) fun g he hit hk => wpAny_pyIter_enum he ?_
    have I2 : Inv X pins σ G { s1 with heap := g } := I1.kept (t' := s1.toks) hk
    refine ⟨s1.heap.objs.size + 1, [s1.heap.objs.size + 1, s1.heap.objs.size], _, _, G, rfl, I2, turn_enT a (s1.heap.objs.size + 1) s1.heap.objs.size, ⟨⟨.none, he⟩, hit, Nat.succ_ne_self _⟩, fun b hb => ?_, q⟩
    have le : s1.heap.objs.size ≤ b := by
      simp only [List.mem_cons, List.not_mem_nil, or_false] at hb
      rcases hb with rfl | rfl
      · exact Nat.le_add_right _ _
      · exact Nat.le_refl _
    exact I1.fpOk le (I1.hok.fresh le)
/-- the walk of such a loop: a new pair each turn -/
theorem walk_enT {K : PySem.W.Frag} {a : Addr} {xs : List V} : Walk (EnT K a) xs.length (fun H => SqT K H a xs) (fun i H v G => ∃ T x, xs[i]? = some x ∧ v = .ref T ∧ H T = none ∧ G = upd H T (.tup [.int (i : Nat), x])) where
  goes := fun i H hi h => ⟨xs, xs[i], h, List.getElem?_eq_getElem hi⟩
  stops := fun H h => ⟨xs, h, rfl⟩
  yields := fun i H v G hi h ⟨T, x, e1, e2, e3, e4⟩ => ⟨T, x, e4 xs h, e1, e2, e3⟩
end Gu
namespace Gu
open PySem PySem.Spec PyProof.Rows L2
/-! ### the class Namer, its __init__ -/
def nflds (so : Str) (w : Int) : List (Str × V) := putF "width" (.int w) (putF "rule" (.str so) [])
theorem nflds_rule (so : Str) (w : Int) : (nflds so w).lookup ("rule" : Str) = some (.str so) := by
  unfold nflds
  rw [lookup_putF, if_neg (by decide +kernel), lookup_putF, if_pos rfl]
theorem nflds_width (so : Str) (w : Int) : (nflds so w).lookup ("width" : Str) = some (.int w) := by
  unfold nflds
  rw [lookup_putF, if_pos rfl]
/-- what stands at a namer -/
def NmAt (C : Addr) (H : Hp) (x : Addr) (so : Str) (w : Int) : Prop := ∃ dx, H x = some (.ins C dx (nflds so w))
theorem NmAt.same {C : Addr} {H G : Hp} {x : Addr} {so : Str} {w : Int} (s : Same H G) (h : NmAt C H x so w) : NmAt C G x so w := by
  obtain ⟨dx, e⟩ := h
  exact ⟨dx, s _ _ e⟩
structure NmC (K : PySem.W.Frag) (mg : Str → Option Value) (C : Addr) : Prop where
  cl : Cls K C
  nR : NoAttr K C "rule"
  nW : NoAttr K C "width"
  g : mg "Namer" = some (.ref C)
  ha : PySem.W.findIn K (.ref C) "__class__" = some (some (.builtin "object.__class__"))
  hn : PySem.W.specialIn K (.builtin "object.__class__") "__get__" = some (some (.builtin "getset_descriptor.__get__"))
  ht : PySem.W.takesIn K (.builtin "object.__class__") = some true
  hm : PySem.W.mroIn K C (.type "object") = some true
  kk : PySem.W.kitOne K (.ref C) (.ref C) = some true
  rules : ∃ T, mg "RULES" = some (.ref T) ∧ ∀ H : Hp, SqT K H T (sorts.map V.str)
structure NInitAt (K : PySem.W.Frag) (C : Addr) : Prop where
  ex : ∃ (f : Addr) (fd : FuncData), Mk K C f ∧ Fun K "__init__" "Namer.__init__" s_Namer_init f fd ∧ Binds K fd ps_Namer_init []
section
variable {P : Program} {w : World} {K : PySem.W.Frag} {mg : Str → Option Value} {base : Heap} {C : Addr}
theorem ok_ninit {f : Addr} {fd : FuncData} (B : Bi mg) (S : NmC K mg C) (F : Fun K "__init__" "Namer.__init__" s_Namer_init f fd) (C_is_integer : Cal P w K mg base 1 "is_integer" ps_is_integer (spIsInteger K)) : FnOk P w K mg base CX0 2 f fd ps_Namer_init (spNInit C (NmAt C)) := by
  refine F.ok sc_Namer_init (fun vs H Q E h => ?_) (fun cdv A outer s H vs Q E hr h => ?_)
  · obtain ⟨x, dx, so, w, rfl, _⟩ := h
    rfl
  · obtain ⟨x, dx, so, w, rfl, hx, hso, w0, w1, k⟩ := h
    obtain ⟨T, gT, hT⟩ := S.rules
    refine ⟨_, (pss_cons (ps_if (PW.pt (pw_or (pt_not (pt_val (pe_callB call_isi (by rfl) B.isinstance (by decide +kernel) (pa_cons (pv 1) (pa_cons (pe_bltn (v := .ty "str") (by rfl) B.str (by decide +kernel) rfl) pa_nil))))) (pw_or1 (pt_cmpR op_notIn_seq (pv 1) (pe_glob (v := .ref T) (by rfl) gT rfl) (by rfl))))) pss_never pss_nil)
      (pss_cons (ps_if (pt_not (pt_val (pe_own C_is_integer hr (by decide) (by rfl) (pa_cons (pv 2) (pa_cons (pe_cst B.LEAST_WIDTH (by rfl)) (pa_cons (pe_cst B.MOST_SIGNS (by rfl)) pa_nil)))))) pss_never pss_nil)
      (pss_cons (ps_fld (pv 0) (pv 1) rfl)
      (pss_one (ps_fld (pv 0) (pv 2) rfl))))), ?_⟩
    obtain ⟨t, i1, i2⟩ := Isa.str_str (K := K) (H := H) (z := so)
    refine ⟨_, rfl, _, _, t, _, true, rfl, .ty _, i1, i2, _, rfl, iteF ?_⟩
    refine ⟨_, rfl, T, _, rfl, .inr (hT H), rfl, flat_strs sorts, _, rfl, ?_⟩
    rw [in_strs so sorts, decide_eq_true hso]
    refine iteF ?_
    refine ⟨_, rfl, _, _, _, rfl, .inl ⟨_, rfl, _, rfl, ?_⟩⟩
    rw [decide_eq_true ⟨w0, w1⟩]
    refine iteF ?_
    refine ⟨_, rfl, _, rfl, x, C, dx, [], rfl, hx, S.cl, S.nR, by decide, ?_⟩
    refine ⟨_, rfl, _, rfl, x, C, dx, _, rfl, upd_same, S.cl, S.nW, by exact Nat.lt_of_le_of_lt (length_putF _ _ _) (by decide), ?_⟩
    rw [upd_upd]
    refine k _ ⟨dx, upd_same⟩ fun c o e nc => ?_
    rw [upd_ne nc]
    exact e
theorem mak_nm (B : Bi mg) (S : NmC K mg C) (D : NInitAt K C) (C_is_integer : Cal P w K mg base 1 "is_integer" ps_is_integer (spIsInteger K)) : Mak P w K mg base 2 "Namer" C (spNInit C (NmAt C)) := by
  obtain ⟨f, fd, M, F, b⟩ := D.ex
  exact ⟨f, fd, ps_Namer_init, M, ok_ninit B S F C_is_integer, S.g, b⟩
end
end Gu
namespace Gu
open PySem PySem.Spec PyProof.Rows L2
/-! ### the program: names -/
section
variable {P : Program} {w : World} {K : PySem.W.Frag} {mg : Str → Option Value} {base : Heap} {C : Addr}
/-! texts that are as they should be -/
theorem wd_isTxt {n : Nat} {z : Str} (h : Wd n z) : isTxt z n = true := by
  have e : z.length = z.cps.toList.length := rfl
  have l := h.len
  unfold isTxt
  rw [decide_eq_true (by omega), Bool.true_and, List.all_eq_true]
  exact fun c hc => decide_eq_true (h.sgn c hc)
theorem atP_strs {ts : List Str} {i : Nat} {v : V} (hi : (ts.map V.str)[i]? = some v) : ∃ t, ts[i]? = some t ∧ v = .str t ∧ t ∈ ts := by
  rw [List.getElem?_map] at hi
  cases e : ts[i]? with
  | none =>
    rw [e] at hi
    cases hi
  | some t =>
    rw [e] at hi
    exact ⟨t, rfl, (Option.some.inj hi).symm, List.mem_of_getElem? e⟩
def spCheckNamer (C : Addr) : Sp := fun vs H Q _ => ∃ (x : Addr) (so : Str) (w : Int), vs = [.ref x] ∧ NmAt C H x so w ∧ Q .non H
theorem cal_checkNamer (B : Bi mg) (S : NmC K mg C) (D : At K mg "check_namer" s_check_namer ps_check_namer) : Cal P w K mg base 1 "check_namer" ps_check_namer (spCheckNamer C) := by
  refine D.cal sc_check_namer (fun vs H Q E h => ?_) (fun f cdv A outer s H vs Q E hr h => ?_)
  · obtain ⟨x, so, w, rfl, _⟩ := h
    rfl
  · obtain ⟨x, so, w, rfl, ⟨dx, e1⟩, k⟩ := h
    refine ⟨_, (pss_one (ps_if (pt_not (pt_val (pe_callB call_isi (by rfl) B.isinstance (by decide +kernel) (pa_cons (pv 0) (pa_cons (pe_glob (v := .ref C) (by rfl) S.g rfl) pa_nil))))) pss_never pss_nil)), ?_⟩
    exact ⟨_, rfl, _, _, _, _, true, rfl, .own C, .base (.ins e1 S.cl S.ha S.hn S.ht S.hm), S.kk, _, rfl, iteF k⟩
def spBaseOf (C : Addr) : Sp := fun vs H Q _ => ∃ (x : Addr) (so : Str) (w : Int) (t : Str), vs = [.ref x, .str t] ∧ NmAt C H x so w ∧ t.length ≤ 1000 ∧ Q (.str (nbase w t)) H
theorem cal_baseOf (B : Bi mg) (S : NmC K mg C) (D : At K mg "base_of" s_base_of ps_base_of) : Cal P w K mg base 1 "base_of" ps_base_of (spBaseOf C) := by
  refine D.cal sc_base_of (fun vs H Q E h => ?_) (fun f cdv A outer s H vs Q E hr h => ?_)
  · obtain ⟨x, so, w, t, rfl, _⟩ := h
    rfl
  · obtain ⟨x, so, w, t, rfl, ⟨dx, e1⟩, tl, k⟩ := h
    refine ⟨_, (pss_one (ps_ret (pe_slice sl_str (pv 1) po_none (po_some (pe_fld (pv 0) rfl))))), ?_⟩
    exact ⟨_, rfl, _, rfl, x, C, dx, _, _, rfl, e1, S.cl, S.nW, nflds_width _ _, w, rfl, t, rfl, Nat.le_of_lt (small1000 tl), k⟩
theorem cutS_allP {y : Str} {h : Int} (l : (y.length : Int) ≤ h) : cutS y none (some h) = y := by
  refine str_ext ?_
  have e : y.length = y.cps.toList.length := rfl
  rw [cutS_head y (by omega), List.take_of_length_le (by omega)]
/-- the program's way to cut the base -/
theorem numbered_tight {so : Str} {w : Int} {t : Str} {n : Int} (h : so = ("tight" : String)) : numbered so w t n = cutS (nbase w t) none (some (w - (ending n).length)) ++ ending n := by
  unfold numbered
  rw [decide_eq_true h, Bool.true_and]
  split
  · rfl
  · next e =>
    have e := of_decide_eq_false (Bool.eq_false_iff.mpr e)
    rw [cutS_allP (y := nbase w t) (by omega)]
theorem numbered_other {so : Str} {w : Int} {t : Str} {n : Int} (h : ¬ so = ("tight" : String)) : numbered so w t n = nbase w t ++ ending n := by
  unfold numbered
  rw [decide_eq_false h, Bool.false_and]
  rfl
theorem ending_is (n : Int) : Str.empty ++ (("~" : String) : Str) ++ ((toString n : String) : Str) = ending n := by
  have e : Str.empty ++ (("~" : String) : Str) = (("~" : String) : Str) := by decide +kernel
  rw [e]
  rfl
end
end Gu
namespace Gu
open PySem PySem.Spec PyProof.Rows L2
/-! ### names beside up to twenty texts -/
theorem wd_digit2 {i : Int} (h0 : 0 ≤ i) (h1 : i < 40) : Wd 2 (toString i : String) := by
  obtain ⟨k, rfl⟩ := Int.eq_ofNat_of_zero_le h0
  have a : ∀ k ∈ List.range 40, ((toString (Int.ofNat k) : String) : Str).cps.toList.length ≤ 2 ∧ ∀ c ∈ ((toString (Int.ofNat k) : String) : Str).cps.toList, c ∈ abc.cps.toList := by decide +kernel
  have b := a k (List.mem_range.mpr (by omega))
  exact ⟨b.1, b.2⟩
theorem ending_lenQ {n : Int} (h0 : 0 ≤ n) (h1 : n < 40) : (ending n).length ≤ 3 := by
  have a := (wd_digit2 h0 h1).len
  have e : (ending n).length = 1 + ((toString n : String) : Str).length := by
    show (ending n).cps.toList.length = _
    unfold ending
    rw [str_app, List.length_append]
    rfl
  rw [e]
  show 1 + ((toString n : String) : Str).cps.toList.length ≤ 3
  omega
/-- what stands behind the last ~, from the end -/
def tailQ (z : Str) : List Nat := z.cps.toList.reverse.takeWhile fun c => c != 126
theorem tail_ending (a : Str) {n : Int} (h0 : 0 ≤ n) (h1 : n < 40) : tailQ (a ++ ending n) = tailQ (ending n) := by
  obtain ⟨k, rfl⟩ := Int.eq_ofNat_of_zero_le h0
  have e : ∀ k ∈ List.range 40, ∃ d, (ending (Int.ofNat k)).cps.toList.reverse = d ++ [126] ∧ (∀ c ∈ d, (c != 126) = true) := fun k hk => by
    have x : ∀ k ∈ List.range 40, (ending (Int.ofNat k)).cps.toList.reverse = (ending (Int.ofNat k)).cps.toList.reverse.dropLast ++ [126] ∧ (∀ c ∈ (ending (Int.ofNat k)).cps.toList.reverse.dropLast, (c != 126) = true) := by decide +kernel
    exact ⟨_, x k hk⟩
  obtain ⟨d, e1, e2⟩ := e k (List.mem_range.mpr (by omega))
  have go : ∀ (d r : List Nat), (∀ c ∈ d, (c != 126) = true) → (d ++ 126 :: r).takeWhile (fun c => c != 126) = d := by
    intro d
    induction d with
    | nil => exact fun r _ => rfl
    | cons c d ih =>
      intro r h
      rw [List.cons_append, List.takeWhile_cons, h c (List.mem_cons_self ..), if_pos rfl, ih r fun x hx => h x (List.mem_cons_of_mem _ hx)]
  have e1 : (ending ((k : Nat) : Int)).cps.toList.reverse = d ++ [126] := e1
  unfold tailQ
  rw [str_app, List.reverse_append, e1, List.append_assoc]
  show (d ++ 126 :: a.cps.toList.reverse).takeWhile _ = _
  rw [go _ _ e2, go d [] e2]
theorem tail_inj : ∀ i ∈ List.range 36, ∀ j ∈ List.range 36, tailQ (ending (2 + (i : Int))) = tailQ (ending (2 + (j : Int))) → i = j := by decide +kernel
theorem cand_tail (so : Str) (w : Int) (t : Str) {i : Nat} (h : i < 36) : tailQ (cand so w t i) = tailQ (ending (2 + (i : Int))) := by
  unfold cand numbered
  split
  · exact tail_ending _ (by omega) (by omega)
  · exact tail_ending _ (by omega) (by omega)
theorem cands_nodupQ (so : Str) (w : Int) (t : Str) : ∀ n, n ≤ 36 → ((List.range n).map (cand so w t)).Nodup
  | 0, _ => List.nodup_nil
  | n + 1, h => by
    rw [List.range_succ, List.map_append]
    refine List.nodup_append.mpr ⟨cands_nodupQ so w t n (by omega), List.nodup_cons.mpr ⟨List.not_mem_nil, List.nodup_nil⟩, fun x hx y hy e => ?_⟩
    obtain ⟨i, hi, rfl⟩ := List.mem_map.mp hx
    have hi := List.mem_range.mp hi
    rw [List.mem_singleton.mp hy] at e
    have a := cand_tail so w t (i := i) (by omega)
    rw [e, cand_tail so w t (i := n) (by omega)] at a
    have := tail_inj n (List.mem_range.mpr (by omega)) i (List.mem_range.mpr (by omega)) a
    omega
theorem some_freeQ {so : Str} {w : Int} {t : Str} {ys : List Str} (h : ys.length ≤ 24) (a : ∀ j, j < ys.length + 1 → cand so w t j ∈ ys) : False := by
  have := fewer _ ys (cands_nodupQ so w t (ys.length + 1) (by omega)) fun x hx => by
    obtain ⟨i, hi, rfl⟩ := List.mem_map.mp hx
    exact a i (List.mem_range.mp hi)
  rw [List.length_map, List.length_range] at this
  omega
theorem wd_numberedQ {n : Nat} {t : Str} {so : Str} {w k : Int} (h : Wd n t) (h0 : 0 ≤ k) (h1 : k < 40) : Wd (n + 3) (numbered so w t k) := by
  have a : Wd 3 (ending k) := (wd_lit (z := ("~" : String)) (n := 1) (by decide +kernel)).app (wd_digit2 h0 h1) (by decide)
  unfold numbered
  split
  · exact ((wd_base h w).cut _ _).app a (Nat.le_refl _)
  · exact (wd_base h w).app a (Nat.le_refl _)
theorem wd_seekQ {n : Nat} {so : Str} {w : Int} {t : Str} {ys : List Str} (h : Wd n t) : ∀ (k a : Nat), a + k < 36 → Wd (n + 3) (seek (cand so w t) ys k a)
  | 0, a, l => wd_numberedQ h (by omega) (by omega)
  | k + 1, a, l => by
    unfold seek
    split
    · exact wd_seekQ h k (a + 1) (by omega)
    · exact wd_numberedQ h (by omega) (by omega)
theorem wd_nameQ {n : Nat} {so : Str} {w : Int} {t : Str} {ps : List (Str × Str)} (h : Wd n t) (l : ps.length ≤ 24) : Wd (n + 3) (nameOf so w t ps) := by
  have m : (mates w t ps).length ≤ ps.length := List.length_filter_le ..
  unfold nameOf
  split
  · split
    · exact (wd_base h w).mono (by omega)
    · exact wd_numberedQ h (by omega) (by omega)
  · split
    · exact wd_seekQ h _ _ (by rw [List.length_map]; omega)
    · exact (wd_base h w).mono (by omega)
end Gu
namespace Gu
open PySem PySem.Spec PyProof.Rows L2
section
variable {P : Program} {w : World} {K : PySem.W.Frag} {mg : Str → Option Value} {base : Heap} {C : Addr}
def spNumQ (C : Addr) : Sp := fun vs H Q _ => ∃ (x : Addr) (so : Str) (w n : Int) (t : Str), vs = [.ref x, .str (nbase w t), .int n] ∧ NmAt C H x so w ∧ 0 ≤ n ∧ n < 40 ∧ t.length ≤ 1000 ∧ Q (.str (numbered so w t n)) H
theorem cal_numQ (B : Bi mg) (S : NmC K mg C) (D : At K mg "numbered" s_numbered ps_numbered) : Cal P w K mg base 1 "numbered" ps_numbered (spNumQ C) := by
  refine D.cal sc_numbered (fun vs H Q E h => ?_) (fun f cdv A outer s H vs Q E hr h => ?_)
  · obtain ⟨x, so, w, n, t, rfl, _⟩ := h
    rfl
  · obtain ⟨x, so, w, n, t, rfl, ⟨dx, e1⟩, n0, n1, tl, k⟩ := h
    have el := ending_lenQ n0 n1
    have bl : (nbase w t).length ≤ t.length := cutS_length t none (some w)
    have s1 : (Str.empty ++ (("~" : String) : Str)).length = 1 := by decide +kernel
    refine ⟨_, (pss_cons (ps_set (i := 3) sc_numbered.nd rfl (.inl rfl) (pe_joined (.cons pe_str (.cons (pe_fmt (pv 2)) .nil))))
      (pss_cons (ps_if (pt_cmpR op_eq (pe_fld (pv 0) rfl) pe_str (nomark _)) (pss_one (ps_ret (pe_op op_add_str (pe_slice sl_str (pv 1) po_none (po_some (pe_op op_sub (pe_fld (pv 0) rfl) (pe_callB call_len (by rfl) B.len (by decide +kernel) (pa_cons (pv 3) pa_nil))))) (pv 3)))) pss_nil)
      (pss_one (ps_ret (pe_op op_add_str (pv 1) (pv 3)))))), ?_⟩
    refine ⟨_, rfl, by rw [s1]; decide, _, rfl, .inr ⟨n, rfl, log_small n0 (by omega), _, rfl, ?_, ?_⟩⟩
    · rw [ending_is]
      exact Nat.le_of_lt (small1000 (by omega))
    rw [ending_is]
    refine ⟨_, rfl, x, C, dx, _, _, rfl, e1, S.cl, S.nR, nflds_rule _ _, rfl, _, rfl, ite2 (fun h1 => ?_) (fun h1 => ?_)⟩
    · rw [str_eq_iff] at h1
      rw [numbered_tight (of_decide_eq_true h1)] at k
      refine ⟨_, rfl, _, rfl, x, C, dx, _, _, rfl, e1, S.cl, S.nW, nflds_width _ _, _, rfl, _, _, rfl, ⟨Nat.le_of_lt (small1000 (by omega)), rfl⟩, _, _, rfl, rfl, _, rfl, _, rfl, Nat.le_of_lt (small1000 (by omega)), _, rfl, _, _, rfl, rfl, ?_, k⟩
      have a := cutS_length (nbase w t) none (some (w - ((ending n).length : Int)))
      exact Nat.le_of_lt (Nat.lt_of_le_of_lt (show _ ≤ 2000 by omega) (by decide))
    · rw [str_eq_iff] at h1
      rw [numbered_other (of_decide_eq_false (Bool.eq_false_iff.mpr h1))] at k
      refine ⟨_, rfl, _, rfl, _, _, rfl, rfl, ?_, k⟩
      exact Nat.le_of_lt (Nat.lt_of_le_of_lt (show _ ≤ 2000 by omega) (by decide))
/-- how many of us have the base of t -/
def alike (w : Int) (t : Str) (us : List Str) : List Str := us.filter fun u => decide (nbase w u = nbase w t)
def countedOf (so : Str) (w : Int) (t : Str) (us : List Str) : Str := if (alike w t us).length = 0 then nbase w t else numbered so w t (((alike w t us).length : Int) + 1)
def spCountedQ (K : PySem.W.Frag) (C : Addr) : Sp := fun vs H Q _ => ∃ (x l : Addr) (so : Str) (w : Int) (t : Str) (us : List Str), vs = [.ref x, .str (nbase w t), .ref l] ∧ NmAt C H x so w ∧ t.length ≤ 1000 ∧ SqT K H l (us.map V.str) ∧ us.length ≤ 24 ∧ (∀ u ∈ us, Wd 200 u) ∧ ∀ G, Same H G → Q (.str (countedOf so w t us)) G
theorem cal_countedQ (B : Bi mg) (S : NmC K mg C) (D : At K mg "counted_name" s_counted_name ps_counted_name) (C_base_of : Cal P w K mg base 1 "base_of" ps_base_of (spBaseOf C)) (C_numbered : Cal P w K mg base 1 "numbered" ps_numbered (spNumQ C)) : Cal P w K mg base 2 "counted_name" ps_counted_name (spCountedQ K C) := by
  refine D.cal sc_counted_name (fun vs H Q E h => ?_) (fun f cdv A outer s H vs Q E hr h => ?_)
  · obtain ⟨x, l, so, w, t, us, rfl, _⟩ := h
    rfl
  · obtain ⟨x, l, so, w, t, us, rfl, hN, tl, hl, u6, wu, k⟩ := h
    refine ⟨_, (pss_cons (ps_set (i := 3) sc_counted_name.nd rfl (.inl rfl) (pe_op op_add pe_int (pe_callB call_len (by rfl) B.len (by decide +kernel) (pa_cons (pe_lc (own := [("text", 4)]) (by rfl) sc_counted_name.nd (pi_tup (pv 2)) (blkOk_by (own := [("text", 4)]) (N := ["namer", "base", "texts", "number", "text"]) (sc := defScope s_counted_name) (by decide +kernel)) (fun _ _ _ _ _ => pg_name (i := 4) sc_counted_name.nd rfl (.inl rfl)) (fun _ _ _ _ _ => (pts_one (pt_cmpR op_eq (pe_own C_base_of hr (by decide) (by rfl) (pa_cons (pv 0) (pa_cons (pv 4) pa_nil))) (pv 1) (nomark _)))) (fun _ _ _ _ _ => (pv 4))) pa_nil))))
      (pss_one (ps_ret (pe_mid (pe_ifExp (pt_cmpR op_eq (pv 3) pe_int (nomark _)) (pv 1) (pe_own C_numbered hr (by decide) (by rfl) (pa_cons (pv 0) (pa_cons (pv 1) (pa_cons (pv 3) pa_nil))))))))), ?_⟩
    refine ⟨_, rfl, l, rfl, ⟨_, hl⟩, fun M nM => lc_tup (K := K) (a := l) (xs := us.map V.str) (fun i J => J M = some (.lst ((alike w t (us.take i)).map V.str)) ∧ Same H J)
      ⟨upd_same, same_new nM⟩ (fun i J _ ⟨_, sJ⟩ => st_same sJ hl) ?_ ?_⟩
    · rintro i v J hi ⟨eM, sJ⟩
      obtain ⟨u, hu, rfl, mu⟩ := atP_strs hi
      have ul : u.length ≤ 200 := (wu u mu).len
      refine ⟨rfl, _, rfl, _, rfl, x, so, w, u, rfl, hN.same sJ, by omega, _, rfl, rfl, _, rfl, ?_⟩
      rw [str_eq_iff]
      refine ite2 (fun hb => ?_) (fun hb => ?_)
      · refine ⟨_, rfl, _, eM, small1000 ?_, ?_, same_off sJ nM⟩
        · rw [List.length_map]
          refine Nat.le_trans (List.length_filter_le ..) ?_
          rw [List.length_take]
          omega
        · unfold alike
          rw [upd_same, take_next hu, List.filter_append, List.map_append, List.filter_cons, hb]
          rfl
      · refine ⟨?_, sJ⟩
        unfold alike at eM ⊢
        rw [eM, take_next hu, List.filter_append, List.filter_cons, Bool.eq_false_iff.mpr hb]
        simp only [Bool.false_eq_true, if_false, List.filter_nil, List.append_nil]
    · rintro J ⟨eM, sJ⟩
      rw [List.length_map, List.take_length] at eM
      have a6 : (alike w t us).length ≤ us.length := List.length_filter_le ..
      refine ⟨_, _, rfl, .inl ⟨_, .inl (.inl eM), rfl⟩, _, _, rfl, rfl, ?_⟩
      rw [List.length_map]
      refine ⟨fun v J1 => v = .str (countedOf so w t us) ∧ Same H J1, ?_, ?_⟩
      · refine ⟨_, rfl, rfl, _, rfl, ite2 (fun h1 => ?_) (fun h1 => ?_)⟩
        · have h1 : (alike w t us).length = 0 := by
            have := V.int.inj (of_decide_eq_true h1)
            omega
          refine ⟨_, rfl, ?_, sJ⟩
          unfold countedOf
          rw [if_pos h1]
        · have h1 : ¬ (alike w t us).length = 0 := fun h => h1 (decide_eq_true (by rw [h]; rfl))
          refine ⟨_, rfl, _, rfl, _, rfl, x, so, w, _, t, rfl, hN.same sJ, by omega, by omega, tl, ?_, sJ⟩
          unfold countedOf
          rw [if_neg h1, Int.add_comm]
      · rintro _ J1 ⟨rfl, s1⟩
        exact k J1 s1
/-- the names that are triedP -/
def triedP (so : Str) (w : Int) (t : Str) : Nat → Str
  | 0 => nbase w t
  | i + 1 => cand so w t i
def freeP (so : Str) (w : Int) (t : Str) (ys : List Str) : Str := if nbase w t ∈ ys then seek (cand so w t) ys ys.length 0 else nbase w t
theorem triedQ_free {so : Str} {w : Int} {t : Str} {ys : List Str} (l : ys.length ≤ 24) {i : Nat} (a : ∀ j, j < i → triedP so w t j ∈ ys) : i ≤ ys.length + 1 := by
  refine Decidable.byContradiction fun h => some_freeQ (so := so) (w := w) (t := t) l fun j hj => ?_
  exact a (j + 1) (by omega)
theorem triedQ_is {so : Str} {w : Int} {t : Str} {ys : List Str} (l : ys.length ≤ 24) {i : Nat} (a : ∀ j, j < i → triedP so w t j ∈ ys) (b : triedP so w t i ∉ ys) : freeP so w t ys = triedP so w t i := by
  have h := triedQ_free l a
  unfold freeP
  cases i with
  | zero => rw [if_neg (show nbase w t ∉ ys from b)]; rfl
  | succ i =>
    rw [if_pos (show nbase w t ∈ ys from a 0 (by omega))]
    have e := seek_at (f := cand so w t) (ys := ys) i ys.length 0 (by omega) (fun j hj => by
      rw [Nat.zero_add]
      exact a (j + 1) (by omega)) (by
      rw [Nat.zero_add]
      exact b)
    rw [Nat.zero_add] at e
    exact e
def spFreeQ (K : PySem.W.Frag) (C : Addr) : Sp := fun vs H Q _ => ∃ (x l : Addr) (so : Str) (w : Int) (t : Str) (ys : List Str), vs = [.ref x, .str (nbase w t), .ref l] ∧ NmAt C H x so w ∧ t.length ≤ 1000 ∧ SqT K H l (ys.map V.str) ∧ ys.length ≤ 24 ∧ Q (.str (freeP so w t ys)) H
theorem cal_freeQ (B : Bi mg) (D : At K mg "free_name" s_free_name ps_free_name) (C_numbered : Cal P w K mg base 1 "numbered" ps_numbered (spNumQ C)) : Cal P w K mg base 2 "free_name" ps_free_name (spFreeQ K C) := by
  refine D.cal sc_free_name (fun vs H Q E h => ?_) (fun f cdv A outer s H vs Q E hr h => ?_)
  · obtain ⟨x, l, so, w, t, ys, rfl, _⟩ := h
    rfl
  · obtain ⟨x, l, so, w, t, ys, rfl, hN, tl, hl, y6, k⟩ := h
    refine ⟨_, (pss_cons (ps_set (i := 3) sc_free_name.nd rfl (.inl rfl) (pv 1))
      (pss_cons (ps_set (i := 4) sc_free_name.nd rfl (.inl rfl) pe_int)
      (pss_cons (ps_while PassesOwn.never (pt_cmpR op_in_seq (pv 3) (pv 2) (by rfl))
      (pss_cons (ps_aug (i := 4) sc_free_name.nd rfl (.inl rfl) pe_int ip_add)
      (pss_one (ps_set (i := 3) sc_free_name.nd rfl (.inl rfl) (pe_own C_numbered hr (by decide) (by rfl) (pa_cons (pv 0) (pa_cons (pv 1) (pa_cons (pv 4) pa_nil))))))))
      (pss_one (ps_ret (pv 3)))))), ?_⟩
    refine ⟨_, rfl, ?_⟩
    refine ⟨fun m σ J => ∃ i : Nat, m = 40 - i ∧ σ = [some (.ref x), some (.str (nbase w t)), some (.ref l), some (.str (triedP so w t i)), some (.int (1 + (i : Int)))] ∧ J = H ∧ ∀ j, j < i → triedP so w t j ∈ ys, ⟨40, 0, rfl, rfl, rfl, fun j hj => absurd hj (by omega)⟩, ?_⟩
    rintro m σ J ⟨i, rfl, rfl, rfl, hj⟩
    have hi := triedQ_free y6 hj
    refine ⟨_, rfl, _, rfl, l, _, rfl, .inr hl, rfl, flat_strs ys, _, rfl, ?_⟩
    rw [in_strs]
    refine ite2 (fun h1 => ?_) (fun h1 => ?_)
    · have h1 : triedP so w t i ∈ ys := of_decide_eq_true h1
      have hj2 : ∀ j, j < i + 1 → triedP so w t j ∈ ys := fun j hj3 => by
        rcases Nat.lt_or_ge j i with h | h
        · exact hj j h
        · rw [show j = i by omega]
          exact h1
      have hi2 := triedQ_free y6 hj2
      refine ⟨_, fun σ' H' h => h, _, rfl, _, _, rfl, rfl, ?_⟩
      refine ⟨_, rfl, _, rfl, _, rfl, x, so, w, _, t, rfl, hN, by show (0 : Int) ≤ 1 + (i : Int) + 1; omega, by show 1 + (i : Int) + 1 < 40; omega, tl, ?_⟩
      refine ⟨40 - (i + 1), by omega, i + 1, rfl, ?_, rfl, hj2⟩
      have e : (1 + (i : Int) + 1) = 2 + (i : Int) := by omega
      have e2 : (1 + ((i + 1 : Nat) : Int)) = 2 + (i : Int) := by omega
      rw [e2]
      show [_, _, _, some (V.str (numbered so w t (1 + (i : Int) + 1))), some (V.int (1 + (i : Int) + 1))] = _
      rw [e]
      rfl
    · have h1 : triedP so w t i ∉ ys := fun h => h1 (decide_eq_true h)
      rw [triedQ_is y6 hj h1] at k
      exact ⟨_, rfl, k⟩
/-- a name by what is there -/
def nextOf (so : Str) (w : Int) (t : Str) (us ys : List Str) : Str := if so = ("count" : String) then countedOf so w t us else freeP so w t ys
def spNextQ (K : PySem.W.Frag) (C : Addr) : Sp := fun vs H Q _ => ∃ (x a l : Addr) (so : Str) (w : Int) (t : Str) (us ys : List Str), vs = [.ref x, .str t, .ref a, .ref l] ∧ NmAt C H x so w ∧ t.length ≤ 1000 ∧ SqT K H a (us.map V.str) ∧ us.length ≤ 24 ∧ (∀ u ∈ us, Wd 200 u) ∧ SqT K H l (ys.map V.str) ∧ ys.length ≤ 24 ∧ ∀ G, Same H G → Q (.str (nextOf so w t us ys)) G
theorem cal_nextQ (B : Bi mg) (S : NmC K mg C) (D : At K mg "name_of_next" s_name_of_next ps_name_of_next) (C_base_of : Cal P w K mg base 1 "base_of" ps_base_of (spBaseOf C)) (C_counted_name : Cal P w K mg base 2 "counted_name" ps_counted_name (spCountedQ K C)) (C_free_name : Cal P w K mg base 2 "free_name" ps_free_name (spFreeQ K C)) : Cal P w K mg base 3 "name_of_next" ps_name_of_next (spNextQ K C) := by
  refine D.cal sc_name_of_next (fun vs H Q E h => ?_) (fun f cdv A outer s H vs Q E hr h => ?_)
  · obtain ⟨x, a, l, so, w, t, us, ys, rfl, _⟩ := h
    rfl
  · obtain ⟨x, a, l, so, w, t, us, ys, rfl, hN, tl, ha, u6, wu, hl, y6, k⟩ := h
    obtain ⟨dx, e1⟩ := id hN
    refine ⟨_, (pss_cons (ps_set (i := 4) sc_name_of_next.nd rfl (.inl rfl) (pe_own C_base_of hr (by decide) (by rfl) (pa_cons (pv 0) (pa_cons (pv 1) pa_nil))))
      (pss_cons (ps_if (pt_cmpR op_eq (pe_fld (pv 0) rfl) pe_str (nomark _)) (pss_one (ps_ret (pe_own C_counted_name hr (by decide) (by rfl) (pa_cons (pv 0) (pa_cons (pv 4) (pa_cons (pv 2) pa_nil)))))) pss_nil)
      (pss_one (ps_ret (pe_own C_free_name hr (by decide) (by rfl) (pa_cons (pv 0) (pa_cons (pv 4) (pa_cons (pv 3) pa_nil)))))))), ?_⟩
    refine ⟨_, rfl, _, rfl, x, so, w, t, rfl, hN, tl, ?_⟩
    refine ⟨_, rfl, x, C, dx, _, _, rfl, e1, S.cl, S.nR, nflds_rule _ _, rfl, _, rfl, ite2 (fun h1 => ?_) (fun h1 => ?_)⟩
    · rw [str_eq_iff] at h1
      unfold nextOf at k
      rw [if_pos (of_decide_eq_true h1)] at k
      exact ⟨_, rfl, _, rfl, _, rfl, x, a, so, w, t, us, rfl, hN, tl, ha, u6, wu, k⟩
    · rw [str_eq_iff] at h1
      unfold nextOf at k
      rw [if_neg (of_decide_eq_false (Bool.eq_false_iff.mpr h1))] at k
      exact ⟨_, rfl, _, rfl, _, rfl, x, l, so, w, t, ys, rfl, hN, tl, hl, y6, k H (Same.refl H)⟩
end
end Gu
namespace Gu
open PySem PySem.Spec PyProof.Rows L2
/-! ### sets made of a list or a tuple of keys -/
/-- each once, in the order of their first coming -/
def dds {α : Type} [DecidableEq α] (ks : List α) : List α := ks.foldl (fun acc k => if k ∈ acc then acc else acc ++ [k]) []
/-- j is among ks -/
def isIn {α : Type} [DecidableEq α] (ks : List α) (j : α) : Bool := decide (j ∈ ks)
theorem dds_snoc {α : Type} [DecidableEq α] (ks : List α) (k : α) : dds (ks ++ [k]) = if k ∈ dds ks then dds ks else dds ks ++ [k] := by
  unfold dds
  rw [List.foldl_append]
  rfl
theorem mem_dds {α : Type} [DecidableEq α] {j : α} (ks : List α) : j ∈ dds ks ↔ j ∈ ks := by
  have main : ∀ (ks acc : List α), j ∈ ks.foldl (fun acc k => if k ∈ acc then acc else acc ++ [k]) acc ↔ j ∈ acc ∨ j ∈ ks := by
    intro ks
    induction ks with
    | nil =>
      intro acc
      show j ∈ acc ↔ _
      simp
    | cons k ks ih =>
      intro acc
      show j ∈ ks.foldl _ (if k ∈ acc then acc else acc ++ [k]) ↔ _
      rw [ih]
      by_cases h : k ∈ acc
      · rw [if_pos h, List.mem_cons]
        constructor
        · rintro (h1 | h1)
          · exact .inl h1
          · exact .inr (.inr h1)
        · rintro (h1 | h1 | h1)
          · exact .inl h1
          · exact .inl (h1 ▸ h)
          · exact .inr h1
      · rw [if_neg h, List.mem_append, List.mem_singleton, List.mem_cons, or_assoc]
  have := main ks []
  unfold dds
  rw [this]
  simp
theorem dds_nodup {α : Type} [DecidableEq α] (ks : List α) : (dds ks).Nodup := by
  have main : ∀ (ks acc : List α), acc.Nodup → (ks.foldl (fun acc k => if k ∈ acc then acc else acc ++ [k]) acc).Nodup := by
    intro ks
    induction ks with
    | nil => exact fun acc h => h
    | cons k ks ih =>
      intro acc h
      show (ks.foldl _ (if k ∈ acc then acc else acc ++ [k])).Nodup
      apply ih
      by_cases e : k ∈ acc
      · rw [if_pos e]
        exact h
      · rw [if_neg e, List.nodup_append]
        refine ⟨h, by simp, fun a ha b hb => ?_⟩
        rw [List.mem_singleton.mp hb]
        exact fun q => e (q ▸ ha)
  exact main ks [] List.nodup_nil
theorem dds_len {α : Type} [DecidableEq α] (ks : List α) : (dds ks).length ≤ ks.length := by
  have main : ∀ (ks acc : List α), (ks.foldl (fun acc k => if k ∈ acc then acc else acc ++ [k]) acc).length ≤ acc.length + ks.length := by
    intro ks
    induction ks with
    | nil => exact fun acc => Nat.le_refl _
    | cons k ks ih =>
      intro acc
      refine Nat.le_trans (ih _) ?_
      show (if k ∈ acc then acc else acc ++ [k]).length + _ ≤ _
      split
      · simp only [List.length_cons]
        omega
      · simp only [List.length_cons, List.length_append, List.length_nil]
        omega
  have e := main ks []
  rw [List.length_nil, Nat.zero_add] at e
  exact e
section
variable {prog : Program} {w : World} {A : Around} {R : Result → Shared → Prop} {I : Addr} {fp wr : List Addr} {G : Array GenState → Array GenState → Prop} {n : Nat} {Py : Nat → Value → Prop} {St : Nat → Shared → Prop} {α : Type} [DecidableEq α] {knd : KeyKind prog w α}
theorem fill_set (W : WalksS prog w A.in1 I fp wr G n Py St) (T : Addr) (away : T ∉ fp) (ks : List α) (many : n = ks.length) (few : ks.length + 1 < scanBound)
    (drawn : ∀ i v, Py i v → ∃ k, ks[i]? = some k ∧ knd.is k v = true ∧ v.scannable = true) :
    ∀ (left i : Nat) (s : Shared), n - i = left → i ≤ n → St i s → s.heap.SetOf knd T (isIn (ks.take i)) (dds (ks.take i)).length →
      (∀ t, Moved (T :: wr) G s t → t.heap.SetOf knd T (isIn ks) (dds ks).length → R (.ok (.ret .none)) t) →
      codeAny (model prog w) A (.builtin "set.update.loop" ⟨[.ref T, .ref I], []⟩) R s := by
  have awayW : T ∉ wr := fun h => away (W.sub _ h)
  have wider : ∀ b ∈ wr, b ∈ T :: wr := fun b q => List.mem_cons_of_mem _ q
  intro left
  induction left with
  | zero =>
    intro i s el il st so goal
    have ei : i = n := by omega
    subst ei
    refine codeAny_builtin F.entry_set_update_loop ?_
    rw [Around.under_plainId F.plain_set_update_loop _]
    show wpAny _ A.in1 (pyNext (.ref I) >>= _) _ _ s
    refine wpAny_bind (W.done s _ _ st fun t mv => ?_)
    show wpAny _ A.in1 (ret Value.none) _ _ t
    have full : ks.take i = ks := List.take_of_length_le (by omega)
    rw [full] at so
    refine wpAny_pure (goal t (mv.mono wider) ?_)
    obtain ⟨o, es, ep, tb, ho, more⟩ := so
    exact ⟨o, es, ep, tb, mv.heap T _ awayW ho, more⟩
  | succ left ih =>
    intro i s el il st so goal
    have less : i < n := by omega
    refine codeAny_builtin F.entry_set_update_loop ?_
    rw [Around.under_plainId F.plain_set_update_loop _]
    show wpAny _ A.in1 (pyNext (.ref I) >>= _) _ _ s
    refine wpAny_bind (W.item i s _ _ less st fun v t py st1 mv => ?_)
    obtain ⟨k, ek, isk, sc⟩ := drawn i v py
    have so1 : t.heap.SetOf knd T (isIn (ks.take i)) (dds (ks.take i)).length := by
      obtain ⟨o, es, ep, tb, ho, more⟩ := so
      exact ⟨o, es, ep, tb, mv.heap T _ awayW ho, more⟩
    show wpAny _ A.in1 (holding [v] (setAdd T v) >>= _) _ _ t
    refine wpAny_bind (wpAny_holding ?_)
    unfold setAdd
    refine wpAny_holding ?_
    refine wpAny_bind (knd.pyHash isk ?_)
    have room1 : (dds (ks.take i)).length + 1 < scanBound := by
      have a := dds_len (ks.take i)
      rw [List.length_take] at a
      omega
    refine wpAny_setAddHashed_of (knd := knd) (s := { t with toks := t.toks + 1 }) isk sc so1 room1 fun h2 sb so2 => ?_
    have snoc : ks.take (i + 1) = ks.take i ++ [k] := by
      rw [List.take_add_one, ek]
      rfl
    have so3 : h2.SetOf knd T (isIn (ks.take (i + 1))) (dds (ks.take (i + 1))).length := by
      have e1 : (fun j => isIn (ks.take i) j || decide (j = k)) = isIn (ks.take (i + 1)) := by
        funext j
        unfold isIn
        rw [snoc]
        simp [List.mem_append]
      have e2 : (if isIn (ks.take i) k = true then (dds (ks.take i)).length else (dds (ks.take i)).length + 1) = (dds (ks.take (i + 1))).length := by
        rw [snoc, dds_snoc]
        unfold isIn
        by_cases q : k ∈ ks.take i
        · rw [if_pos (decide_eq_true q), if_pos ((mem_dds _).mpr q)]
        · rw [if_neg (fun z => q (of_decide_eq_true z)), if_neg (fun z => q ((mem_dds _).mp z)), List.length_append]
          rfl
      rw [← e1, ← e2]
      exact so2
    refine wpAny_pure ⟨plainId_quiet F.plain_set_update_loop _, ih (i + 1) _ (by omega) less (W.frame _ t _ _ st1 (Nat.le_succ _) fun b q o e => ?_) so3 fun t2 mv2 so4 => ?_⟩
    · rw [sb.2 b (fun z : b = T => away (z ▸ q))]
      exact e
    · refine goal t2 (Moved.trans W.gtrans ((mv.mono wider).then_heap (Nat.le_succ _) fun b o q e => ?_) mv2) so4
      rw [sb.2 b (fun z : b = T => q (by rw [z]; exact List.mem_cons_self))]
      exact e
end
section
variable {prog : Program} {w : World} {A : Around} {E : Value → Shared → Prop} {s : Shared}
/-- the empty set's object, by its way of order -/
abbrev noneIn (b : Bool) : Obj := { cls := .type "set", dict := none, data := .set #[] 0 (.fresh 0 0 b) }
set_option maxHeartbeats 3200000 in
theorem init_goes {T l : Addr} {b : Bool} {Q : PySem.Fin → Shared → Prop} {TY : String} {od : Option Addr} {dt : Data} {sl : Array (Option Value)} (at_T : s.heap.get? T = some (noneIn b)) (at_l : s.heap.get? l = some { cls := .type TY, dict := od, data := dt, slots := sl })
    (notS : isSubtype (.type TY) (.type "set") = pure false) (notF : isSubtype (.type TY) (.type "frozenset") = pure false) (notD : (Value.type TY == Value.type "dict") = false)
    (h : wpAny (model prog w) A (pyIter (.ref l)) (fun a t => wpAny (model prog w) A (do let _ ← runValue (Code.builtin "set.update.loop" { pos := [Value.ref T, a] }); pure ()) (fun _ t2 => wpAny (model prog w) A (ret Value.none) Q E t2) E t) E s) :
    wpAny (model prog w) A (Builtin.«set.__init__» ⟨[.ref T, .ref l], []⟩) Q E s := by
  have isS : Shared.TypeIs s (.ref T) "set" := ⟨_, at_T, rfl⟩
  unfold Builtin.«set.__init__» noKeywords Builtin.Frozenset.updateFrom
  revert h
  generalize pyIter = PI
  intro h
  wp_walk
  exact h
end
section
variable {prog : Program} {w : World} {A : Around} {E : Value → Shared → Prop} {s : Shared} {α : Type} [DecidableEq α] {knd : KeyKind prog w α}
set_option maxHeartbeats 3200000 in
theorem call_setOfL {l : Addr} {items : Array Value} (ks : List α) {Q : Value → Shared → Prop} (calm : A.handled = none) (at_l : s.heap.IsList l items) (size : items.size = ks.length) (few : ks.length + 1 < scanBound)
    (keys : ∀ (i : Nat) (v : Value), items[i]? = some v → ∃ k : α, ks[i]? = some k ∧ knd.is k v = true ∧ v.scannable = true)
    (h : ∀ (g : Heap) (tk : Nat), g.SetOf knd s.heap.objs.size (isIn ks) (dds ks).length → (∀ b o, s.heap.get? b = some o → g.get? b = some o) → Q (.ref s.heap.objs.size) { s with heap := g, toks := tk }) :
    wpAny (model prog w) A (call (.type "set") [.ref l]) Q E s := by
  obtain ⟨c0, tl0, mro0⟩ := F.called_set.mro
  have made0 := F.called_set.made
  have sub0 := F.called_set.sub
  refine wpAny_call (codeAny_of_tree ?_)
  show wpAny _ _ (callAny (.type "set") _) _ _ _
  refine wpAny_pure ⟨Code.quiet_builtin _ (by decide +kernel), codeAny_builtin F.entry_type_call ?_⟩
  rw [Around.under_plain (weight_type_call_type "set" [.ref l] []) rfl]
  have nt0 := F.called_set.notType
  have cc0 := F.called_set.canCreate
  have tc0 := F.typeCall_set_1 (.ref l)
  repeat (any_goals (first | assumption | wp_step))
  refine codeAny_mono (code_set_new_1 (.ref l) (E := E) (Q₁ := fun x t => ∃ b : Bool, x = .ref s.heap.objs.size ∧ t = { s with heap := s.heap.push (noneIn b) }) fun b => ⟨b, rfl, rfl⟩) fun r t hr => ?_
  cases r with
  | error e => exact hr
  | ok fl =>
    cases fl with
    | next => exact (hr : False).elim
    | brk => exact (hr : False).elim
    | cont => exact (hr : False).elim
    | ret x =>
      obtain ⟨b0, rfl, rfl⟩ := hr
      have new0 : (s.heap.push (noneIn b0)).get? s.heap.objs.size = some (noneIn b0) := Heap.get?_push_size _ rfl
      have isS : Shared.TypeIs { s with heap := s.heap.push (noneIn b0) } (.ref s.heap.objs.size) "set" := ⟨_, new0, rfl⟩
      have li0 := F.called_set.init.lookup
      have bi0 := F.called_set.init.bind (.ref s.heap.objs.size)
      repeat (any_goals (first | assumption | wp_step))
      refine codeAny_mono (codeAny_call_builtin (R := wants (fun y t2 => y = .none ∧ ∃ (g : Heap) (tk : Nat), t2 = { s with heap := g, toks := tk } ∧ g.SetOf knd s.heap.objs.size (isIn ks) (dds ks).length ∧ (∀ b o, s.heap.get? b = some o → g.get? b = some o)) E)
        F.called_set.init.plain F.entry_set_init (check_set_init_1 isS ?_)) fun r2 t2 hr2 => ?_
      · obtain ⟨ol, hol, cl0, nl, dl0⟩ := at_l
        obtain ⟨ocls, odict, odata, oslots⟩ := ol
        simp only at cl0 dl0
        subst cl0
        subst dl0
        have hol1 : (s.heap.push (noneIn b0)).get? l = some { cls := .type "list", dict := odict, data := .seq items nl, slots := oslots } := Heap.get?_push_of_some _ hol
        have notS := F.sub_list_set
        have notF := F.sub_list_frozenset
        have notD : (Value.type "list" == Value.type "dict") = false := by decide
        have at1 : (s.heap.push (noneIn b0)).IsList l items := ⟨_, hol1, rfl, nl, rfl⟩
        refine init_goes (b := b0) new0 hol1 notS notF notD ?_
        refine wpAny_pyIter_list at1 ?_
        refine wpAny_bind (wpAny_runValue ?_)
        have lt0 : l < s.heap.objs.size := Heap.lt_size hol
        have calm3 : A.in1.in1.in1.handled = none := by simp [calm]
        have z1 : (s.heap.push (noneIn b0)).objs.size = s.heap.objs.size + 1 := Heap.size_push ..
        have apart : l ≠ (s.heap.push (noneIn b0)).objs.size := by
          rw [z1]
          exact Nat.ne_of_lt (Nat.lt_succ_of_lt lt0)
        have off : s.heap.objs.size ∉ [(s.heap.push (noneIn b0)).objs.size, l] := by
          rw [z1]
          intro q
          rcases List.mem_cons.mp q with q | q
          · exact absurd q (Nat.ne_of_lt (Nat.lt_succ_self _))
          · exact absurd (List.mem_singleton.mp q) (Nat.ne_of_gt lt0)
        refine fill_set ((Walks.list calm3 _ l apart items).toS) s.heap.objs.size off ks size few keys (items.size - 0) 0 _ (by omega) (Nat.zero_le _) ⟨⟨_, Heap.get?_push_size _ rfl, rfl, rfl⟩, (at1.push _)⟩ ?first ?last
        case first =>
          have got : ((s.heap.push (noneIn b0)).push { cls := .type "list_iterator", data := .fields #[.ref l, .int 0 0] }).get? s.heap.objs.size = some (noneIn b0) := Heap.get?_push_of_some _ new0
          refine ⟨_, #[], 0, _, got, ⟨rfl, rfl, rfl⟩, rfl, (fun e he => by simp at he), (fun k => by simp [isIn]), (by decide), (by rfl), rfl⟩
        case last =>
          intro t3 mv so
          obtain ⟨g, gn, dr, tk, os⟩ := t3
          have e1 : gn = s.gens := mv.gens
          have e2 : dr = s.drawn := mv.drawn
          have e3 : os = s.os := mv.os
          subst e1
          subst e2
          subst e3
          show wpAny _ _ _ _ _ _
          refine wpAny_pure ?_
          show wpAny _ _ (ret Value.none) _ _ _
          refine wpAny_pure ⟨rfl, g, tk, rfl, so, fun b o e => ?_⟩
          have below : b < s.heap.objs.size := Heap.lt_size e
          refine mv.heap b o (fun q => ?_) (Heap.get?_push_of_some _ (Heap.get?_push_of_some _ e))
          rcases List.mem_cons.mp q with q | q
          · exact absurd q (Nat.ne_of_lt below)
          · have q2 := List.mem_singleton.mp q
            rw [z1] at q2
            exact absurd q2 (Nat.ne_of_lt (Nat.lt_succ_of_lt below))
      · cases r2 with
        | error e => exact hr2
        | ok fl2 =>
          cases fl2 with
          | next => exact (hr2 : False).elim
          | brk => exact (hr2 : False).elim
          | cont => exact (hr2 : False).elim
          | ret y =>
            obtain ⟨rfl, g, tk, rfl, so, keep⟩ := hr2
            repeat (any_goals (first | assumption | wp_step))
            exact h _ _ so keep
end
section
variable {prog : Program} {w : World} {A : Around} {E : Value → Shared → Prop} {s : Shared} {α : Type} [DecidableEq α] {knd : KeyKind prog w α}
set_option maxHeartbeats 3200000 in
theorem call_setOfT {l : Addr} {items : Array Value} (ks : List α) {Q : Value → Shared → Prop} (calm : A.handled = none) (at_l : s.heap.IsTuple l items) (size : items.size = ks.length) (few : ks.length + 1 < scanBound)
    (keys : ∀ (i : Nat) (v : Value), items[i]? = some v → ∃ k : α, ks[i]? = some k ∧ knd.is k v = true ∧ v.scannable = true)
    (h : ∀ (g : Heap) (tk : Nat), g.SetOf knd s.heap.objs.size (isIn ks) (dds ks).length → (∀ b o, s.heap.get? b = some o → g.get? b = some o) → Q (.ref s.heap.objs.size) { s with heap := g, toks := tk }) :
    wpAny (model prog w) A (call (.type "set") [.ref l]) Q E s := by
  obtain ⟨c0, tl0, mro0⟩ := F.called_set.mro
  have made0 := F.called_set.made
  have sub0 := F.called_set.sub
  refine wpAny_call (codeAny_of_tree ?_)
  show wpAny _ _ (callAny (.type "set") _) _ _ _
  refine wpAny_pure ⟨Code.quiet_builtin _ (by decide +kernel), codeAny_builtin F.entry_type_call ?_⟩
  rw [Around.under_plain (weight_type_call_type "set" [.ref l] []) rfl]
  have nt0 := F.called_set.notType
  have cc0 := F.called_set.canCreate
  have tc0 := F.typeCall_set_1 (.ref l)
  repeat (any_goals (first | assumption | wp_step))
  refine codeAny_mono (code_set_new_1 (.ref l) (E := E) (Q₁ := fun x t => ∃ b : Bool, x = .ref s.heap.objs.size ∧ t = { s with heap := s.heap.push (noneIn b) }) fun b => ⟨b, rfl, rfl⟩) fun r t hr => ?_
  cases r with
  | error e => exact hr
  | ok fl =>
    cases fl with
    | next => exact (hr : False).elim
    | brk => exact (hr : False).elim
    | cont => exact (hr : False).elim
    | ret x =>
      obtain ⟨b0, rfl, rfl⟩ := hr
      have new0 : (s.heap.push (noneIn b0)).get? s.heap.objs.size = some (noneIn b0) := Heap.get?_push_size _ rfl
      have isS : Shared.TypeIs { s with heap := s.heap.push (noneIn b0) } (.ref s.heap.objs.size) "set" := ⟨_, new0, rfl⟩
      have li0 := F.called_set.init.lookup
      have bi0 := F.called_set.init.bind (.ref s.heap.objs.size)
      repeat (any_goals (first | assumption | wp_step))
      refine codeAny_mono (codeAny_call_builtin (R := wants (fun y t2 => y = .none ∧ ∃ (g : Heap) (tk : Nat), t2 = { s with heap := g, toks := tk } ∧ g.SetOf knd s.heap.objs.size (isIn ks) (dds ks).length ∧ (∀ b o, s.heap.get? b = some o → g.get? b = some o)) E)
        F.called_set.init.plain F.entry_set_init (check_set_init_1 isS ?_)) fun r2 t2 hr2 => ?_
      · obtain ⟨ol, hol, cl0, nl, dl0⟩ := at_l
        obtain ⟨ocls, odict, odata, oslots⟩ := ol
        simp only at cl0 dl0
        subst cl0
        subst dl0
        have hol1 : (s.heap.push (noneIn b0)).get? l = some { cls := .type "tuple", dict := odict, data := .seq items nl, slots := oslots } := Heap.get?_push_of_some _ hol
        have notS := F.sub_tuple_set
        have notF := F.sub_tuple_frozenset
        have notD : (Value.type "tuple" == Value.type "dict") = false := by decide
        have at1 : (s.heap.push (noneIn b0)).IsTuple l items := ⟨_, hol1, rfl, nl, rfl⟩
        refine init_goes (b := b0) new0 hol1 notS notF notD ?_
        refine wpAny_pyIter_tuple at1 ?_
        refine wpAny_bind (wpAny_runValue ?_)
        have lt0 : l < s.heap.objs.size := Heap.lt_size hol
        have calm3 : A.in1.in1.in1.handled = none := by simp [calm]
        have z1 : (s.heap.push (noneIn b0)).objs.size = s.heap.objs.size + 1 := Heap.size_push ..
        have apart : l ≠ (s.heap.push (noneIn b0)).objs.size := by
          rw [z1]
          exact Nat.ne_of_lt (Nat.lt_succ_of_lt lt0)
        have off : s.heap.objs.size ∉ [(s.heap.push (noneIn b0)).objs.size, l] := by
          rw [z1]
          intro q
          rcases List.mem_cons.mp q with q | q
          · exact absurd q (Nat.ne_of_lt (Nat.lt_succ_self _))
          · exact absurd (List.mem_singleton.mp q) (Nat.ne_of_gt lt0)
        refine fill_set ((Walks.tuple calm3 _ l apart items).toS) s.heap.objs.size off ks size few keys (items.size - 0) 0 _ (by omega) (Nat.zero_le _) ⟨⟨_, Heap.get?_push_size _ rfl, rfl, rfl⟩, (at1.push _)⟩ ?first ?last
        case first =>
          have got : ((s.heap.push (noneIn b0)).push { cls := .type "tuple_iterator", data := .fields #[.ref l, .int 0 0] }).get? s.heap.objs.size = some (noneIn b0) := Heap.get?_push_of_some _ new0
          refine ⟨_, #[], 0, _, got, ⟨rfl, rfl, rfl⟩, rfl, (fun e he => by simp at he), (fun k => by simp [isIn]), (by decide), (by rfl), rfl⟩
        case last =>
          intro t3 mv so
          obtain ⟨g, gn, dr, tk, os⟩ := t3
          have e1 : gn = s.gens := mv.gens
          have e2 : dr = s.drawn := mv.drawn
          have e3 : os = s.os := mv.os
          subst e1
          subst e2
          subst e3
          show wpAny _ _ _ _ _ _
          refine wpAny_pure ?_
          show wpAny _ _ (ret Value.none) _ _ _
          refine wpAny_pure ⟨rfl, g, tk, rfl, so, fun b o e => ?_⟩
          have below : b < s.heap.objs.size := Heap.lt_size e
          refine mv.heap b o (fun q => ?_) (Heap.get?_push_of_some _ (Heap.get?_push_of_some _ e))
          rcases List.mem_cons.mp q with q | q
          · exact absurd q (Nat.ne_of_lt below)
          · have q2 := List.mem_singleton.mp q
            rw [z1] at q2
            exact absurd q2 (Nat.ne_of_lt (Nat.lt_succ_of_lt below))
      · cases r2 with
        | error e => exact hr2
        | ok fl2 =>
          cases fl2 with
          | next => exact (hr2 : False).elim
          | brk => exact (hr2 : False).elim
          | cont => exact (hr2 : False).elim
          | ret y =>
            obtain ⟨rfl, g, tk, rfl, so, keep⟩ := hr2
            repeat (any_goals (first | assumption | wp_step))
            exact h _ _ so keep
end
theorem key_at : ∀ {ks : List Key} {us : List Value}, Vals (ks.map kV) us → ∀ (i : Nat) (v : Value), us[i]? = some v → ∃ k, ks[i]? = some k ∧ RelV (kV k) v
  | [], _, .nil, i, v, h => by simp at h
  | k :: ks, _, .cons r t, 0, v, h => by
    cases h
    exact ⟨k, rfl, r⟩
  | k :: ks, _, .cons r t, i + 1, v, h => key_at t i v h
/-- len(set(x)): how many different keys -/
def tLenSetK (K : PySem.W.Frag) (ta : TE) : TE := fun σ H Q => ta σ H fun x G => ∃ (l : Addr) (ks : List Key), x = .ref l ∧ (SqL K G l (ks.map kV) ∨ SqT K G l (ks.map kV)) ∧ ks.length ≤ 4000 ∧ Q (.int ((dds ks).length : Nat)) G
theorem pe_lenSetK {X : Cx} {a : Expr} {ta : TE} {p p2 q pos : Pos} (hg : Gl X "len") (hm : X.mg "len" = none) (hg2 : Gl X "set") (hm2 : X.mg "set" = none) (ha : PE X a ta) (calm : X.calm = true := by rfl)
    (na : starEach [a] X.env = (false, eval a X.env) :: starEach [] X.env := by rfl) : PE X (.Call (.Name "len" p) [.Call (.Name "set" p2) [a] [] q] [] pos) (tLenSetK X.K ta) := by
  refine ⟨fun pins s σ H Q I h => Call_ (ld_blt I hg hm boot_len (PyProof.Rows.callWith_builtin1 (PyProof.Rows.args_cons ?_ rfl) rfl rfl))⟩
  refine Call_ (ld_blt I hg2 hm2 boot_set (PyProof.Rows.callWith_type1 (PyProof.Rows.args_cons (thn (ha.run pins s σ H _ I h) fun v s1 ⟨x, G, I1, r1, q1⟩ => PyProof.Rows.args_nil ?_) na) na rfl))
  obtain ⟨l, ks, rfl, hq, few, q1⟩ := q1
  cases r1
  have fin : ∀ (g : Heap) (tk : Nat), g.SetOf (mixKind X.prog X.w) s1.heap.objs.size (isIn ks) (dds ks).length → (∀ b o, s1.heap.get? b = some o → g.get? b = some o) →
      wpAny (model X.prog X.w) X.A (call (.builtin "len") [.ref s1.heap.objs.size]) (fun v s' => ∃ (y : V) (J : Hp), Inv X pins σ J s' ∧ RelV y v ∧ Q y J) X.xe { s1 with heap := g, toks := tk } := by
    intro g tk so keep
    obtain ⟨o, es, ep, t, ho, hex, hd, _, _, _, hf, hn⟩ := so
    have I2 : Inv X pins σ G { s1 with heap := g, toks := tk } := I1.kept keep
    have b1 := dds_len ks
    exact call_len_set ho hex hd hf (by rw [hn]; omega) ⟨.int ((dds ks).length : Nat), G, I2.tok _, ⟨_, by rw [hn]⟩, q1⟩
  rcases hq with hq | hq
  · obtain ⟨its, r, pl, hz⟩ := I1.list hq
    have el : its.toArray.size = ks.length := by rw [List.size_toArray, ← r.length, List.length_map]
    refine call_setOfL (knd := mixKind X.prog X.w) ks (I1.ok.hd calm) pl.isList el (by unfold scanBound; omega) (fun i v hv => ?_) fun g tk so keep => PyProof.Rows.args_nil (fin g tk so keep)
    obtain ⟨k, e1, e2⟩ := key_at r i v (by simpa using hv)
    exact ⟨k, e1, kV_is e2, key_scan e2⟩
  · obtain ⟨its, r, pl, hz⟩ := I1.tuple hq
    have el : its.toArray.size = ks.length := by rw [List.size_toArray, ← r.length, List.length_map]
    refine call_setOfT (knd := mixKind X.prog X.w) ks (I1.ok.hd calm) pl el (by unfold scanBound; omega) (fun i v hv => ?_) fun g tk so keep => PyProof.Rows.args_nil (fin g tk so keep)
    obtain ⟨k, e1, e2⟩ := key_at r i v (by simpa using hv)
    exact ⟨k, e1, kV_is e2, key_scan e2⟩
end Gu
namespace Gu
open PySem PySem.Spec PyProof.Rows L2
/-! ### tuples of which the object is known too: their methods -/
def FT (H : Hp) (a : Addr) (xs : List V) : Prop := ∃ o : Obj, H a = some (.frz o (.tup xs)) ∧ o.cls = .type "tuple" ∧ o.dict = none
theorem FT.sq {K : PySem.W.Frag} {H : Hp} {a : Addr} {xs : List V} (h : FT H a xs) : SqT K H a xs := by
  obtain ⟨o, e, _⟩ := h
  exact .inl (.inr ⟨o, e⟩)
theorem FT.same {H G : Hp} {a : Addr} {xs : List V} (s : Same H G) (h : FT H a xs) : FT G a xs := by
  obtain ⟨o, e, r⟩ := h
  exact ⟨o, s _ _ e, r⟩
section
variable {X : Cx}
theorem ft_laid {pins : List (Addr × Obj)} {σ : L2.St} {H : Hp} {s : Shared} {Q : VK} {xs : List V} {us : List Value} (I : Inv X pins σ H s) (r : Vals xs us) (z : xs.length ≤ sizeLine) (q : ∀ U G, Same H G → FT G U xs → H U = none → Q (.ref U) G) :
    EP X pins σ Q (.ref s.heap.objs.size) { s with heap := s.heap.push { cls := .type "tuple", data := .seq us.toArray } } := by
  have hf : H s.heap.objs.size = none := I.hok.fresh (Nat.le_refl _)
  refine ⟨.ref s.heap.objs.size, upd H s.heap.objs.size (.frz { cls := .type "tuple", data := .seq us.toArray } (.tup xs)), I.laid (t' := s.toks) (fun b u e => Heap.get?_push_of_some _ e) (Nat.le_refl _) ?_, rfl, q _ _ (same_new hf) ⟨_, upd_same, rfl, rfl⟩ hf⟩
  exact ⟨Heap.get?_push_size _ rfl, z, us, r, ⟨_, Heap.get?_push_size _ rfl, rfl, _, rfl⟩⟩
def tTupF (t : TA) : TE := fun σ H Q => t σ H fun xs H1 => xs.length ≤ sizeLine ∧ ∀ U G, Same H1 G → FT G U xs → H1 U = none → Q (.ref U) G
theorem pe_tupF {es : List Expr} {t : TA} {x1 : Nat} {pos : Pos} (h : PA X es t) : PE X (.Tuple es x1 pos) (tTupF t) := by
  refine ⟨fun pins s σ H Q I hq => ?_⟩
  exact wpAny_Tuple_spliced (thn (h.run pos pins s σ H _ I hq) fun us s1 ⟨xs, H1, I1, r, z, q⟩ => ⟨by rw [← r.length]; exact z, ft_laid I1 r z q⟩)
def rCatF (H1 : Unit) : R2 := fun x y H Q => ∃ a b xs ys, x = .ref a ∧ y = .ref b ∧ FT H a xs ∧ FT H b ys ∧ xs.length + ys.length ≤ sizeLine ∧ ∀ U G, Same H G → FT G U (xs ++ ys) → Q (.ref U) G
theorem op_catF : OpR X (binaryOp .Add) (rCatF ()) := by
  intro pins s σ H x y v u Q I rx ry h
  obtain ⟨a, b, xs, ys, rfl, rfl, ha, hb, hz, q⟩ := h
  cases rx
  cases ry
  obtain ⟨its, r1, p1, _⟩ := I.tuple ha.sq
  obtain ⟨its2, r2, p2, _⟩ := I.tuple hb.sq
  by_cases hx : xs = []
  · subst hx
    cases r1
    exact cat_tup0 p1 p2 ⟨.ref b, H, I, rfl, q b H (Same.refl H) hb⟩
  · refine HT.cat_tup p1 p2 (fun z => hx (r1.nil_iff.mp z)) (fun z => ?_) (fun z => ?_) (by rw [← r1.length, ← r2.length]; exact hz)
    · have e := r2.nil_iff.mp z
      subst e
      exact ⟨.ref a, H, I, rfl, q a H (Same.refl H) (by rw [List.append_nil]; exact ha)⟩
    · exact ft_laid I (r1.append r2) (by rw [List.length_append]; exact hz) fun U G sG f _ => q U G sG f
def rSlF (H1 : Unit) : V → Option Int → Option Int → Hp → VK → Prop := fun x lo hi H Q => ∃ a xs, x = .ref a ∧ FT H a xs ∧ ∀ U G, Same H G → FT G U (cutV xs lo hi) → Q (.ref U) G
theorem sl_tupF : SlR X (rSlF ()) := by
  intro pins s σ H x v vl vu lo hi sl Q I rx hs pl pu h
  obtain ⟨a, xs, rfl, hx, q⟩ := h
  cases rx
  obtain ⟨its, r, ht, hz⟩ := I.tuple hx.sq
  have hlen : its.toArray.size = xs.length := by rw [List.size_toArray]; exact r.length.symm
  refine ⟨"tuple", _, PyProof.Rows.slot_tuple_getitem.lookup, ht.typeIs, ?_⟩
  by_cases hw : HT.sIx xs.length 0 lo = 0 ∧ HT.sIx xs.length xs.length hi = xs.length
  · refine getItem_tuple_whole ht hs pl pu (by rw [hlen]; exact hw) ⟨.ref a, H, I, rfl, q a H (Same.refl H) ?_⟩
    unfold cutV
    rw [hw.1, hw.2, List.drop_zero, Nat.sub_zero, List.take_length]
    exact hx
  · refine HT.getItem_tuple_cut ht hs pl pu (by rw [hlen]; exact hw) ?_ (by rw [hlen]; exact hz)
    rw [hlen]
    exact ft_laid I ((r.drop (HT.sIx xs.length 0 lo)).take (HT.sIx xs.length xs.length hi - HT.sIx xs.length 0 lo)) (Nat.le_trans (cutV_length xs lo hi) hz) fun U G sG f _ => q U G sG f
/-- t.m(e), t such a tuple -/
def tBMF (r : V → List V → Hp → VK → Prop) (to : TE) (t : TA) : TE := fun σ H Q => to σ H fun x H1 => (∃ a xs, x = .ref a ∧ FT H1 a xs) ∧ t σ H1 fun ys H2 => r x ys H2 Q
theorem pe_bmF {o e : Expr} {es : List Expr} {to : TE} {t : TA} {name : Str} {apos cpos : Pos} {id : String} {r : V → List V → Hp → VK → Prop} (pa : PlainAttrs "tuple") (slot : Slot "tuple" name id) (hty : typeOf (.builtin id) = pure (.type "method_descriptor")) (hm : MtR X id r) (ho : PE X o to) (ha : PA X (e :: es) t)
    (hbase : attributeBase o name X.env (eval o X.env) = eval o X.env := by rfl)
    (hfew : ((backTo cpos (starEach (e :: es) X.env)).all (fun x => !x.1) && (backToKw cpos (keywordEach [] X.env)).all (fun x => x.1.isSome) && decide ((e :: es).length + ([] : List Keyword).length + (if ([] : List Keyword).isEmpty then 0 else 1) < 30)) = true := by rfl)
    (hline : (apos.endLine == cpos.line) = true := by rfl) (hs : starEach (e :: es) X.env = (false, eval e X.env) :: starEach es X.env := by rfl) (hplain : (backTo cpos (starEach es X.env)).any (·.1) = false := by rfl) :
    PE X (.Call (.Attribute o name apos) (e :: es) [] cpos) (tBMF r to t) := by
  refine ⟨fun pins s σ H Q I h => wpAny_Call_method_late hbase hfew hline rfl (thn (ho.run pins s σ H _ I h) fun v s1 ⟨x, H1, I1, r1, ⟨a, xs, ex, o, eo, hc, hd⟩, q1⟩ => ?_)⟩
  subst ex
  cases r1
  have at1 : s1.heap.get? a = some o := (I1.hok a _ eo).1
  refine ⟨"tuple", id, pa, slot, hty, ⟨o, at1, hc⟩, fun b e => by cases e; exact ⟨o, at1, hd⟩, ?_⟩
  have hA := ha.run cpos pins s1 σ H1 _ I1 q1
  rw [hs] at hA ⊢
  exact Calls.callWith_builtin (by show (false || (backTo cpos (starEach es X.env)).any (·.1)) = false; rw [hplain] <;> rfl) (Calls.evalArgs_plain (thn hA fun us s2 ⟨vs, H2, I2, r2, q2⟩ => hm pins s2 σ H2 (.ref a) vs (.ref a) us Q I2 rfl r2 q2))
end
end Gu
namespace Gu
open PySem PySem.Spec PyProof.Rows L2
/-! ### methods -/
structure MethAt (K : PySem.W.Frag) (C : Addr) (m q : Str) (st : Stmt) (ps : List Str) : Prop where
  ex : ∃ (f : Addr) (fd : FuncData), Meth K C m f ∧ Fun K m q st f fd ∧ Binds K fd ps []
structure CalM (P : Program) (w : World) (K : PySem.W.Frag) (mg : Str → Option Value) (base : Heap) (k : Nat) (C : Addr) (m : Str) (ps : List Str) (sp : Sp) : Prop where
  ex : ∃ (f : Addr) (fd : FuncData), Meth K C m f ∧ FnOk P w K mg base CX0 k f fd ps sp ∧ Binds K fd ps []
section
variable {P : Program} {w : World} {K : PySem.W.Frag} {mg : Str → Option Value} {base : Heap} {C : Addr}
theorem MethAt.cal {m q : Str} {st : Stmt} {N ps : List Str} {k : Nat} {sp : Sp} (D : MethAt K C m q st ps) (S : FnScope N ps (defScope st)) (len : ∀ vs H Q E, sp vs H Q E → vs.length = ps.length)
    (body : ∀ (f : Addr) (cdv : Value) (A : Around) (outer : List Env) (s : Shared) (H : Hp) (vs : List V) (Q : VK) (E : XK), Room k (A.deeper (envOfC q (defScope st) s.heap.objs.size f cdv)) → sp vs H Q E →
      ∃ t, PSs (cxOf CX0 P w K mg base N q (defScope st) f cdv A outer s H E).nox (defBody st) t ∧ t { nx := fun _ G => Q .non G, rt := Q } (start N vs) H) : CalM P w K mg base (k + 1) C m ps sp := by
  obtain ⟨f, fd, M, F, b⟩ := D.ex
  exact ⟨f, fd, M, F.ok S len (body f), b⟩
end
section
variable {X : Cx} {k j : Nat} {m : Str} {ps : List Str} {sp : Sp} {apos pos : Pos} {o e : Expr} {es : List Expr} {t : TA} {ta : TE} {C : Addr}
theorem pe_mth (c : CalM X.prog X.w X.K X.mg X.base k C m ps sp) (cl : Cls X.K C) (hr : Room j X.A) (hk : k ≤ j) (he : PE X o ta) (ha : PA X (e :: es) t) {pl : Sem Bool}
    (hst : starEach (e :: es) X.env = (false, eval e X.env) :: starEach es X.env := by rfl) (hpl : (backTo pos (starEach es X.env)).any (·.1) = false := by rfl)
    (ht : eval (.Call (.Attribute o m apos) (e :: es) [] pos) X.env = (do
      let ov ← eval o X.env
      standAt apos.atName
      let (f, first) ← holding [ov] (getMethod ov m pl)
      callWith pos f first (backTo pos (starEach (e :: es) X.env)) (backToKw pos (keywordEach [] X.env))) := by rfl) : PE X (.Call (.Attribute o m apos) (e :: es) [] pos) (tMeth C m sp [] E0 ta t) := by
  obtain ⟨f, fd, M, F, b⟩ := c.ex
  exact pe_meth he cl M F (hr.mono hk) b .nil pass0 ha hst hpl ht
theorem pe_mth0 (c : CalM X.prog X.w X.K X.mg X.base k C m ps sp) (cl : Cls X.K C) (hr : Room j X.A) (hk : k ≤ j) (he : PE X o ta) {pl : Sem Bool}
    (ht : eval (.Call (.Attribute o m apos) [] [] pos) X.env = (do
      let ov ← eval o X.env
      standAt apos.atName
      let (f, first) ← holding [ov] (getMethod ov m pl)
      callWith pos f first (backTo pos (starEach [] X.env)) (backToKw pos (keywordEach [] X.env))) := by rfl) : PE X (.Call (.Attribute o m apos) [] [] pos) (tMeth C m sp [] E0 ta tNil) := by
  obtain ⟨f, fd, M, F, b⟩ := c.ex
  exact pe_meth0 he cl M F (hr.mono hk) b .nil pass0 ht
end
/-! ### shelves in the heap -/
abbrev Prs := List (Str × Str)
def txts (ps : Prs) : List V := (ps.map (·.1)).map V.str
def nms (ps : Prs) : List V := (ps.map (·.2)).map V.str
structure Sf where
  so : Str
  w : Int
  ps : Prs
  past : List Prs
  busy : Bool
structure PrsOk (ps : Prs) : Prop where
  len : ps.length ≤ 20
  wd : ∀ q ∈ ps, Wd 200 q.1 ∧ Wd 203 q.2
structure Sf.ok (S : Sf) : Prop where
  so : S.so ∈ sorts
  w0 : 6 ≤ S.w
  w1 : S.w ≤ 40
  ps : PrsOk S.ps
  past : ∀ ps ∈ S.past, PrsOk ps
  few : S.past.length ≤ 500
def sflds (n a b c : Addr) (z : Bool) : List (Str × V) := [("namer", .ref n), ("busy", .bl z), ("texts", .ref a), ("names", .ref b), ("past", .ref c)]
section
variable {n a b c d : Addr} {z y : Bool}
theorem sf_namer : (sflds n a b c z).lookup ("namer" : Str) = some (.ref n) := rfl
theorem sf_busy : (sflds n a b c z).lookup ("busy" : Str) = some (.bl z) := rfl
theorem sf_texts : (sflds n a b c z).lookup ("texts" : Str) = some (.ref a) := rfl
theorem sf_names : (sflds n a b c z).lookup ("names" : Str) = some (.ref b) := rfl
theorem sf_past : (sflds n a b c z).lookup ("past" : Str) = some (.ref c) := rfl
theorem put_busy : putF "busy" (.bl y) (sflds n a b c z) = sflds n a b c y := rfl
theorem put_texts : putF "texts" (.ref d) (sflds n a b c z) = sflds n d b c z := rfl
theorem put_names : putF "names" (.ref d) (sflds n a b c z) = sflds n a d c z := rfl
theorem put_past : putF "past" (.ref d) (sflds n a b c z) = sflds n a b d z := rfl
end
def PairAt (H : Hp) (q : Addr) (ps : Prs) : Prop := ∃ a b, H q = some (.tup [.ref a, .ref b]) ∧ H a = some (.tup (txts ps)) ∧ FT H b (nms ps)
def PastAt (H : Hp) (c : Addr) (past : List Prs) : Prop := ∃ qs : List (Addr × Prs), H c = some (.tup (qs.map fun q => V.ref q.1)) ∧ qs.map (·.2) = past ∧ ∀ q ∈ qs, PairAt H q.1 q.2
structure ShelfAt (C N : Addr) (H : Hp) (s : Addr) (S : Sf) : Prop where
  ex : ∃ dx n a b c, H s = some (.ins C dx (sflds n a b c S.busy)) ∧ NmAt N H n S.so S.w ∧ H a = some (.tup (txts S.ps)) ∧ FT H b (nms S.ps) ∧ PastAt H c S.past
/-- what stands, but at the places of l -/
def Kp (l : List Addr) (H G : Hp) : Prop := ∀ b o, H b = some o → b ∉ l → G b = some o
theorem Kp.refl {l : List Addr} {H : Hp} : Kp l H H := fun _ _ e _ => e
theorem Kp.trans {l : List Addr} {H G J : Hp} (a : Kp l H G) (b : Kp l G J) : Kp l H J := fun c o e n => b c o (a c o e n) n
theorem Kp.same {l : List Addr} {H G : Hp} (s : Same H G) : Kp l H G := fun b o e _ => s b o e
theorem Kp.mono {l m : List Addr} {H G : Hp} (k : Kp l H G) (h : ∀ b ∈ l, b ∈ m) : Kp m H G := fun b o e n => k b o e fun z => n (h b z)
theorem Kp.lad {p : Addr} {H G : Hp} (L : Ladled p H G) : Kp [p] H G := fun b o e n => L.keep b o e fun z => n (List.mem_singleton.mpr z)
theorem PairAt.same {H G : Hp} {q : Addr} {ps : Prs} (s : Same H G) (h : PairAt H q ps) : PairAt G q ps := by
  obtain ⟨a, b, e1, e2, e3⟩ := h
  exact ⟨a, b, s _ _ e1, s _ _ e2, e3.same s⟩
theorem PastAt.same {H G : Hp} {c : Addr} {past : List Prs} (s : Same H G) (h : PastAt H c past) : PastAt G c past := by
  obtain ⟨qs, e, h1, h2⟩ := h
  exact ⟨qs, s _ _ e, h1, fun q hq => (h2 q hq).same s⟩
theorem ShelfAt.same {C N : Addr} {H G : Hp} {s : Addr} {S : Sf} (k : Same H G) (h : ShelfAt C N H s S) : ShelfAt C N G s S := by
  obtain ⟨dx, n, a, b, c, e0, e1, e2, e3, e4⟩ := h.ex
  exact ⟨dx, n, a, b, c, k _ _ e0, e1.same k, k _ _ e2, e3.same k, e4.same k⟩
/-- at the places of l stand pots and shelves -/
def Muts (C N : Addr) (l : List Addr) (H : Hp) : Prop := ∀ b ∈ l, Pot H b ∨ ∃ S, ShelfAt C N H b S
section
variable {C N : Addr} {l : List Addr} {H G : Hp}
theorem Muts.tup (m : Muts C N l H) {q : Addr} {xs : List V} (e : H q = some (.tup xs)) : q ∉ l := fun hq => by
  rcases m q hq with ⟨x, y, z, f⟩ | ⟨S, h⟩
  · rw [e] at f
    cases f
  · obtain ⟨_, _, _, _, _, f, _⟩ := h.ex
    rw [e] at f
    cases f
theorem Muts.ft (m : Muts C N l H) {q : Addr} {xs : List V} (h : FT H q xs) : q ∉ l := fun hq => by
  obtain ⟨o, e, _⟩ := h
  rcases m q hq with ⟨x, y, z, f⟩ | ⟨S, h⟩
  · rw [e] at f
    cases f
  · obtain ⟨_, _, _, _, _, f, _⟩ := h.ex
    rw [e] at f
    cases f
theorem FT.kp (m : Muts C N l H) (k : Kp l H G) {q : Addr} {xs : List V} (h : FT H q xs) : FT G q xs := by
  have n := m.ft h
  obtain ⟨o, e, r⟩ := h
  exact ⟨o, k _ _ e n, r⟩
theorem nfl_len (so : Str) (w : Int) : (nflds so w).length ≤ 2 := by
  unfold nflds
  exact Nat.le_trans (length_putF _ _ _) (Nat.succ_le_succ (length_putF _ _ _))
theorem Muts.nm (m : Muts C N l H) {M q : Addr} {so : Str} {w : Int} (h : NmAt M H q so w) : q ∉ l := fun hq => by
  obtain ⟨dx, e⟩ := h
  rcases m q hq with ⟨x, y, z, f⟩ | ⟨S, h⟩
  · rw [e] at f
    cases f
  · obtain ⟨_, _, _, _, _, f, _⟩ := h.ex
    rw [e] at f
    injection f with f
    injection f with _ _ f
    have l2 := nfl_len so w
    rw [f] at l2
    exact absurd l2 (by show ¬ (5 ≤ 2); decide)
theorem PairAt.kp (m : Muts C N l H) (k : Kp l H G) {q : Addr} {ps : Prs} (h : PairAt H q ps) : PairAt G q ps := by
  obtain ⟨a, b, e1, e2, e3⟩ := h
  exact ⟨a, b, k _ _ e1 (m.tup e1), k _ _ e2 (m.tup e2), e3.kp m k⟩
theorem PastAt.kp (m : Muts C N l H) (k : Kp l H G) {c : Addr} {past : List Prs} (h : PastAt H c past) : PastAt G c past := by
  obtain ⟨qs, e, h1, h2⟩ := h
  exact ⟨qs, k _ _ e (m.tup e), h1, fun q hq => (h2 q hq).kp m k⟩
theorem NmAt.kp (m : Muts C N l H) (k : Kp l H G) {M q : Addr} {so : Str} {w : Int} (h : NmAt M H q so w) : NmAt M G q so w := by
  have nq := m.nm h
  obtain ⟨dx, e⟩ := h
  exact ⟨dx, k _ _ e nq⟩
/-- a shelf that is none of them stands -/
theorem ShelfAt.kp (m : Muts C N l H) (k : Kp l H G) {s : Addr} {S : Sf} (h : ShelfAt C N H s S) (n : s ∉ l) : ShelfAt C N G s S := by
  obtain ⟨dx, n1, a, b, c, e0, e1, e2, e3, e4⟩ := h.ex
  exact ⟨dx, n1, a, b, c, k _ _ e0 n, e1.kp m k, k _ _ e2 (m.tup e2), e3.kp m k, e4.kp m k⟩
end
/-- one text comes -/
def Sf.come (S : Sf) (t : Str) : Sf := { S with ps := S.ps ++ [(t, nameOf S.so S.w t S.ps)], past := S.past ++ [S.ps] }
/-- the one at i goes -/
def Sf.go (S : Sf) (i : Nat) : Sf := { S with ps := S.ps.take i ++ S.ps.drop (i + 1), past := S.past ++ [S.ps] }
end Gu
namespace Gu
open PySem PySem.Spec PyProof.Rows L2
/-! ### the class Shelf -/
structure ShlC (K : PySem.W.Frag) (mg : Str → Option Value) (C : Addr) : Prop where
  cl : Cls K C
  nN : NoAttr K C "namer"
  nB : NoAttr K C "busy"
  nT : NoAttr K C "texts"
  nM : NoAttr K C "names"
  nP : NoAttr K C "past"
  g : mg "Shelf" = some (.ref C)
theorem kp_upd {s : Addr} {H : Hp} {o : HO} : Kp [s] H (upd H s o) := fun b x e n => by
  rw [upd_ne fun z => n (List.mem_singleton.mpr z)]
  exact e
theorem nextOf_ps (so : Str) (w : Int) (t : Str) (ps : Prs) : nextOf so w t (ps.map (·.1)) (ps.map (·.2)) = nameOf so w t ps := by
  have e : (alike w t (ps.map (·.1))).length = (mates w t ps).length := by
    unfold mates alike
    rw [List.filter_map, List.length_map]
    rfl
  unfold nextOf nameOf countedOf freeP
  rw [e]
theorem sl_okU {K : PySem.W.Frag} {H : Hp} {a : Addr} {xs : List V} {Q : VK} {lo hi : Option Int} (ha : H a = some (.tup xs)) (q : ∀ U G, Same H G → G U = some (.tup (cutV xs lo hi)) → Q (.ref U) G) : rSlA K (.ref a) lo hi H Q := by
  refine ⟨a, xs, rfl, .inl (.inl ha), fun ⟨e1, e2⟩ => q a H (Same.refl H) ?_, fun _ p np => q p _ (same_new np) upd_same⟩
  unfold cutV
  rw [e1, e2, List.drop_zero, Nat.sub_zero, List.take_length]
  exact ha
theorem catU {K : PySem.W.Frag} {H : Hp} {a b : Addr} {xs ys : List V} {Q : VK} (ha : H a = some (.tup xs)) (hb : H b = some (.tup ys)) (hl : xs.length + ys.length ≤ sizeLine) (q : ∀ U G, Same H G → G U = some (.tup (xs ++ ys)) → Q (.ref U) G) : rCatA K (.ref a) (.ref b) H Q := by
  refine ⟨a, b, xs, ys, rfl, rfl, .inl (.inl ha), .inl (.inl hb), hl, fun e => q b H (Same.refl H) ?_, fun _ e => q a H (Same.refl H) ?_, fun _ _ p np => q p _ (same_new np) upd_same⟩
  · rw [e]
    exact hb
  · rw [e, List.append_nil]
    exact ha
section
variable {P : Program} {w : World} {K : PySem.W.Frag} {mg : Str → Option Value} {base : Heap} {C N : Addr}
/-! check_text, for texts -/
def spCheckTextW : Sp := fun vs H Q _ => ∃ t : Str, vs = [.str t] ∧ Wd 200 t ∧ ∀ G, Same H G → Q .non G
theorem cal_checkTextW (B : Bi mg) (D : At K mg "check_text" s_check_text ps_check_text) (C_is_text : Cal P w K mg base 1 "is_text" ps_is_text (spIsText K)) : Cal P w K mg base 2 "check_text" ps_check_text spCheckTextW := by
  refine D.cal sc_check_text (fun vs H Q E h => ?_) (fun f cdv A outer s H vs Q E hr h => ?_)
  · obtain ⟨t, rfl, _⟩ := h
    rfl
  · obtain ⟨t, rfl, wt, k⟩ := h
    have tl : t.length ≤ 200 := wt.len
    refine ⟨_, (pss_one (ps_if (pt_not (pt_val (pe_own C_is_text hr (by decide) (by rfl) (pa_cons (pv 0) (pa_cons (pe_cst B.MOST_TEXT (by rfl)) pa_nil))))) pss_never pss_nil)), ?_⟩
    refine ⟨_, rfl, _, _, rfl, .inl ⟨t, rfl, by omega, fun G sG => ⟨_, rfl, ?_⟩⟩⟩
    rw [show isTxt t 200 = true from wd_isTxt wt]
    exact iteF (k G sG)
/-! Shelf.__init__ -/
def spShInit (C N : Addr) : Sp := fun vs H Q _ => ∃ (x dx n : Addr) (so : Str) (w : Int), vs = [.ref x, .ref n] ∧ H x = some (.ins C dx []) ∧ NmAt N H n so w ∧ ∀ G, Kp [x] H G → ShelfAt C N G x ⟨so, w, [], [], false⟩ → Q .non G
theorem ok_shinit {f : Addr} {fd : FuncData} (B : Bi mg) (S : ShlC K mg C) (F : Fun K "__init__" "Shelf.__init__" s_Shelf_init f fd) (C_check_namer : Cal P w K mg base 1 "check_namer" ps_check_namer (spCheckNamer N)) : FnOk P w K mg base CX0 2 f fd ps_Shelf_init (spShInit C N) := by
  refine F.ok sc_Shelf_init (fun vs H Q E h => ?_) (fun cdv A outer s H vs Q E hr h => ?_)
  · obtain ⟨x, dx, n, so, w, rfl, _⟩ := h
    rfl
  · obtain ⟨x, dx, n, so, w, rfl, hx, hN, k⟩ := h
    have nx : n ≠ x := fun z => by
      obtain ⟨d, e⟩ := hN
      rw [z, hx] at e
      injection e with e
      injection e with _ _ e
      have a := nflds_rule so w
      rw [← e] at a
      cases a
    refine ⟨_, (pss_cons (ps_expr (pe_own C_check_namer hr (by decide) (by rfl) (pa_cons (pv 1) pa_nil)))
      (pss_cons (ps_fld (pv 0) (pv 1) rfl)
      (pss_cons (ps_fld (pv 0) pe_bl rfl)
      (pss_cons (ps_fld (pv 0) (pe_tup pa_nil) rfl)
      (pss_cons (ps_fld (pv 0) (pe_tupF pa_nil) rfl)
      (pss_one (ps_fld (pv 0) (pe_tup pa_nil) rfl))))))), ?_⟩
    refine ⟨_, rfl, n, so, w, rfl, hN, ?_⟩
    refine ⟨_, rfl, _, rfl, x, C, dx, [], rfl, hx, S.cl, S.nN, by decide, ?_⟩
    generalize hG : upd H x _ = G1
    have k1 : Kp [x] H G1 := hG ▸ kp_upd
    have e1 : G1 x = some (.ins C dx [("namer", .ref n)]) := by rw [← hG]; exact upd_same
    clear hG
    refine ⟨_, rfl, x, C, dx, _, rfl, e1, S.cl, S.nB, by show 1 < 1000; decide, ?_⟩
    generalize hG : upd G1 x _ = G2
    have k2 : Kp [x] G1 G2 := hG ▸ kp_upd
    have e2 : G2 x = some (.ins C dx [("namer", .ref n), ("busy", .bl false)]) := by rw [← hG]; exact upd_same
    clear hG
    refine ⟨by show 0 ≤ sizeLine; decide, fun a na => ?_⟩
    generalize hG : upd G2 a _ = G3
    have s3 : Same G2 G3 := hG ▸ same_new na
    have ea : G3 a = some (.tup []) := by rw [← hG]; exact upd_same
    clear hG
    have nax : a ≠ x := fun z => by rw [z, e2] at na; cases na
    refine ⟨_, rfl, x, C, dx, _, rfl, s3 _ _ e2, S.cl, S.nT, by show 2 < 1000; decide, ?_⟩
    generalize hG : upd G3 x _ = G4
    have k4 : Kp [x] G3 G4 := hG ▸ kp_upd
    have e4 : G4 x = some (.ins C dx [("namer", .ref n), ("busy", .bl false), ("texts", .ref a)]) := by rw [← hG]; exact upd_same
    clear hG
    refine ⟨by show 0 ≤ sizeLine; decide, fun b G5 s5 eb nb => ?_⟩
    have nbx : b ≠ x := fun z => by rw [z, e4] at nb; cases nb
    refine ⟨_, rfl, x, C, dx, _, rfl, s5 _ _ e4, S.cl, S.nM, by show 3 < 1000; decide, ?_⟩
    generalize hG : upd G5 x _ = G6
    have k6 : Kp [x] G5 G6 := hG ▸ kp_upd
    have e6 : G6 x = some (.ins C dx [("namer", .ref n), ("busy", .bl false), ("texts", .ref a), ("names", .ref b)]) := by rw [← hG]; exact upd_same
    clear hG
    refine ⟨by show 0 ≤ sizeLine; decide, fun c nc => ?_⟩
    generalize hG : upd G6 c _ = G7
    have s7 : Same G6 G7 := hG ▸ same_new nc
    have ec : G7 c = some (.tup []) := by rw [← hG]; exact upd_same
    clear hG
    have ncx : c ≠ x := fun z => by rw [z, e6] at nc; cases nc
    refine ⟨_, rfl, x, C, dx, _, rfl, s7 _ _ e6, S.cl, S.nP, by show 4 < 1000; decide, ?_⟩
    generalize hG : upd G7 x _ = G8
    have k8 : Kp [x] G7 G8 := hG ▸ kp_upd
    have e8 : G8 x = some (.ins C dx (sflds n a b c false)) := by rw [← hG]; exact upd_same
    clear hG
    have no : ∀ {b : Addr}, b ≠ x → b ∉ [x] := fun h z => h (List.mem_singleton.mp z)
    have kA : Kp [x] H G8 := k1.trans (k2.trans ((Kp.same s3).trans (k4.trans ((Kp.same s5).trans (k6.trans ((Kp.same s7).trans k8))))))
    refine k G8 kA ⟨dx, n, a, b, c, e8, ?_, k8 _ _ (s7 _ _ (k6 _ _ (s5 _ _ (k4 _ _ ea (no nax))) (no nax))) (no nax), ?_, [], k8 _ _ ec (no ncx), rfl, fun q hq => by cases hq⟩
    · obtain ⟨d, e⟩ := hN
      exact ⟨d, kA _ _ e (no nx)⟩
    · obtain ⟨o, e, r⟩ := eb
      exact ⟨o, k8 _ _ (s7 _ _ (k6 _ _ e (no nbx))) (no nbx), r⟩
/-! Shelf.become -/
def spBecome (C N : Addr) : Sp := fun vs H Q _ => ∃ (s a b : Addr) (S : Sf) (ps : Prs), vs = [.ref s, .ref a, .ref b] ∧ ShelfAt C N H s S ∧ S.past.length ≤ 10000 ∧ H a = some (.tup (txts ps)) ∧ FT H b (nms ps) ∧ ∀ G, Kp [s] H G → ShelfAt C N G s { S with ps := ps, past := S.past ++ [S.ps] } → Q .non G
theorem cal_become (B : Bi mg) (Z : ShlC K mg C) (D : MethAt K C "become" "Shelf.become" s_Shelf_become ps_Shelf_become) : CalM P w K mg base 1 C "become" ps_Shelf_become (spBecome C N) := by
  refine D.cal sc_Shelf_become (fun vs H Q E h => ?_) (fun f cdv A outer s H vs Q E hr h => ?_)
  · obtain ⟨s, a, b, S, ps, rfl, _⟩ := h
    rfl
  · obtain ⟨s, a, b, S, ps, rfl, hS, few, ha, hb, k⟩ := h
    obtain ⟨dx, n, a0, b0, c0, e0, e1, e2, e3, qs, e4, q1, q2⟩ := hS.ex
    have ql : qs.length = S.past.length := by rw [← q1, List.length_map]
    refine ⟨_, (pss_cons (ps_fld (pv 0) (pe_op op_catA (pe_fld (pv 0) rfl) (pe_tup (pa_cons (pe_tup (pa_cons (pe_fld (pv 0) rfl) (pa_cons (pe_fld (pv 0) rfl) pa_nil))) pa_nil))) rfl)
      (pss_cons (ps_fld (pv 0) (pv 1) rfl)
      (pss_one (ps_fld (pv 0) (pv 2) rfl)))), ?_⟩
    refine ⟨_, rfl, s, C, dx, _, _, rfl, e0, Z.cl, Z.nP, sf_past, _, rfl, s, C, dx, _, _, rfl, e0, Z.cl, Z.nT, sf_texts, _, rfl, s, C, dx, _, _, rfl, e0, Z.cl, Z.nM, sf_names, by show 2 ≤ sizeLine; decide, fun q nq => ?_⟩
    generalize hG : upd H q _ = G1
    have s1 : Same H G1 := hG ▸ same_new nq
    have eq : G1 q = some (.tup [.ref a0, .ref b0]) := by rw [← hG]; exact upd_same
    clear hG
    refine ⟨by show 1 ≤ sizeLine; decide, fun u nu => ?_⟩
    generalize hG : upd G1 u _ = G2
    have s2 : Same G1 G2 := hG ▸ same_new nu
    have eu : G2 u = some (.tup [.ref q]) := by rw [← hG]; exact upd_same
    clear hG
    refine catU (s2 _ _ (s1 _ _ e4)) eu ?_ fun U G3 s3 eU => ?_
    · rw [List.length_map, List.length_singleton, sizeLine_eq]
      omega
    have sA := s1.trans (s2.trans s3)
    refine ⟨_, rfl, s, C, dx, _, rfl, sA _ _ e0, Z.cl, Z.nP, by show 5 < 1000; decide, ?_⟩
    rw [put_past]
    generalize hG : upd G3 s _ = G4
    have k4 : Kp [s] G3 G4 := hG ▸ kp_upd
    have f4 : G4 s = some (.ins C dx (sflds n a0 b0 U S.busy)) := by rw [← hG]; exact upd_same
    clear hG
    refine ⟨_, rfl, _, rfl, s, C, dx, _, rfl, f4, Z.cl, Z.nT, by show 5 < 1000; decide, ?_⟩
    rw [put_texts]
    generalize hG : upd G4 s _ = G5
    have k5 : Kp [s] G4 G5 := hG ▸ kp_upd
    have f5 : G5 s = some (.ins C dx (sflds n a b0 U S.busy)) := by rw [← hG]; exact upd_same
    clear hG
    refine ⟨_, rfl, _, rfl, s, C, dx, _, rfl, f5, Z.cl, Z.nM, by show 5 < 1000; decide, ?_⟩
    rw [put_names]
    generalize hG : upd G5 s _ = G6
    have k6 : Kp [s] G5 G6 := hG ▸ kp_upd
    have f6 : G6 s = some (.ins C dx (sflds n a b U S.busy)) := by rw [← hG]; exact upd_same
    clear hG
    have kB : Kp [s] G3 G6 := k4.trans (k5.trans k6)
    have kA : Kp [s] H G6 := (Kp.same sA).trans kB
    have m : Muts C N [s] H := fun x hx => .inr ⟨S, by rw [List.mem_singleton.mp hx]; exact hS⟩
    have off : ∀ {H2 : Hp} {x : Addr} {xs : List V}, Same H H2 → H2 x = some (.tup xs) → x ∉ [s] := fun {H2 x xs} h e z => by
      have := h _ _ e0
      rw [List.mem_singleton.mp z, this] at e
      cases e
    refine k G6 kA ⟨dx, n, a, b, U, f6, e1.kp m kA, kA _ _ ha (m.tup ha), hb.kp m kA, qs ++ [(q, S.ps)], ?_, by rw [List.map_append, q1]; rfl, fun x hx => ?_⟩
    · rw [List.map_append]
      exact kB _ _ eU (off sA eU)
    · rcases List.mem_append.mp hx with hx | hx
      · exact (q2 x hx).kp m kA
      · rw [List.mem_singleton.mp hx]
        have eq3 := s3 _ _ (s2 _ _ eq)
        exact ⟨a0, b0, kB _ _ eq3 (off sA eq3), kA _ _ e2 (m.tup e2), e3.kp m kA⟩
end
end Gu
namespace Gu
open PySem PySem.Spec PyProof.Rows L2
theorem cutV_hd (xs : List V) (i : Nat) : cutV xs none (some (i : Int)) = xs.take i := by
  unfold cutV
  rw [HT.sIx_none, HT.sIx_nat, List.drop_zero, Nat.sub_zero, List.take_eq_take_iff]
  omega
theorem cutV_bk (xs : List V) (i : Nat) : cutV xs (some (i : Int)) none = xs.drop i := by
  unfold cutV
  rw [show HT.sIx xs.length xs.length none = xs.length from rfl, HT.sIx_nat]
  rcases Nat.lt_or_ge i xs.length with h | h
  · rw [Nat.min_eq_left (Nat.le_of_lt h), List.take_of_length_le (by rw [List.length_drop]; exact Nat.le_refl _)]
  · rw [Nat.min_eq_right h, Nat.sub_self, List.take_zero, List.drop_eq_nil_of_le h]
theorem noPartS {σ : L2.St} {H : Hp} {Q : Option Int → Hp → Prop} (h : Q none H) : tNoPart σ H Q := h
theorem wd_len {n : Nat} {t : Str} (h : Wd n t) : t.length ≤ n := h.len
section
variable {P : Program} {w : World} {K : PySem.W.Frag} {mg : Str → Option Value} {base : Heap} {C N : Addr}
theorem txts_cat (ps : Prs) (t y : Str) : txts ps ++ [.str t] = txts (ps ++ [(t, y)]) := by
  unfold txts
  rw [List.map_append, List.map_append]
  rfl
theorem nms_cat (ps : Prs) (t y : Str) : nms ps ++ [.str y] = nms (ps ++ [(t, y)]) := by
  unfold nms
  rw [List.map_append, List.map_append]
  rfl
theorem txts_go (ps : Prs) (i : Nat) : (txts ps).take i ++ (txts ps).drop (i + 1) = txts (ps.take i ++ ps.drop (i + 1)) := by
  unfold txts
  rw [List.map_append, List.map_append, List.map_take, List.map_take, List.map_drop, List.map_drop]
theorem nms_go (ps : Prs) (i : Nat) : (nms ps).take i ++ (nms ps).drop (i + 1) = nms (ps.take i ++ ps.drop (i + 1)) := by
  unfold nms
  rw [List.map_append, List.map_append, List.map_take, List.map_take, List.map_drop, List.map_drop]
theorem txts_len (ps : Prs) : (txts ps).length = ps.length := by
  unfold txts
  rw [List.length_map, List.length_map]
theorem nms_len (ps : Prs) : (nms ps).length = ps.length := by
  unfold nms
  rw [List.length_map, List.length_map]
/-! let_come -/
def spLetCome (C N : Addr) : Sp := fun vs H Q _ => ∃ (s : Addr) (t : Str) (S : Sf), vs = [.ref s, .str t] ∧ ShelfAt C N H s S ∧ S.ok ∧ Wd 200 t ∧ S.ps.length < 20 ∧ ∀ G, Kp [s] H G → ShelfAt C N G s (S.come t) → Q (.str (nameOf S.so S.w t S.ps)) G
theorem cal_letCome (B : Bi mg) (Z : ShlC K mg C) (D : MethAt K C "let_come" "Shelf.let_come" s_Shelf_let_come ps_Shelf_let_come) (C_check_text : Cal P w K mg base 2 "check_text" ps_check_text spCheckTextW) (C_name_of_next : Cal P w K mg base 3 "name_of_next" ps_name_of_next (spNextQ K N)) (M_become : CalM P w K mg base 1 C "become" ps_Shelf_become (spBecome C N)) : CalM P w K mg base 4 C "let_come" ps_Shelf_let_come (spLetCome C N) := by
  refine D.cal sc_Shelf_let_come (fun vs H Q E h => ?_) (fun f cdv A outer s H vs Q E hr h => ?_)
  · obtain ⟨s, t, S, rfl, _⟩ := h
    rfl
  · obtain ⟨s, t, S, rfl, hS, ok, wt, l20, k⟩ := h
    have tl := wd_len wt
    refine ⟨_, (pss_cons (ps_expr (pe_own C_check_text hr (by decide) (by rfl) (pa_cons (pv 1) pa_nil)))
      (pss_cons (ps_if (pt_cmpR op_ge (pe_callB call_len_seq (by rfl) B.len (by decide +kernel) (pa_cons (pe_fld (pv 0) rfl) pa_nil)) (pe_cst B.MOST_SHELVED (by rfl)) (nomark _)) pss_never pss_nil)
      (pss_cons (ps_set (i := 2) sc_Shelf_let_come.nd rfl (.inl rfl) (pe_own C_name_of_next hr (by decide) (by rfl) (pa_cons (pe_fld (pv 0) rfl) (pa_cons (pv 1) (pa_cons (pe_fld (pv 0) rfl) (pa_cons (pe_fld (pv 0) rfl) pa_nil))))))
      (pss_cons (ps_expr (pe_mth M_become Z.cl hr (by decide) (pv 0) (pa_cons (pe_op op_catA (pe_fld (pv 0) rfl) (pe_tup (pa_cons (pv 1) pa_nil))) (pa_cons (pe_op op_catF (pe_fld (pv 0) rfl) (pe_tupF (pa_cons (pv 2) pa_nil))) pa_nil))))
      (pss_one (ps_ret (pv 2))))))), ?_⟩
    refine ⟨_, rfl, t, rfl, wt, fun G1 s1 => ?_⟩
    have hS1 := hS.same s1
    obtain ⟨dx, n, a, b, c, e0, e1, e2, e3, e4⟩ := id hS1.ex
    refine ⟨_, rfl, s, C, dx, _, _, rfl, e0, Z.cl, Z.nT, sf_texts, a, _, rfl, .inr (.inl (.inl e2)), _, _, rfl, rfl, _, rfl, ?_⟩
    rw [txts_len, decide_eq_false (show ¬ (20 : Int) ≤ (S.ps.length : Int) by omega)]
    refine iteF ?_
    refine ⟨_, rfl, s, C, dx, _, _, rfl, e0, Z.cl, Z.nN, sf_namer, _, rfl, _, rfl, s, C, dx, _, _, rfl, e0, Z.cl, Z.nT, sf_texts, _, rfl, s, C, dx, _, _, rfl, e0, Z.cl, Z.nM, sf_names, ?_⟩
    refine ⟨n, a, b, S.so, S.w, t, S.ps.map (fun q : Str × Str => q.1), S.ps.map (fun q : Str × Str => q.2), rfl, e1, by omega, .inl (.inl e2), by rw [List.length_map]; omega, fun u hu => ?_, e3.sq, by rw [List.length_map]; omega, fun G2 s2 => ?_⟩
    · obtain ⟨q, hq, rfl⟩ := List.mem_map.mp hu
      exact (ok.ps.wd q hq).1
    rw [nextOf_ps]
    have hS2 := hS1.same s2
    have e0 := s2 _ _ e0
    have e2 := s2 _ _ e2
    have e3 := e3.same s2
    refine ⟨_, rfl, s, dx, _, rfl, e0, rfl, ?_⟩
    refine ⟨_, rfl, s, C, dx, _, _, rfl, e0, Z.cl, Z.nT, sf_texts, _, rfl, by show 1 ≤ sizeLine; decide, fun q nq => ?_⟩
    generalize hG : upd G2 q _ = G3
    have s3 : Same G2 G3 := hG ▸ same_new nq
    have eq : G3 q = some (.tup [.str t]) := by rw [← hG]; exact upd_same
    clear hG
    refine catU (s3 _ _ e2) eq (by rw [txts_len, List.length_singleton, sizeLine_eq]; omega) fun U G4 s4 eU => ?_
    rw [txts_cat S.ps t (nameOf S.so S.w t S.ps)] at eU
    have e0 := s4 _ _ (s3 _ _ e0)
    have e3 := (e3.same s3).same s4
    refine ⟨_, rfl, s, C, dx, _, _, rfl, e0, Z.cl, Z.nM, sf_names, _, rfl, by show 1 ≤ sizeLine; decide, fun u G5 s5 eu nu => ?_⟩
    refine ⟨b, u, _, _, rfl, rfl, e3.same s5, eu, (by rw [nms_len, List.length_singleton, sizeLine_eq]; omega), fun W G6 s6 eW => ?_⟩
    rw [nms_cat S.ps t (nameOf S.so S.w t S.ps)] at eW
    have sA := s3.trans (s4.trans (s5.trans s6))
    refine ⟨s, U, W, S, S.ps ++ [(t, nameOf S.so S.w t S.ps)], rfl, hS2.same sA, by have := ok.few; omega, s6 _ _ (s5 _ _ eU), eW, fun G7 k7 h7 => ?_⟩
    exact ⟨_, rfl, k G7 ((Kp.same (s1.trans (s2.trans sA))).trans k7) h7⟩
/-! let_go -/
def spLetGo (C N : Addr) : Sp := fun vs H Q _ => ∃ (s : Addr) (y t : Str) (S : Sf) (j : Nat), vs = [.ref s, .str y] ∧ ShelfAt C N H s S ∧ S.ok ∧ S.ps[j]? = some (t, y) ∧ (∀ m, m < j → (S.ps.map (·.2))[m]? ≠ some y) ∧ ∀ G, Kp [s] H G → ShelfAt C N G s (S.go j) → Q (.str t) G
theorem cal_letGo (B : Bi mg) (Z : ShlC K mg C) (D : MethAt K C "let_go" "Shelf.let_go" s_Shelf_let_go ps_Shelf_let_go) (M_become : CalM P w K mg base 1 C "become" ps_Shelf_become (spBecome C N)) : CalM P w K mg base 2 C "let_go" ps_Shelf_let_go (spLetGo C N) := by
  refine D.cal sc_Shelf_let_go (fun vs H Q E h => ?_) (fun f cdv A outer s H vs Q E hr h => ?_)
  · obtain ⟨s, y, t, S, j, rfl, _⟩ := h
    rfl
  · obtain ⟨s, y, t, S, j, rfl, hS, ok, hj, first, k⟩ := h
    obtain ⟨dx, n, a, b, c, e0, e1, e2, e3, e4⟩ := id hS.ex
    have jl : j < S.ps.length := (List.getElem?_eq_some_iff.mp hj).1
    have pl := ok.ps.len
    have yin : (S.ps.map (·.2))[j]? = some y := by rw [List.getElem?_map, hj]; rfl
    refine ⟨_, (pss_cons (ps_if (PW.pt (pw_or (pt_not (pt_val (pe_callB call_isi (by rfl) B.isinstance (by decide +kernel) (pa_cons (pv 1) (pa_cons (pe_bltn (v := .ty "str") (by rfl) B.str (by decide +kernel) rfl) pa_nil))))) (pw_or1 (pt_cmpR op_notIn_seq (pv 1) (pe_fld (pv 0) rfl) (by rfl))))) pss_never pss_nil)
      (pss_cons (ps_set (i := 2) sc_Shelf_let_go.nd rfl (.inl rfl) (pe_bmF PySem.F.plainAttrs_tuple PySem.F.slot_tuple_index PySem.F.type_tuple_index L2.mt_tup_index (pe_fld (pv 0) rfl) (pa_cons (pv 1) pa_nil)))
      (pss_cons (ps_set (i := 3) sc_Shelf_let_go.nd rfl (.inl rfl) (pe_ix ix_tup (pe_fld (pv 0) rfl) (pv 2) (fun _ _ => rfl)))
      (pss_cons (ps_expr (pe_mth M_become Z.cl hr (by decide) (pv 0) (pa_cons (pe_op op_catA (pe_slice sl_tupA (pe_fld (pv 0) rfl) po_none (po_some (pv 2))) (pe_slice sl_tupA (pe_fld (pv 0) rfl) (po_some (pe_op op_add (pv 2) pe_int)) po_none)) (pa_cons (pe_op op_catF (pe_slice sl_tupF (pe_fld (pv 0) rfl) po_none (po_some (pv 2))) (pe_slice sl_tupF (pe_fld (pv 0) rfl) (po_some (pe_op op_add (pv 2) pe_int)) po_none)) pa_nil))))
      (pss_one (ps_ret (pv 3))))))), ?_⟩
    obtain ⟨ty, i1, i2⟩ := Isa.str_str (K := K) (H := H) (z := y)
    refine ⟨_, rfl, _, _, ty, _, true, rfl, .ty _, i1, i2, _, rfl, iteF ?_⟩
    refine ⟨_, rfl, _, rfl, s, C, dx, _, _, rfl, e0, Z.cl, Z.nM, sf_names, b, _, rfl, .inr e3.sq, rfl, flat_strs _, _, rfl, ?_⟩
    rw [show inV (V.str y) (nms S.ps) = true by unfold nms; rw [in_strs]; exact decide_eq_true (List.mem_of_getElem? yin)]
    refine iteF ?_
    refine ⟨_, rfl, s, C, dx, _, _, rfl, e0, Z.cl, Z.nM, sf_names, ⟨b, _, rfl, e3⟩, _, rfl, b, S.ps.map (fun q : Str × Str => q.2), y, j, rfl, rfl, e3.sq, yin, first, ?_⟩
    refine ⟨_, rfl, s, C, dx, _, _, rfl, e0, Z.cl, Z.nT, sf_texts, _, rfl, a, _, _, .str t, rfl, rfl, .inl (.inl e2), atI_nat (j := j) (by unfold txts; rw [List.getElem?_map, List.getElem?_map, hj]; rfl), ?_⟩
    refine ⟨_, rfl, s, dx, _, rfl, e0, rfl, ?_⟩
    refine ⟨_, rfl, s, C, dx, _, _, rfl, e0, Z.cl, Z.nT, sf_texts, _, rfl, _, rfl, sl_okU e2 fun U1 G1 s1 f1 => ?_⟩
    rw [cutV_hd] at f1
    refine ⟨_, rfl, s, C, dx, _, _, rfl, s1 _ _ e0, Z.cl, Z.nT, sf_texts, _, rfl, _, _, rfl, rfl, _, rfl, noPartS (sl_okU (s1 _ _ e2) fun U2 G2 s2 f2 => ?_)⟩
    have f2 : G2 U2 = some (.tup (cutV (txts S.ps) (some ((j + 1 : Nat) : Int)) none)) := f2
    rw [cutV_bk] at f2
    refine catU (s2 _ _ f1) f2 ?_ fun U3 G3 s3 f3 => ?_
    · rw [List.length_take, List.length_drop, txts_len, sizeLine_eq]
      omega
    rw [txts_go] at f3
    have s13 := s1.trans (s2.trans s3)
    have e0 := s13 _ _ e0
    have e3 := e3.same s13
    refine ⟨_, rfl, s, C, dx, _, _, rfl, e0, Z.cl, Z.nM, sf_names, _, rfl, _, rfl, b, _, rfl, e3, fun W1 G4 s4 g1 => ?_⟩
    rw [cutV_hd] at g1
    refine ⟨_, rfl, s, C, dx, _, _, rfl, s4 _ _ e0, Z.cl, Z.nM, sf_names, _, rfl, _, _, rfl, rfl, _, rfl, noPartS ⟨b, _, rfl, e3.same s4, fun W2 G5 s5 g2 => ?_⟩⟩
    have g2 : FT G5 W2 (cutV (nms S.ps) (some ((j + 1 : Nat) : Int)) none) := g2
    rw [cutV_bk] at g2
    refine ⟨W1, W2, _, _, rfl, rfl, g1.same s5, g2, ?_, fun W3 G6 s6 g3 => ?_⟩
    · rw [List.length_take, List.length_drop, nms_len, sizeLine_eq]
      omega
    rw [nms_go] at g3
    have s46 := s4.trans (s5.trans s6)
    refine ⟨s, U3, W3, S, S.ps.take j ++ S.ps.drop (j + 1), rfl, hS.same (s13.trans s46), by have := ok.few; omega, s46 _ _ f3, g3, fun G7 k7 h7 => ?_⟩
    exact ⟨_, rfl, k G7 ((Kp.same (s13.trans s46)).trans k7) h7⟩
/-! check_not_busy, add, remove -/
def spCalmS (C N : Addr) : Sp := fun vs H Q _ => ∃ (s : Addr) (S : Sf), vs = [.ref s] ∧ ShelfAt C N H s S ∧ S.busy = false ∧ Q .non H
theorem cal_notBusy (B : Bi mg) (Z : ShlC K mg C) (D : MethAt K C "check_not_busy" "Shelf.check_not_busy" s_Shelf_check_not_busy ps_Shelf_check_not_busy) : CalM P w K mg base 1 C "check_not_busy" ps_Shelf_check_not_busy (spCalmS C N) := by
  refine D.cal sc_Shelf_check_not_busy (fun vs H Q E h => ?_) (fun f cdv A outer s H vs Q E hr h => ?_)
  · obtain ⟨s, S, rfl, _⟩ := h
    rfl
  · obtain ⟨s, S, rfl, hS, bz, k⟩ := h
    obtain ⟨dx, n, a, b, c, e0, _⟩ := id hS.ex
    refine ⟨_, (pss_one (ps_if (pt_val (pe_fld (pv 0) rfl)) pss_never pss_nil)), ?_⟩
    rw [bz] at e0
    exact ⟨_, rfl, s, C, dx, _, _, rfl, e0, Z.cl, Z.nB, sf_busy, _, rfl, iteF k⟩
def spAdd (C N : Addr) : Sp := fun vs H Q _ => ∃ (s : Addr) (t : Str) (S : Sf), vs = [.ref s, .str t] ∧ ShelfAt C N H s S ∧ S.ok ∧ S.busy = false ∧ Wd 200 t ∧ S.ps.length < 20 ∧ ∀ G, Kp [s] H G → ShelfAt C N G s (S.come t) → Q (.str (nameOf S.so S.w t S.ps)) G
theorem cal_add (B : Bi mg) (Z : ShlC K mg C) (D : MethAt K C "add" "Shelf.add" s_Shelf_add ps_Shelf_add) (M_check_not_busy : CalM P w K mg base 1 C "check_not_busy" ps_Shelf_check_not_busy (spCalmS C N)) (M_let_come : CalM P w K mg base 4 C "let_come" ps_Shelf_let_come (spLetCome C N)) : CalM P w K mg base 5 C "add" ps_Shelf_add (spAdd C N) := by
  refine D.cal sc_Shelf_add (fun vs H Q E h => ?_) (fun f cdv A outer s H vs Q E hr h => ?_)
  · obtain ⟨s, t, S, rfl, _⟩ := h
    rfl
  · obtain ⟨s, t, S, rfl, hS, ok, bz, wt, l20, k⟩ := h
    obtain ⟨dx, n, a, b, c, e0, _⟩ := id hS.ex
    refine ⟨_, (pss_cons (ps_expr (pe_mth0 M_check_not_busy Z.cl hr (by decide) (pv 0)))
      (pss_one (ps_ret (pe_mth M_let_come Z.cl hr (by decide) (pv 0) (pa_cons (pv 1) pa_nil))))), ?_⟩
    refine ⟨_, rfl, s, dx, _, rfl, e0, rfl, s, S, rfl, hS, bz, ?_⟩
    exact ⟨_, rfl, s, dx, _, rfl, e0, rfl, _, rfl, s, t, S, rfl, hS, ok, wt, l20, k⟩
def spRemove (C N : Addr) : Sp := fun vs H Q _ => ∃ (s : Addr) (y t : Str) (S : Sf) (j : Nat), vs = [.ref s, .str y] ∧ ShelfAt C N H s S ∧ S.ok ∧ S.busy = false ∧ S.ps[j]? = some (t, y) ∧ (∀ m, m < j → (S.ps.map (·.2))[m]? ≠ some y) ∧ ∀ G, Kp [s] H G → ShelfAt C N G s (S.go j) → Q (.str t) G
theorem cal_remove (B : Bi mg) (Z : ShlC K mg C) (D : MethAt K C "remove" "Shelf.remove" s_Shelf_remove ps_Shelf_remove) (M_check_not_busy : CalM P w K mg base 1 C "check_not_busy" ps_Shelf_check_not_busy (spCalmS C N)) (M_let_go : CalM P w K mg base 2 C "let_go" ps_Shelf_let_go (spLetGo C N)) : CalM P w K mg base 3 C "remove" ps_Shelf_remove (spRemove C N) := by
  refine D.cal sc_Shelf_remove (fun vs H Q E h => ?_) (fun f cdv A outer s H vs Q E hr h => ?_)
  · obtain ⟨s, y, t, S, j, rfl, _⟩ := h
    rfl
  · obtain ⟨s, y, t, S, j, rfl, hS, ok, bz, hj, first, k⟩ := h
    obtain ⟨dx, n, a, b, c, e0, _⟩ := id hS.ex
    refine ⟨_, (pss_cons (ps_expr (pe_mth0 M_check_not_busy Z.cl hr (by decide) (pv 0)))
      (pss_one (ps_ret (pe_mth M_let_go Z.cl hr (by decide) (pv 0) (pa_cons (pv 1) pa_nil))))), ?_⟩
    refine ⟨_, rfl, s, dx, _, rfl, e0, rfl, s, S, rfl, hS, bz, ?_⟩
    exact ⟨_, rfl, s, dx, _, rfl, e0, rfl, _, rfl, s, y, t, S, j, rfl, hS, ok, hj, first, k⟩
end
end Gu
namespace Gu
open PySem PySem.Spec PyProof.Rows L2
/-! ### a Console -/
/-- what word_behind answers -/
def behind (line order : Str) : V := if (Txt.partition line " ").1 = order ∧ (Txt.partition line " ").2.2.length ≠ 0 ∧ 32 ∉ (Txt.partition line " ").2.2.cps.toList then .str (Txt.partition line " ").2.2 else .non
theorem sp_tl : TL.tl (" " : Str) = [32] := by decide +kernel
theorem behind_word {order t : Str} (ho : 32 ∉ TL.tl order) (ht : 32 ∉ TL.tl t) (hl : t.length ≠ 0) : behind (order ++ " " ++ t) order = .str t := by
  unfold behind
  rw [TL.partition_app sp_tl ho]
  exact if_pos ⟨rfl, hl, ht⟩
theorem behind_other {front order t : Str} (ho : 32 ∉ TL.tl front) (ne : front ≠ order) : behind (front ++ " " ++ t) order = .non := by
  unfold behind
  rw [TL.partition_app sp_tl ho]
  exact if_neg fun h => ne h.1
theorem behind_none {line order : Str} (hl : 32 ∉ TL.tl line) : behind line order = .non := by
  unfold behind
  rw [TL.partition_none sp_tl hl]
  exact if_neg fun h => h.2.1 rfl
theorem part_len (x y : Str) : (Txt.partition x y).2.2.length ≤ x.length := by
  rcases PyProof.Rows.partition_whole x y with ⟨e, _⟩ | ⟨i, e, _, _⟩
  · rw [e]
    exact Nat.zero_le _
  · rw [e]
    have a := TL.len_tl (PySem.Builtin.Str.strSub x (i + y.length) x.length)
    have b := TL.len_tl x
    rw [TL.tl_strSub_end, List.length_drop] at a
    show (PySem.Builtin.Str.strSub x (i + y.length) x.length).length ≤ _
    omega
def ConAt (M : Addr) (H : Hp) (c s : Addr) : Prop := ∃ dx, H c = some (.ins M dx [("shelf", .ref s)])
theorem ConAt.same {M : Addr} {H G : Hp} {c s : Addr} (k : Same H G) (h : ConAt M H c s) : ConAt M G c s := by
  obtain ⟨dx, e⟩ := h
  exact ⟨dx, k _ _ e⟩
theorem con_fld {s : Addr} : ([("shelf", V.ref s)] : List (Str × V)).lookup ("shelf" : Str) = some (.ref s) := rfl
theorem nfl_two (so : Str) (w : Int) : (nflds so w).length = 2 := rfl
/-- a shelf stands when one small thing changes -/
theorem ShelfAt.off {C N M dx x s : Addr} {H G : Hp} {fs : List (Str × V)} {S : Sf} (hx : H x = some (.ins M dx fs)) (hf : fs.length ≤ 1) (k : Kp [x] H G) (h : ShelfAt C N H s S) : ShelfAt C N G s S := by
  have no : ∀ {q : Addr}, q ≠ x → q ∉ [x] := fun n z => n (List.mem_singleton.mp z)
  have nt : ∀ {q : Addr} {xs : List V}, H q = some (.tup xs) → q ≠ x := fun e z => by rw [z, hx] at e; cases e
  have tp : ∀ {q : Addr} {xs : List V}, H q = some (.tup xs) → G q = some (.tup xs) := fun e => k _ _ e (no (nt e))
  have ft : ∀ {q : Addr} {xs : List V}, FT H q xs → FT G q xs := fun ⟨o, e, r⟩ => ⟨o, k _ _ e (no fun z => by rw [z, hx] at e; cases e), r⟩
  obtain ⟨d, n, a, b, c, e0, ⟨dn, e1⟩, e2, e3, qs, e4, q1, q2⟩ := h.ex
  refine ⟨d, n, a, b, c, k _ _ e0 (no fun z => ?_), ⟨dn, k _ _ e1 (no fun z => ?_)⟩, tp e2, ft e3, qs, tp e4, q1, fun q hq => ?_⟩
  · rw [z, hx] at e0
    injection e0 with e0
    injection e0 with _ _ e
    rw [e] at hf
    exact absurd hf (by show ¬ (5 ≤ 1); decide)
  · rw [z, hx] at e1
    injection e1 with e1
    injection e1 with _ _ e
    rw [e, nfl_two] at hf
    exact absurd hf (by decide)
  · obtain ⟨a1, b1, f1, f2, f3⟩ := q2 q hq
    exact ⟨a1, b1, tp f1, tp f2, ft f3⟩
structure ConC (K : PySem.W.Frag) (mg : Str → Option Value) (C : Addr) : Prop where
  cl : Cls K C
  nS : NoAttr K C "shelf"
  g : mg "Console" = some (.ref C)
structure ShInitAt (K : PySem.W.Frag) (C : Addr) : Prop where
  ex : ∃ (f : Addr) (fd : FuncData), Mk K C f ∧ Fun K "__init__" "Shelf.__init__" s_Shelf_init f fd ∧ Binds K fd ps_Shelf_init []
structure ConInitAt (K : PySem.W.Frag) (C : Addr) : Prop where
  ex : ∃ (f : Addr) (fd : FuncData), Mk K C f ∧ Fun K "__init__" "Console.__init__" s_Console_init f fd ∧ Binds K fd ps_Console_init []
theorem same_mk {H : Hp} {x dx C : Addr} (nx : H x = none) (nd : H dx = none) (ne : dx ≠ x) : Same H (upd (upd H dx (.own x)) x (.ins C dx [])) := (same_new nd).trans (same_new (by rw [upd_ne fun z => ne z.symm]; exact nx))
section
variable {P : Program} {w : World} {K : PySem.W.Frag} {mg : Str → Option Value} {base : Heap} {C N M : Addr}
theorem mak_sh (B : Bi mg) (S : ShlC K mg C) (D : ShInitAt K C) (C_check_namer : Cal P w K mg base 1 "check_namer" ps_check_namer (spCheckNamer N)) : Mak P w K mg base 2 "Shelf" C (spShInit C N) := by
  obtain ⟨f, fd, M, F, b⟩ := D.ex
  exact ⟨f, fd, ps_Shelf_init, M, ok_shinit B S F C_check_namer, S.g, b⟩
def spBehind : Sp := fun vs H Q _ => ∃ line order : Str, vs = [.str line, .str order] ∧ line.length ≤ sizeLine ∧ ∀ G, Same H G → Q (behind line order) G
theorem cal_behind (B : Bi mg) (D : At K mg "word_behind" s_word_behind ps_word_behind) : Cal P w K mg base 1 "word_behind" ps_word_behind spBehind := by
  refine D.cal sc_word_behind (fun vs H Q E h => ?_) (fun f cdv A outer s H vs Q E hr h => ?_)
  · obtain ⟨l, o, rfl, _⟩ := h
    rfl
  · obtain ⟨l, o, rfl, hl, k⟩ := h
    refine ⟨_, (pss_cons (ps_asg (pe_partition (pv 0) pe_str) (pg_tup rfl (pgs_cons (pg_name (i := 2) sc_word_behind.nd rfl (.inl rfl)) (pgs_cons (pg_name (i := 3) sc_word_behind.nd rfl (.inl rfl)) (pgs_cons (pg_name (i := 4) sc_word_behind.nd rfl (.inl rfl)) pgs_nil)))))
      (pss_cons (ps_if (PW.pt (pw_or (pt_cmpR op_ne (pv 2) (pv 1) (nomark _)) (pw_or (pt_not (pt_truth (pv 4) (fun _ => rfl))) (pw_or1 (pt_cmpR op_in_sign pe_str (pv 4) (by rfl)))))) (pss_one (ps_ret pe_non)) pss_nil)
      (pss_one (ps_ret (pv 4))))), ?_⟩
    refine ⟨_, rfl, ⟨l, rfl⟩, l, _, rfl, rfl, rfl, hl, fun p np => ?_⟩
    generalize hG : upd H p _ = G
    have sG : Same H G := hG ▸ same_new np
    have ep : G p = some (.tup [V.str (Txt.partition l " ").1, V.str (Txt.partition l " ").2.1, V.str (Txt.partition l " ").2.2]) := by rw [← hG]; exact upd_same
    clear hG
    unfold behind at k
    have cl := part_len l " "
    generalize (Txt.partition l " ") = pt at ep k cl
    obtain ⟨a, b, c⟩ := pt
    have cl : c.length ≤ sizeLine := Nat.le_trans cl hl
    have k : Q (if a = o ∧ c.length ≠ 0 ∧ 32 ∉ c.cps.toList then .str c else .non) G := k G sG
    refine ⟨p, _, rfl, .inl (.inl ep), rfl, ?_⟩
    refine ⟨_, _, rfl, _, _, rfl, _, _, rfl, rfl, ?_⟩
    refine ⟨_, rfl, _, rfl, rfl, _, rfl, ?_⟩
    by_cases h1 : a = o
    · rw [show (!decide (V.str a = V.str o)) = false by rw [h1]; simp]
      refine iteF ?_
      by_cases h2 : c.length = 0
      · rw [if_neg fun z => z.2.1 h2] at k
        exact ⟨_, rfl, false, ⟨cl, by show false = ((c.length : Int) != 0); rw [h2]; rfl⟩, iteT (iteT k)⟩
      · refine ⟨_, rfl, true, ⟨cl, ?_⟩, iteF ⟨_, rfl, 32, c, rfl, rfl, _, rfl, ?_⟩⟩
        · show true = ((c.length : Int) != 0)
          simp
          omega
        by_cases h3 : 32 ∈ c.cps.toList
        · rw [if_neg fun z => z.2.2 h3] at k
          rw [decide_eq_true h3]
          exact iteT k
        · rw [if_pos ⟨h1, h2, h3⟩] at k
          rw [decide_eq_false h3]
          exact iteF ⟨_, rfl, k⟩
    · rw [if_neg fun z => h1 z.1] at k
      rw [show (!decide (V.str a = V.str o)) = true by simp [h1]]
      exact iteT (iteT k)
/-! Console.__init__ -/
def spConInit (C N M : Addr) : Sp := fun vs H Q _ => ∃ (x dx n : Addr) (so : Str) (w : Int), vs = [.ref x, .ref n] ∧ H x = some (.ins M dx []) ∧ NmAt N H n so w ∧ ∀ s G, Kp [x] H G → H s = none → ConAt M G x s → ShelfAt C N G s ⟨so, w, [], [], false⟩ → Q .non G
theorem ok_coninit {f : Addr} {fd : FuncData} (B : Bi mg) (S : ConC K mg M) (F : Fun K "__init__" "Console.__init__" s_Console_init f fd) (M_Shelf : Mak P w K mg base 2 "Shelf" C (spShInit C N)) : FnOk P w K mg base CX0 4 f fd ps_Console_init (spConInit C N M) := by
  refine F.ok sc_Console_init (fun vs H Q E h => ?_) (fun cdv A outer s H vs Q E hr h => ?_)
  · obtain ⟨x, dx, n, so, w, rfl, _⟩ := h
    rfl
  · obtain ⟨x, dx, n, so, w, rfl, hx, hN, k⟩ := h
    refine ⟨_, (pss_one (ps_fld (pv 0) (pe_new M_Shelf hr (by decide) (by rfl) (pa_cons (pv 1) pa_nil)) rfl)), ?_⟩
    refine ⟨_, rfl, fun y dy ny nd ne => ?_⟩
    have s1 := same_mk (C := C) ny nd ne
    refine ⟨y, dy, n, so, w, rfl, upd_same, hN.same s1, fun G kG hS => ⟨rfl, ?_⟩⟩
    have yx : y ≠ x := fun z => by rw [z, hx] at ny; cases ny
    have k1 : Kp [x] H G := fun b o e nb => kG _ _ (s1 _ _ e) fun z => by rw [List.mem_singleton.mp z, ny] at e; cases e
    have ex : G x = some (.ins M dx []) := kG _ _ (s1 _ _ hx) fun z => yx (List.mem_singleton.mp z).symm
    refine ⟨_, rfl, x, M, dx, [], rfl, ex, S.cl, S.nS, by decide, ?_⟩
    generalize hG : upd G x _ = G2
    have k2 : Kp [x] G G2 := hG ▸ kp_upd
    have e2 : G2 x = some (.ins M dx [("shelf", .ref y)]) := by rw [← hG]; exact upd_same
    clear hG
    exact k y G2 (k1.trans k2) ny ⟨dx, e2⟩ (hS.off ex (by decide) k2)
theorem mak_con (B : Bi mg) (S : ConC K mg M) (D : ConInitAt K M) (M_Shelf : Mak P w K mg base 2 "Shelf" C (spShInit C N)) : Mak P w K mg base 4 "Console" M (spConInit C N M) := by
  obtain ⟨f, fd, J, F, b⟩ := D.ex
  exact ⟨f, fd, ps_Console_init, J, ok_coninit B S F M_Shelf, S.g, b⟩
end
end Gu
namespace Gu
open PySem PySem.Spec PyProof.Rows L2
section
variable {X : Cx} {n : Nat} {C f : Addr} {fd : FuncData} {ps : List Str} {sp : Sp}
/-- len of what has its own __len__ -/
theorem call_lenOwn (F : FnOk X.prog X.w X.K X.mg X.base CX0 n f fd ps sp) (hb : Binds X.K fd ps []) (hr : Room (n + 1) X.A) (hs : PySem.W.findIn X.K (.ref C) "__len__" = some (some (.ref f))) (hf : PySem.W.isFn X.K (.ref f) = true) :
    CallR X (.builtin "len") (fun vs H Q => ∃ (a dx : Addr) (fs : List (Str × V)), vs = [.ref a] ∧ H a = some (.ins C dx fs) ∧ sp [.ref a] H (fun v G => ∃ z : Int, v = .int z ∧ (0 ≤ z ∧ z < 2 ^ 63) ∧ Q (.int z) G) E0) := by
  intro pins s σ H vs us Q I r h
  obtain ⟨a, dx, fs, rfl, ha, want⟩ := h
  cases r with
  | cons r rr =>
    cases rr
    cases (show _ = Value.ref a from r)
    obtain ⟨m1, J, _⟩ := ins_get I.hok ha
    obtain ⟨od, J, _⟩ := J.look
    obtain ⟨m, fr⟩ := I.fr
    refine PySem.W.len_K fr I.ok.mod.kin J hs hf ?_
    have e0 : Env0 X.prog X.w X.K X.mg X.base X.A.in1 X.stack s H := I.env0.in1
    have bt := hb s [.ref a] I.kIn (F.len _ _ _ _ want)
    rw [List.append_nil] at bt
    refine wpAny_call (codeAny_mono (F.run X.A.in1 X.stack s H ⟨[.ref a], []⟩ [.ref a] [.ref a] _ E0 hr.in1 e0 bt (.cons rfl .nil) want) fun r s1 h1 => ?_)
    cases r with
    | error e => exact (h1 : False).elim
    | ok fl =>
      cases fl with
      | ret v =>
        obtain ⟨z, G, I1, rz, b, rfl, z0, q⟩ := I.after h1
        obtain ⟨tk, rfl⟩ := rz
        exact ⟨z0, .int b, G, I1.tok _, ⟨_, rfl⟩, q⟩
      | next => exact (h1 : False).elim
      | brk => exact (h1 : False).elim
      | cont => exact (h1 : False).elim
end
section
variable {P : Program} {w : World} {K : PySem.W.Frag} {mg : Str → Option Value} {base : Heap} {C N M : Addr}
def spLenS (C N : Addr) : Sp := fun vs H Q _ => ∃ (s : Addr) (S : Sf), vs = [.ref s] ∧ ShelfAt C N H s S ∧ S.ok ∧ Q (.int (S.ps.length : Nat)) H
theorem ok_lenS {f : Addr} {fd : FuncData} (B : Bi mg) (Z : ShlC K mg C) (F : Fun K "__len__" "Shelf.__len__" s_Shelf_len f fd) : FnOk P w K mg base CX0 1 f fd ps_Shelf_len (spLenS C N) := by
  refine F.ok sc_Shelf_len (fun vs H Q E h => ?_) (fun cdv A outer s H vs Q E hr h => ?_)
  · obtain ⟨s, S, rfl, _⟩ := h
    rfl
  · obtain ⟨s, S, rfl, hS, ok, k⟩ := h
    obtain ⟨dx, n, a, b, c, e0, e1, e2, e3, e4⟩ := id hS.ex
    refine ⟨_, (pss_one (ps_ret (pe_callB call_len_seq (by rfl) B.len (by decide +kernel) (pa_cons (pe_fld (pv 0) rfl) pa_nil)))), ?_⟩
    refine ⟨_, rfl, s, C, dx, _, _, rfl, e0, Z.cl, Z.nT, sf_texts, a, _, rfl, .inr (.inl (.inl e2)), ?_⟩
    rw [txts_len]
    exact k
theorem mid_id {t : TE} {σ : L2.St} {H : Hp} {Q : VK} (h : t σ H Q) : tMid t σ H Q := ⟨Q, h, fun _ _ q => q⟩
theorem dds_mapC {α β : Type} [DecidableEq α] [DecidableEq β] {f : α → β} (inj : ∀ a b, f a = f b → a = b) (xs : List α) : dds (xs.map f) = (dds xs).map f := by
  have main : ∀ (xs acc : List α), (xs.map f).foldl (fun acc k => if k ∈ acc then acc else acc ++ [k]) (acc.map f) = (xs.foldl (fun acc k => if k ∈ acc then acc else acc ++ [k]) acc).map f := by
    intro xs
    induction xs with
    | nil => intro acc; rfl
    | cons a xs ih =>
      intro acc
      rw [List.map_cons, List.foldl_cons, List.foldl_cons]
      by_cases h : a ∈ acc
      · rw [if_pos h, if_pos (List.mem_map_of_mem h), ih]
      · rw [if_neg h, if_neg fun z => by
          obtain ⟨b, hb, e⟩ := List.mem_map.mp z
          exact h (inj _ _ e ▸ hb)]
        rw [show acc.map f ++ [f a] = (acc ++ [a]).map f by rw [List.map_append]; rfl, ih]
  exact main xs []
theorem keysC_len (zs : List Str) : (dds (zs.map (Sum.inr : Str → Key))).length = (dds zs).length := by
  rw [dds_mapC (fun a b h => Sum.inr.inj h), List.length_map]
theorem keysC_v (zs : List Str) : (zs.map (Sum.inr : Str → Key)).map kV = zs.map V.str := by
  rw [List.map_map]
  rfl
/-! what a console answers -/
def spAnsAdd (C N M : Addr) : Sp := fun vs H Q _ => ∃ (c s : Addr) (t : Str) (S : Sf), vs = [.ref c, .str t] ∧ ConAt M H c s ∧ ShelfAt C N H s S ∧ S.ok ∧ S.busy = false ∧ Wd 200 t ∧ S.ps.length < 20 ∧ ∀ G, Kp [s] H G → ShelfAt C N G s (S.come t) → Q (.str (nameOf S.so S.w t S.ps)) G
theorem cal_ansAdd (B : Bi mg) (Y : ConC K mg M) (Z : ShlC K mg C) (D : MethAt K M "answer_add" "Console.answer_add" s_Console_answer_add ps_Console_answer_add) (M_add : CalM P w K mg base 5 C "add" ps_Shelf_add (spAdd C N)) : CalM P w K mg base 6 M "answer_add" ps_Console_answer_add (spAnsAdd C N M) := by
  refine D.cal sc_Console_answer_add (fun vs H Q E h => ?_) (fun f cdv A outer s H vs Q E hr h => ?_)
  · obtain ⟨c, s, t, S, rfl, _⟩ := h
    rfl
  · obtain ⟨c, s, t, S, rfl, ⟨dc, hc⟩, hS, ok, bz, wt, l20, k⟩ := h
    obtain ⟨dx, n, a, b, p, e0, _⟩ := id hS.ex
    refine ⟨_, (pss_one (ps_try_thru0 (pss_one (ps_ret (pe_mth M_add Z.cl hr (by decide) (pe_fld (pv 0) rfl) (pa_cons (pv 1) pa_nil)))))), ?_⟩
    refine ⟨_, rfl, c, M, dc, _, _, rfl, hc, Y.cl, Y.nS, con_fld, s, dx, _, rfl, e0, rfl, _, rfl, s, t, S, rfl, hS, ok, bz, wt, l20, k⟩
def spAnsRem (C N M : Addr) : Sp := fun vs H Q _ => ∃ (c s : Addr) (y t : Str) (S : Sf) (j : Nat), vs = [.ref c, .str y] ∧ ConAt M H c s ∧ ShelfAt C N H s S ∧ S.ok ∧ S.busy = false ∧ S.ps[j]? = some (t, y) ∧ (∀ m, m < j → (S.ps.map (·.2))[m]? ≠ some y) ∧ ∀ G, Kp [s] H G → ShelfAt C N G s (S.go j) → Q (.str t) G
theorem cal_ansRem (B : Bi mg) (Y : ConC K mg M) (Z : ShlC K mg C) (D : MethAt K M "answer_remove" "Console.answer_remove" s_Console_answer_remove ps_Console_answer_remove) (M_remove : CalM P w K mg base 3 C "remove" ps_Shelf_remove (spRemove C N)) : CalM P w K mg base 4 M "answer_remove" ps_Console_answer_remove (spAnsRem C N M) := by
  refine D.cal sc_Console_answer_remove (fun vs H Q E h => ?_) (fun f cdv A outer s H vs Q E hr h => ?_)
  · obtain ⟨c, s, y, t, S, j, rfl, _⟩ := h
    rfl
  · obtain ⟨c, s, y, t, S, j, rfl, ⟨dc, hc⟩, hS, ok, bz, hj, first, k⟩ := h
    obtain ⟨dx, n, a, b, p, e0, _⟩ := id hS.ex
    refine ⟨_, (pss_one (ps_try_thru0 (pss_one (ps_ret (pe_mth M_remove Z.cl hr (by decide) (pe_fld (pv 0) rfl) (pa_cons (pv 1) pa_nil)))))), ?_⟩
    refine ⟨_, rfl, c, M, dc, _, _, rfl, hc, Y.cl, Y.nS, con_fld, s, dx, _, rfl, e0, rfl, _, rfl, s, y, t, S, j, rfl, hS, ok, bz, hj, first, k⟩
def saidNames (ps : Prs) : Str := if ps.length = 0 then "none" else Txt.join " " (ps.map (·.2))
theorem names_sum (ps : Prs) (h : PrsOk ps) : ((ps.map (·.2)).map (·.length)).sum + (ps.map (·.2)).length * (" " : Str).length ≤ 16777216 := by
  have : ∀ l : Prs, (∀ q ∈ l, Wd 203 q.2) → ((l.map (·.2)).map (·.length)).sum ≤ l.length * 203 := by
    intro l
    induction l with
    | nil => intro _; exact Nat.le_refl _
    | cons a l ih =>
      intro hl
      have h1 := ih fun q hq => hl q (List.mem_cons_of_mem _ hq)
      have h2 := wd_len (hl a (List.mem_cons_self ..))
      rw [List.map_cons, List.map_cons, List.sum_cons, List.length_cons]
      omega
  have h1 := this ps fun q hq => (h.wd q hq).2
  have h2 := h.len
  rw [List.length_map, show (" " : Str).length = 1 from rfl]
  omega
def spAnsNames (C N M : Addr) : Sp := fun vs H Q _ => ∃ (c s : Addr) (S : Sf), vs = [.ref c] ∧ ConAt M H c s ∧ ShelfAt C N H s S ∧ S.ok ∧ Q (.str (saidNames S.ps)) H
theorem cal_ansNames (B : Bi mg) (Y : ConC K mg M) (Z : ShlC K mg C) (D : MethAt K M "answer_names" "Console.answer_names" s_Console_answer_names ps_Console_answer_names) : CalM P w K mg base 1 M "answer_names" ps_Console_answer_names (spAnsNames C N M) := by
  refine D.cal sc_Console_answer_names (fun vs H Q E h => ?_) (fun f cdv A outer s H vs Q E hr h => ?_)
  · obtain ⟨c, s, S, rfl, _⟩ := h
    rfl
  · obtain ⟨c, s, S, rfl, ⟨dc, hc⟩, hS, ok, k⟩ := h
    obtain ⟨dx, n, a, b, p, e0, e1, e2, e3, _⟩ := id hS.ex
    refine ⟨_, (pss_one (ps_ret (pe_mid (pe_ifExp (pt_truth (pe_fld (pe_fld (pv 0) rfl) rfl) (fun _ => rfl)) (pe_join pe_str (pe_fld (pe_fld (pv 0) rfl) rfl)) pe_str)))), ?_⟩
    refine mid_id ?_
    refine ⟨_, rfl, c, M, dc, _, _, rfl, hc, Y.cl, Y.nS, con_fld, s, C, dx, _, _, rfl, e0, Z.cl, Z.nM, sf_names, !(nms S.ps).isEmpty, .inr (.inl ⟨_, e3.sq, rfl⟩), ?_⟩
    unfold saidNames at k
    by_cases h : S.ps.length = 0
    · rw [if_pos h] at k
      rw [show (!(nms S.ps).isEmpty) = false by rw [List.eq_nil_of_length_eq_zero h]; rfl]
      exact iteF k
    · rw [if_neg h] at k
      rw [show (!(nms S.ps).isEmpty) = true by
        cases hp : S.ps with
        | nil => exact absurd (by rw [hp]; rfl) h
        | cons a l => rfl]
      exact iteT ⟨⟨_, rfl⟩, _, rfl, c, M, dc, _, _, rfl, hc, Y.cl, Y.nS, con_fld, s, C, dx, _, _, rfl, e0, Z.cl, Z.nM, sf_names, " ", b, S.ps.map (fun q : Str × Str => q.2), rfl, rfl, .inr e3.sq, names_sum S.ps ok.ps, k⟩
def spAnsMeet (C N M : Addr) : Sp := fun vs H Q _ => ∃ (c s : Addr) (S : Sf), vs = [.ref c] ∧ ConAt M H c s ∧ ShelfAt C N H s S ∧ S.ok ∧ Q (.str (if (dds (S.ps.map (·.2))).length < S.ps.length then "yes" else "no")) H
theorem cal_ansMeet (B : Bi mg) (Y : ConC K mg M) (Z : ShlC K mg C) (D : MethAt K M "answer_meet" "Console.answer_meet" s_Console_answer_meet ps_Console_answer_meet) : CalM P w K mg base 1 M "answer_meet" ps_Console_answer_meet (spAnsMeet C N M) := by
  refine D.cal sc_Console_answer_meet (fun vs H Q E h => ?_) (fun f cdv A outer s H vs Q E hr h => ?_)
  · obtain ⟨c, s, S, rfl, _⟩ := h
    rfl
  · obtain ⟨c, s, S, rfl, ⟨dc, hc⟩, hS, ok, k⟩ := h
    obtain ⟨dx, n, a, b, p, e0, e1, e2, e3, _⟩ := id hS.ex
    refine ⟨_, (pss_one (ps_ret (pe_mid (pe_ifExp (pt_cmpR op_lt (pe_lenSetK (by rfl) B.len (by rfl) B.set (pe_fld (pe_fld (pv 0) rfl) rfl)) (pe_callB call_len_seq (by rfl) B.len (by decide +kernel) (pa_cons (pe_fld (pe_fld (pv 0) rfl) rfl) pa_nil)) (nomark _)) pe_str pe_str)))), ?_⟩
    have ek : nms S.ps = ((S.ps.map (fun q : Str × Str => q.2)).map (Sum.inr : Str → Key)).map kV := (keysC_v _).symm
    have pl := ok.ps.len
    refine mid_id ?_
    refine ⟨_, rfl, c, M, dc, _, _, rfl, hc, Y.cl, Y.nS, con_fld, s, C, dx, _, _, rfl, e0, Z.cl, Z.nM, sf_names, b, (S.ps.map (fun q : Str × Str => q.2)).map .inr, rfl, .inr (ek ▸ e3.sq), by rw [List.length_map, List.length_map]; omega, ?_⟩
    refine ⟨_, rfl, c, M, dc, _, _, rfl, hc, Y.cl, Y.nS, con_fld, s, C, dx, _, _, rfl, e0, Z.cl, Z.nM, sf_names, b, _, rfl, .inr e3.sq, _, _, rfl, rfl, _, rfl, ?_⟩
    rw [nms_len, keysC_len]
    by_cases h : (dds (S.ps.map (fun q : Str × Str => q.2))).length < S.ps.length
    · rw [if_pos h] at k
      rw [decide_eq_true (by omega)]
      exact iteT k
    · rw [if_neg h] at k
      rw [decide_eq_false (by omega)]
      exact iteF k
end
end Gu
namespace Gu
open PySem PySem.Spec PyProof.Rows L2
section
variable {P : Program} {w : World} {K : PySem.W.Frag} {mg : Str → Option Value} {base : Heap} {C N M : Addr}
def saidMeet (ps : Prs) : Str := if (dds (ps.map (·.2))).length < ps.length then "yes" else "no"
/-- what a line asks of a console: texts that come, names that go, names, whether they meet -/
def SayOk (C N : Addr) (s : Addr) (S : Sf) (line : Str) (H : Hp) (Q : VK) : Prop :=
  (∃ t, behind line "add" = .str t ∧ Wd 200 t ∧ S.ps.length < 20 ∧ ∀ G, Kp [s] H G → ShelfAt C N G s (S.come t) → Q (.str (nameOf S.so S.w t S.ps)) G) ∨
  (behind line "add" = .non ∧ ∃ y t j, behind line "remove" = .str y ∧ S.ps[j]? = some (t, y) ∧ (∀ m, m < j → (S.ps.map (·.2))[m]? ≠ some y) ∧ ∀ G, Kp [s] H G → ShelfAt C N G s (S.go j) → Q (.str t) G) ∨
  (behind line "add" = .non ∧ behind line "remove" = .non ∧ line = "names" ∧ ∀ G, Same H G → Q (.str (saidNames S.ps)) G) ∨
  (behind line "add" = .non ∧ behind line "remove" = .non ∧ line = "meet" ∧ ∀ G, Same H G → Q (.str (saidMeet S.ps)) G)
def spSay (C N M : Addr) : Sp := fun vs H Q _ => ∃ (c s : Addr) (line : Str) (S : Sf), vs = [.ref c, .str line] ∧ line.length ≤ sizeLine ∧ ConAt M H c s ∧ ShelfAt C N H s S ∧ S.ok ∧ S.busy = false ∧ SayOk C N s S line H Q
theorem cal_say (B : Bi mg) (Y : ConC K mg M) (Z : ShlC K mg C) (D : MethAt K M "say" "Console.say" s_Console_say ps_Console_say) (C_word_behind : Cal P w K mg base 1 "word_behind" ps_word_behind spBehind)
    (M_answer_add : CalM P w K mg base 6 M "answer_add" ps_Console_answer_add (spAnsAdd C N M)) (M_answer_remove : CalM P w K mg base 4 M "answer_remove" ps_Console_answer_remove (spAnsRem C N M)) (M_answer_names : CalM P w K mg base 1 M "answer_names" ps_Console_answer_names (spAnsNames C N M)) (M_answer_meet : CalM P w K mg base 1 M "answer_meet" ps_Console_answer_meet (spAnsMeet C N M)) :
    CalM P w K mg base 7 M "say" ps_Console_say (spSay C N M) := by
  refine D.cal sc_Console_say (fun vs H Q E h => ?_) (fun f cdv A outer s0 H vs Q E hr h => ?_)
  · obtain ⟨c, s, line, S, rfl, _⟩ := h
    rfl
  · obtain ⟨c, s, line, S, rfl, ll, hc, hS, ok, bz, say⟩ := h
    obtain ⟨dc, hc0⟩ := id hc
    refine ⟨_, (pss_cons (ps_if (pt_not (pt_val (pe_callB call_isi (by rfl) B.isinstance (by decide +kernel) (pa_cons (pv 1) (pa_cons (pe_bltn (v := .ty "str") (by rfl) B.str (by decide +kernel) rfl) pa_nil))))) pss_never pss_nil)
      (pss_cons (ps_set (i := 2) sc_Console_say.nd rfl (.inl rfl) (pe_own C_word_behind hr (by decide) (by rfl) (pa_cons (pv 1) (pa_cons pe_str pa_nil))))
      (pss_cons (ps_if (pt_cmpR op_notN (pv 2) pe_non (nomark _)) (pss_one (ps_ret (pe_mth M_answer_add Y.cl hr (by decide) (pv 0) (pa_cons (pv 2) pa_nil)))) pss_nil)
      (pss_cons (ps_set (i := 3) sc_Console_say.nd rfl (.inl rfl) (pe_own C_word_behind hr (by decide) (by rfl) (pa_cons (pv 1) (pa_cons pe_str pa_nil))))
      (pss_cons (ps_if (pt_cmpR op_notN (pv 3) pe_non (nomark _)) (pss_one (ps_ret (pe_mth M_answer_remove Y.cl hr (by decide) (pv 0) (pa_cons (pv 3) pa_nil)))) pss_nil)
      (pss_cons (ps_if (pt_cmpR op_eq (pv 1) pe_str (nomark _)) (pss_one ps_never) pss_nil)
      (pss_cons (ps_if (pt_cmpR op_eq (pv 1) pe_str (nomark _)) (pss_one (ps_ret (pe_mth0 M_answer_names Y.cl hr (by decide) (pv 0)))) pss_nil)
      (pss_cons (ps_if (pt_cmpR op_eq (pv 1) pe_str (nomark _)) (pss_one (ps_ret (pe_mth0 M_answer_meet Y.cl hr (by decide) (pv 0)))) pss_nil)
      pss_never)))))))), ?_⟩
    obtain ⟨ty, i1, i2⟩ := Isa.str_str (K := K) (H := H) (z := line)
    refine ⟨_, rfl, _, _, ty, _, true, rfl, .ty _, i1, i2, _, rfl, iteF ?_⟩
    refine ⟨_, rfl, line, _, rfl, ll, fun G1 s1 => ?_⟩
    have go : ∀ {G : Hp} {c : Addr}, Same H G → H c = some (.ins M dc [("shelf", .ref s)]) → G c = some (.ins M dc [("shelf", .ref s)]) := fun s1 e => s1 _ _ e
    rcases say with ⟨t, e1, wt, l20, k⟩ | ⟨e1, y, t, j, e2, hj, first, k⟩ | ⟨e1, e2, rfl, k⟩ | ⟨e1, e2, rfl, k⟩
    · rw [e1]
      refine ⟨_, rfl, rfl, _, rfl, iteT ?_⟩
      exact ⟨_, rfl, c, dc, _, rfl, go s1 hc0, rfl, _, rfl, c, s, t, S, rfl, hc.same s1, hS.same s1, ok, bz, wt, l20, fun G kG hG => k G ((Kp.same s1).trans kG) hG⟩
    · rw [e1]
      refine ⟨_, rfl, rfl, _, rfl, iteF ?_⟩
      refine ⟨_, rfl, line, _, rfl, ll, fun G2 s2 => ?_⟩
      rw [e2]
      refine ⟨_, rfl, rfl, _, rfl, iteT ?_⟩
      have s12 := s1.trans s2
      exact ⟨_, rfl, c, dc, _, rfl, go s12 hc0, rfl, _, rfl, c, s, y, t, S, j, rfl, hc.same s12, hS.same s12, ok, bz, hj, first, fun G kG hG => k G ((Kp.same s12).trans kG) hG⟩
    · rw [e1]
      refine ⟨_, rfl, rfl, _, rfl, iteF ?_⟩
      refine ⟨_, rfl, _, _, rfl, ll, fun G2 s2 => ?_⟩
      rw [e2]
      refine ⟨_, rfl, rfl, _, rfl, iteF ?_⟩
      have s12 := s1.trans s2
      refine ⟨_, rfl, rfl, _, rfl, iteF ?_⟩
      refine ⟨_, rfl, rfl, _, rfl, iteT ?_⟩
      exact ⟨_, rfl, c, dc, _, rfl, go s12 hc0, rfl, c, s, S, rfl, hc.same s12, hS.same s12, ok, k _ s12⟩
    · rw [e1]
      refine ⟨_, rfl, rfl, _, rfl, iteF ?_⟩
      refine ⟨_, rfl, _, _, rfl, ll, fun G2 s2 => ?_⟩
      rw [e2]
      refine ⟨_, rfl, rfl, _, rfl, iteF ?_⟩
      have s12 := s1.trans s2
      refine ⟨_, rfl, rfl, _, rfl, iteF ?_⟩
      refine ⟨_, rfl, rfl, _, rfl, iteF ?_⟩
      refine ⟨_, rfl, rfl, _, rfl, iteT ?_⟩
      exact ⟨_, rfl, c, dc, _, rfl, go s12 hc0, rfl, c, s, S, rfl, hc.same s12, hS.same s12, ok, k _ s12⟩
end
end Gu
namespace Gu
open PySem PySem.Spec PyProof.Rows L2
/-- the pairs of a shelf as the law holds them -/
def HeldAt (H : Hp) (l : Addr) (ps : Prs) : Prop := ∃ qs : List (Addr × Str × Str), PairsAt H l qs ∧ qs.map (·.2) = ps
theorem HeldAt.same {H G : Hp} {l : Addr} {ps : Prs} (s : Same H G) (h : HeldAt H l ps) : HeldAt G l ps := by
  obtain ⟨qs, a, b⟩ := h
  exact ⟨qs, a.same s, b⟩
theorem Muts.lst {C N : Addr} {l : List Addr} {H : Hp} (m : Muts C N l H) {q : Addr} {qs : List (Addr × Str × Str)} (e : H q = some (.lst (qs.map fun q => V.ref q.1))) : q ∉ l := fun hq => by
  rcases m q hq with ⟨x, y, z, f⟩ | ⟨S, h⟩
  · rw [e] at f
    injection f with f
    injection f with f
    cases qs with
    | nil => cases f
    | cons a qs => cases f
  · obtain ⟨_, _, _, _, _, f, _⟩ := h.ex
    rw [e] at f
    cases f
theorem HeldAt.kp {C N : Addr} {l : List Addr} {H G : Hp} (m : Muts C N l H) (k : Kp l H G) {a : Addr} {ps : Prs} (h : HeldAt H a ps) : HeldAt G a ps := by
  obtain ⟨qs, hP, b⟩ := h
  exact ⟨qs, ⟨k _ _ hP.ls (m.lst hP.ls), fun q hq => k _ _ (hP.tp q hq) (m.tup (hP.tp q hq))⟩, b⟩
theorem count_is (w : Int) (t : Str) (n : Int) : numbered "count" w t n = (nbase w t ++ "~") ++ (toString n : String) := by
  rw [numbered_other (by decide)]
  exact TL.ext_tl (by unfold ending; rw [TL.tl_append, TL.tl_append, TL.tl_append, TL.tl_append, List.append_assoc])
theorem first_at {p : Nat → Bool} {n j : Nat} (hj : j < n) (pj : p j = true) (fj : ∀ m, m < j → p m = false) : ((List.range n).filter p)[0]? = some j := by
  rw [← List.head?_eq_getElem?, List.head?_filter, List.find?_range_eq_some]
  exact ⟨pj, List.mem_range.mpr hj, fun m hm => by rw [fj m hm]; rfl⟩
section
variable {P : Program} {w : World} {K : PySem.W.Frag} {mg : Str → Option Value} {base : Heap} {C N M : Addr}
/-! _law_come -/
def spCome (C N : Addr) : Sp := fun vs H Q _ => ∃ (s l : Addr) (t : Str) (S : Sf), vs = [.ref s, .ref l, .int S.w, .str t] ∧ ShelfAt C N H s S ∧ S.ok ∧ S.busy = false ∧ S.so = "count" ∧ HeldAt H l S.ps ∧ Wd 200 t ∧ S.ps.length < 20 ∧ ∀ G l', Kp [s] H G → ShelfAt C N G s (S.come t) → HeldAt G l' (S.come t).ps → Q (.ref l') G
theorem cal_come (B : Bi mg) (Z : ShlC K mg C) (D : At K mg "_law_come" s_law_come ps_law_come) (M_add : CalM P w K mg base 5 C "add" ps_Shelf_add (spAdd C N)) : Cal P w K mg base 6 "_law_come" ps_law_come (spCome C N) := by
  refine D.cal sc_law_come (fun vs H Q E h => ?_) (fun f cdv A outer s0 H vs Q E hr h => ?_)
  · obtain ⟨s, l, t, S, rfl, _⟩ := h
    rfl
  · obtain ⟨s, l, t, S, rfl, hS, ok, bz, hc, ⟨qs, hP, hq⟩, wt, l20, k⟩ := h
    have tl : t.length ≤ 200 := wt.len
    have ql : qs.length = S.ps.length := by rw [← hq, List.length_map]
    have wq : ∀ q ∈ qs, Wd 200 q.2.1 := fun q hq1 => (ok.ps.wd q.2 (hq ▸ List.mem_map_of_mem hq1)).1
    obtain ⟨dx, n, a, b, c, e0, _⟩ := id hS.ex
    refine ⟨_, (pss_cons (ps_set (i := 4) sc_law_come.nd rfl (.inr rfl) (pe_slice sl_str (pv 3) po_none (po_some (pv 2))))
      (pss_cons (ps_set (i := 5) sc_law_come.nd rfl (.inl rfl) (pe_op op_add pe_int (pe_callB call_len (by rfl) B.len (by decide +kernel) (pa_cons (pe_lc (own := [("_law_pair", 7)]) (by rfl) sc_law_come.nd (pi_list (pv 1)) (blkOk_by (own := [("_law_pair", 7)]) (N := ["_law_mine", "_law_held", "_law_size", "_law_text_here", "_law_base", "_law_count", "_law_due", "_law_pair"]) (sc := defScope s_law_come) (by decide +kernel)) (fun _ _ _ _ _ => pg_name (i := 7) sc_law_come.nd rfl (.inl rfl)) (fun _ _ _ _ _ => (pts_one (pt_cmpR op_eq (pe_slice sl_str (pe_ix (r := rIxT K) ix_tup (pv 7) pe_int (fun _ _ => rfl)) po_none (po_some (pv 2))) (pv 4) (nomark _)))) (fun _ _ _ _ _ => (pv 7))) pa_nil))))
      (pss_cons (ps_set (i := 6) sc_law_come.nd rfl (.inl rfl) (pe_mid (pe_ifExp (pt_cmpR op_eq (pv 5) pe_int (nomark _)) (pv 4) (pe_op op_add_str (pe_op op_add_str (pv 4) pe_str) (pe_callTy call_str_int (by rfl) B.str (by decide +kernel) (pa_cons (pv 5) pa_nil))))))
      (pss_one (ps_ret (pe_mid (pe_ifExp (pt_cmpR op_eq (pe_mth M_add Z.cl hr (by decide) (pv 0) (pa_cons (pv 3) pa_nil)) (pv 6) (nomark _)) (pe_op op_cat (pv 1) (pe_lst (pa_cons (pe_tup (pa_cons (pv 3) (pa_cons (pv 6) pa_nil))) pa_nil))) pe_non))))))), ?_⟩
    refine ⟨_, rfl, _, rfl, S.w, rfl, t, rfl, Nat.le_of_lt (small1000 (by omega)), ?_⟩
    rw [show cutS t none (some S.w) = nbase S.w t from rfl]
    refine ⟨_, rfl, l, rfl, ⟨_, .inl (.inl hP.ls)⟩, fun M nM => lc_list (K := K) (a := l) (xs := qs.map fun q => V.ref q.1) (fun i J => J M = some (.lst (((qs.take i).filter fun q => decide (nbase S.w q.2.1 = nbase S.w t)).map fun q => V.ref q.1)) ∧ Same H J)
      ⟨upd_same, same_new nM⟩ (fun i J _ ⟨_, sJ⟩ => .inl (.inl (sJ _ _ hP.ls))) ?_ ?_⟩
    · rintro i v J hi ⟨eM, sJ⟩
      obtain ⟨q, hq, rfl, mq⟩ := ref_at hi
      have tq := sJ _ _ (hP.tp q mq)
      have ql2 : q.2.1.length ≤ 200 := (wq q mq).len
      refine ⟨rfl, _, rfl, q.1, _, _, _, rfl, rfl, .inl (.inl tq), (rfl : atI [V.str q.2.1, V.str q.2.2] 0 = some (V.str q.2.1)), _, rfl, S.w, rfl, q.2.1, rfl, Nat.le_of_lt (small1000 (by omega)), _, rfl, rfl, _, rfl, ?_⟩
      rw [show cutS q.2.1 none (some S.w) = nbase S.w q.2.1 from rfl, str_eq_iff]
      refine ite2 (fun hb => ?_) (fun hb => ?_)
      · refine ⟨_, rfl, _, eM, small1000 ?_, ?_, same_off sJ nM⟩
        · rw [List.length_map]
          refine Nat.le_trans (List.length_filter_le ..) ?_
          rw [List.length_take]
          omega
        · rw [upd_same, take_next hq, List.filter_append, List.map_append, List.filter_cons, hb]
          rfl
      · refine ⟨?_, sJ⟩
        rw [eM, take_next hq, List.filter_append, List.filter_cons, Bool.eq_false_iff.mpr hb]
        simp only [Bool.false_eq_true, if_false, List.filter_nil, List.append_nil]
    · rintro J ⟨eM, sJ⟩
      rw [List.length_map, List.take_length] at eM
      have ml := mates_len S.w t qs
      rw [hq] at ml
      have m20 : (mates S.w t S.ps).length ≤ S.ps.length := List.length_filter_le ..
      refine ⟨_, _, rfl, .inl ⟨_, .inl (.inl eM), rfl⟩, _, _, rfl, rfl, ?_⟩
      rw [List.length_map, ← ml]
      refine ⟨fun v J1 => v = .str (nameOf S.so S.w t S.ps) ∧ J1 = J, ?_, ?_⟩
      · refine ⟨_, rfl, rfl, _, rfl, ite2 (fun h1 => ?_) (fun h1 => ?_)⟩
        · refine ⟨_, rfl, ?_, rfl⟩
          have h1 := of_decide_eq_true h1
          injection h1 with h1
          unfold nameOf
          rw [if_pos hc, if_pos (by omega)]
        · have m1 : ((mates S.w t S.ps).length : Int) ≠ 0 := fun z => h1 (by rw [z]; rfl)
          have bl : (nbase S.w t).length ≤ t.length := cutS_length t none (some S.w)
          have dl := wd_len (wd_digit2 (i := 1 + ((mates S.w t S.ps).length : Int)) (by omega) (by omega))
          have s1 : (("~" : String) : Str).length = 1 := rfl
          refine ⟨_, rfl, _, _, rfl, rfl, Nat.le_of_lt (small1000 (by omega)), _, rfl, _, rfl, log_small (by omega) (by omega), _, _, rfl, rfl, ?_, ?_, rfl⟩
          · rw [Str.length_append]
            exact Nat.le_of_lt (small1000 (by omega))
          · unfold nameOf
            rw [if_pos hc, if_neg (by omega), hc, count_is, Int.add_comm]
      · rintro _ J1 ⟨rfl, rfl⟩
        refine mid_id ?_
        refine ⟨_, rfl, s, dx, _, rfl, sJ _ _ e0, rfl, _, rfl, s, t, S, rfl, hS.same sJ, ok, bz, wt, l20, fun G kG hG => ?_⟩
        refine ⟨_, rfl, rfl, _, rfl, ?_⟩
        rw [decide_eq_true rfl]
        refine iteT ?_
        have m : Muts C N [s] J1 := fun b hb => .inr ⟨S, by rw [List.mem_singleton.mp hb]; exact hS.same sJ⟩
        obtain ⟨qs2, hP2, hq2⟩ := HeldAt.kp m kG (HeldAt.same sJ ⟨qs, hP, hq⟩)
        have ql2 : qs2.length = S.ps.length := by rw [← hq2, List.length_map]
        refine ⟨_, rfl, _, rfl, _, rfl, by show 2 ≤ sizeLine; decide, fun p np => ⟨by show 1 ≤ sizeLine; decide, fun q nq => ?_⟩⟩
        generalize hA : upd G p _ = G1 at nq ⊢
        have a1 : Same G G1 := hA ▸ same_new np
        have ep : G1 p = some (.tup [.str t, .str (nameOf S.so S.w t S.ps)]) := by rw [← hA]; exact upd_same
        clear hA
        generalize hA : upd G1 q _ = G2
        have a2 : Same G1 G2 := hA ▸ same_new nq
        have eq : G2 q = some (.lst [.ref p]) := by rw [← hA]; exact upd_same
        clear hA
        have hP3 := hP2.same (a1.trans a2)
        refine ⟨l, q, _, _, rfl, rfl, hP3.ls, eq, ?_, fun r nr => ?_⟩
        · rw [List.length_map]
          exact Nat.le_of_lt (small1000 (by show qs2.length + 1 ≤ 1000; omega))
        · generalize hA : upd G2 r _ = G3
          have a3 : Same G2 G3 := hA ▸ same_new nr
          have er : G3 r = some (.lst (qs2.map (fun q => V.ref q.1) ++ [.ref p])) := by rw [← hA]; exact upd_same
          clear hA
          have aA := a1.trans (a2.trans a3)
          refine k _ r ((Kp.same sJ).trans (kG.trans (Kp.same aA))) (hG.same aA) ⟨qs2 ++ [(p, t, nameOf S.so S.w t S.ps)], ⟨?_, fun x hx => ?_⟩, ?_⟩
          · rw [er, List.map_append]
            rfl
          · rcases List.mem_append.mp hx with hx | hx
            · exact a3 _ _ (hP3.tp x hx)
            · rw [List.mem_singleton.mp hx]
              exact a3 _ _ (a2 _ _ ep)
          · rw [List.map_append, hq2]
            rfl
/-! _law_gone -/
def spGone (C N : Addr) : Sp := fun vs H Q _ => ∃ (s l : Addr) (i j : Nat) (t y : Str) (S : Sf), vs = [.ref s, .ref l, .int (i : Nat)] ∧ ShelfAt C N H s S ∧ S.ok ∧ S.busy = false ∧ HeldAt H l S.ps ∧ (S.ps.map (·.2))[i]? = some y ∧ S.ps[j]? = some (t, y) ∧ (∀ m, m < j → (S.ps.map (·.2))[m]? ≠ some y) ∧ ∀ G l', Kp [s] H G → ShelfAt C N G s (S.go j) → HeldAt G l' (S.go j).ps → Q (.ref l') G
theorem cal_gone (B : Bi mg) (Z : ShlC K mg C) (D : At K mg "_law_gone" s_law_gone ps_law_gone) (M_remove : CalM P w K mg base 3 C "remove" ps_Shelf_remove (spRemove C N)) : Cal P w K mg base 4 "_law_gone" ps_law_gone (spGone C N) := by
  refine D.cal sc_law_gone (fun vs H Q E h => ?_) (fun f cdv A outer s0 H vs Q E hr h => ?_)
  · obtain ⟨s, l, i, j, t, y, S, rfl, _⟩ := h
    rfl
  · obtain ⟨s, l, i, j, t, y, S, rfl, hS, ok, bz, ⟨qs, hP, hq⟩, hi, hj, first, k⟩ := h
    obtain ⟨dx, n, a, b, c, e0, _⟩ := id hS.ex
    have ql : qs.length = S.ps.length := by rw [← hq, List.length_map]
    have pl := ok.ps.len
    obtain ⟨qi, ei, eyi⟩ : ∃ q, qs[i]? = some q ∧ q.2.2 = y := by
      rw [← hq, List.map_map, List.getElem?_map] at hi
      cases e : qs[i]? with
      | none => rw [e] at hi; cases hi
      | some q => rw [e] at hi; exact ⟨q, rfl, Option.some.inj hi⟩
    obtain ⟨qj, ej, etj⟩ : ∃ q, qs[j]? = some q ∧ q.2 = (t, y) := by
      rw [← hq, List.getElem?_map] at hj
      cases e : qs[j]? with
      | none => rw [e] at hj; cases hj
      | some q => rw [e] at hj; exact ⟨q, rfl, Option.some.inj hj⟩
    have tqi := hP.tp qi (List.mem_of_getElem? ei)
    have tqj := hP.tp qj (List.mem_of_getElem? ej)
    rw [eyi] at tqi
    rw [etj] at tqj
    have atr : ∀ {m : Nat} {q : Addr × Str × Str}, qs[m]? = some q → atI (qs.map fun q => V.ref q.1) (m : Int) = some (.ref q.1) := fun e => atI_nat (by rw [List.getElem?_map, e]; rfl)
    refine ⟨_, (pss_cons (ps_set (i := 3) sc_law_gone.nd rfl (.inr rfl) (pe_ix (r := rIxT K) ix_tup (pe_ix ix_list (pv 1) (pv 2) (fun _ _ => rfl)) pe_int (fun _ _ => rfl)))
      (pss_cons (ps_set (i := 4) sc_law_gone.nd rfl (.inl rfl) (pe_ix ix_list (pe_lc (own := [("_law_k", 5)]) (by rfl) sc_law_gone.nd (pi_range1 (by rfl) B.range (pa_cons (pe_callB call_len (by rfl) B.len (by decide +kernel) (pa_cons (pv 1) pa_nil)) pa_nil)) (blkOk_by (own := [("_law_k", 5)]) (N := ["_law_mine", "_law_held", "_law_spot", "_law_name_here", "_law_first", "_law_k"]) (sc := defScope s_law_gone) (by decide +kernel)) (fun _ _ _ _ _ => pg_name (i := 5) sc_law_gone.nd rfl (.inl rfl)) (fun _ _ _ _ _ => (pts_one (pt_cmpR op_eq (pe_ix (r := rIxT K) ix_tup (pe_ix (r := rIxL K) ix_list (pv 1) (pv 5) (fun _ _ => rfl)) pe_int (fun _ _ => rfl)) (pv 3) (nomark _)))) (fun _ _ _ _ _ => (pv 5))) pe_int (fun _ _ => rfl)))
      (pss_one (ps_ret (pe_mid (pe_ifExp (pt_cmpR op_eq (pe_mth M_remove Z.cl hr (by decide) (pv 0) (pa_cons (pv 3) pa_nil)) (pe_ix (r := rIxT K) ix_tup (pe_ix ix_list (pv 1) (pv 4) (fun _ _ => rfl)) pe_int (fun _ _ => rfl)) (nomark _)) (pe_op op_cat (pe_slice sl_list (pv 1) po_none (po_some (pv 4))) (pe_slice sl_list (pv 1) (po_some (pe_op op_add (pv 4) pe_int)) po_none)) pe_non)))))), ?_⟩
    refine ⟨_, rfl, _, rfl, l, _, _, _, rfl, rfl, .inl (.inl hP.ls), atr ei, qi.1, _, _, _, rfl, rfl, .inl (.inl tqi), (rfl : atI [V.str qi.2.1, V.str y] 1 = some (V.str y)), ?_⟩
    refine ⟨_, rfl, _, _, rfl, .inl ⟨_, .inl (.inl hP.ls), rfl⟩, _, rfl, by rw [List.length_map]; omega, by rw [List.length_map]; omega, fun M nM => lc_range (lo := 0) (n := (((qs.map fun q => V.ref q.1).length : Nat) : Int).toNat) (fun i J => J M = some (.lst (((List.range i).filter fun m => decide ((S.ps.map (fun q : Str × Str => q.2))[m]? = some y)).map fun m => V.int ((m : Nat) : Int))) ∧ Same H J)
      ⟨upd_same, same_new nM⟩ ?_ ?_⟩
    · rintro m J hm ⟨eM, sJ⟩
      rw [List.length_map, Int.toNat_natCast] at hm
      obtain ⟨q, hqm⟩ : ∃ q, qs[m]? = some q := ⟨_, List.getElem?_eq_getElem hm⟩
      have tq := sJ _ _ (hP.tp q (List.mem_of_getElem? hqm))
      have hy : (S.ps.map (fun q : Str × Str => q.2))[m]? = some q.2.2 := by rw [← hq, List.map_map, List.getElem?_map, hqm]; rfl
      refine ⟨rfl, _, rfl, _, rfl, l, _, _, _, rfl, rfl, .inl (.inl (sJ _ _ hP.ls)), (by rw [Int.zero_add]; exact atr hqm), q.1, _, _, _, rfl, rfl, .inl (.inl tq), (rfl : atI [V.str q.2.1, V.str q.2.2] 1 = some (V.str q.2.2)), _, rfl, rfl, _, rfl, ?_⟩
      rw [str_eq_iff]
      refine ite2 (fun hb => ?_) (fun hb => ?_)
      · refine ⟨_, rfl, _, eM, small1000 ?_, ?_, same_off sJ nM⟩
        · rw [List.length_map]
          have := List.length_filter_le (fun m => decide ((S.ps.map (fun q : Str × Str => q.2))[m]? = some y)) (List.range m)
          rw [List.length_range] at this
          omega
        · rw [upd_same, List.range_succ, List.filter_append, List.map_append, List.filter_cons, hy, of_decide_eq_true hb, decide_eq_true rfl, Int.zero_add]
          rfl
      · have ne : q.2.2 ≠ y := of_decide_eq_false (Bool.eq_false_iff.mpr hb)
        refine ⟨?_, sJ⟩
        rw [eM, List.range_succ, List.filter_append, List.filter_cons, hy, decide_eq_false fun z => ne (Option.some.inj z)]
        simp only [Bool.false_eq_true, if_false, List.filter_nil, List.append_nil]
    · rintro J ⟨eM, sJ⟩
      rw [List.length_map, Int.toNat_natCast] at eM
      have jl : j < qs.length := (List.getElem?_eq_some_iff.mp ej).1
      have f0 := first_at (p := fun m => decide ((S.ps.map (fun q : Str × Str => q.2))[m]? = some y)) jl (decide_eq_true (by rw [List.getElem?_map, hj]; rfl)) fun m hm => decide_eq_false (first m hm)
      refine ⟨M, _, 0, .int ((j : Nat) : Int), rfl, rfl, .inl (.inl eM), atI_nat (j := 0) (by rw [List.getElem?_map, f0]; rfl), ?_⟩
      refine mid_id ?_
      have hSJ := hS.same sJ
      refine ⟨_, rfl, s, dx, _, rfl, sJ _ _ e0, rfl, _, rfl, s, y, t, S, j, rfl, hSJ, ok, bz, hj, first, fun G kG hG => ?_⟩
      have m : Muts C N [s] J := fun b hb => .inr ⟨S, by rw [List.mem_singleton.mp hb]; exact hSJ⟩
      have tqj2 := kG _ _ (sJ _ _ tqj) (m.tup (sJ _ _ tqj))
      have ls := kG _ _ (sJ _ _ hP.ls) (m.lst (sJ _ _ hP.ls))
      refine ⟨_, rfl, _, rfl, l, _, _, _, rfl, rfl, .inl (.inl ls), atr ej, qj.1, _, _, _, rfl, rfl, .inl (.inl tqj2), (rfl : atI [V.str t, V.str y] 0 = some (V.str t)), rfl, _, rfl, ?_⟩
      rw [decide_eq_true rfl]
      refine iteT ?_
      refine ⟨_, rfl, _, rfl, _, rfl, l, _, rfl, .inl (.inl ls), fun p np => ?_⟩
      rw [cutV_hd]
      generalize hA : upd G p _ = G1
      have a1 : Same G G1 := hA ▸ same_new np
      have ep : G1 p = some (.lst ((qs.map fun q => V.ref q.1).take j)) := by rw [← hA]; exact upd_same
      clear hA
      refine ⟨_, rfl, _, rfl, _, _, rfl, rfl, _, rfl, noPartS ⟨l, _, rfl, .inl (.inl (a1 _ _ ls)), fun q nq => ?_⟩⟩
      generalize hA : upd G1 q _ = G2
      have a2 : Same G1 G2 := hA ▸ same_new nq
      have eq : G2 q = some (.lst (cutV (qs.map fun q => V.ref q.1) (some ((j + 1 : Nat) : Int)) none)) := by rw [← hA]; exact upd_same
      clear hA
      rw [cutV_bk] at eq
      refine ⟨p, q, _, _, rfl, rfl, a2 _ _ ep, eq, ?_, fun r nr => ?_⟩
      · rw [List.length_take, List.length_drop, List.length_map, sizeLine_eq]
        omega
      generalize hA : upd G2 r _ = G3
      have a3 : Same G2 G3 := hA ▸ same_new nr
      have er : G3 r = some (.lst ((qs.map fun q => V.ref q.1).take j ++ (qs.map fun q => V.ref q.1).drop (j + 1))) := by rw [← hA]; exact upd_same
      clear hA
      have aA := a1.trans (a2.trans a3)
      refine k _ r ((Kp.same sJ).trans (kG.trans (Kp.same aA))) (hG.same aA) ⟨qs.take j ++ qs.drop (j + 1), ⟨?_, fun x hx => ?_⟩, ?_⟩
      · rw [er, List.map_append, List.map_take, List.map_drop]
      · have mx : x ∈ qs := by
          rcases List.mem_append.mp hx with hx | hx
          · exact List.mem_of_mem_take hx
          · exact List.mem_of_mem_drop hx
        have tx := sJ _ _ (hP.tp x mx)
        exact aA _ _ (kG _ _ tx (m.tup tx))
      · rw [List.map_append, List.map_take, List.map_drop, hq]
        rfl
end
end Gu
namespace Gu
open PySem PySem.Spec PyProof.Rows L2
theorem no_space {n : Nat} {t : Str} (h : Wd n t) : 32 ∉ TL.tl t := fun z => absurd (h.sgn 32 z) (by decide +kernel)
theorem str_len (t : Str) : t.length = t.cps.toList.length := by
  have := TL.len_tl t
  unfold TL.tl at this
  omega
theorem nbase_nz {w : Int} {t : Str} (h6 : 6 ≤ w) (ht : t.length ≠ 0) : (nbase w t).length ≠ 0 := by
  rw [str_len, show (nbase w t).cps.toList = _ from cutS_head t (by omega), List.length_take, ← str_len]
  omega
theorem app_nz {a b : Str} (h : b.length ≠ 0) : (a ++ b).length ≠ 0 := by
  rw [str_len, str_app, List.length_append, ← str_len, ← str_len]
  omega
theorem ending_nz (n : Int) : (ending n).length ≠ 0 := by
  unfold ending
  rw [str_len, str_app, List.length_append, show (("~" : String) : Str).cps.toList.length = 1 by decide +kernel]
  omega
theorem name_nz {w : Int} {t : Str} (ps : Prs) (h6 : 6 ≤ w) (ht : t.length ≠ 0) : (nameOf "count" w t ps).length ≠ 0 := by
  unfold nameOf
  rw [if_pos rfl]
  by_cases h : (mates w t ps).length = 0
  · rw [if_pos h]
    exact nbase_nz h6 ht
  · rw [if_neg h, numbered_other (by decide)]
    exact app_nz (ending_nz _)
theorem Sf.come_ok {S : Sf} {t : Str} (ok : S.ok) (l20 : S.ps.length < 20) (wt : Wd 200 t) (few : S.past.length < 500) : (S.come t).ok := by
  refine ⟨ok.so, ok.w0, ok.w1, ⟨?_, fun q hq => ?_⟩, fun ps h => ?_, ?_⟩
  · show (S.ps ++ [_]).length ≤ 20
    rw [List.length_append, List.length_singleton]
    omega
  · rcases List.mem_append.mp hq with hq | hq
    · exact ok.ps.wd q hq
    · rw [List.mem_singleton.mp hq]
      exact ⟨wt, wd_nameQ wt (by omega)⟩
  · rcases List.mem_append.mp h with h | h
    · exact ok.past ps h
    · rw [List.mem_singleton.mp h]
      exact ok.ps
  · show (S.past ++ [_]).length ≤ 500
    rw [List.length_append, List.length_singleton]
    omega
theorem go_mem {ps : Prs} {j : Nat} {q : Str × Str} (h : q ∈ ps.take j ++ ps.drop (j + 1)) : q ∈ ps := by
  rcases List.mem_append.mp h with h | h
  · exact List.mem_of_mem_take h
  · exact List.mem_of_mem_drop h
theorem go_len {ps : Prs} {j : Nat} (h : j < ps.length) : (ps.take j ++ ps.drop (j + 1)).length + 1 = ps.length := by
  rw [List.length_append, List.length_take, List.length_drop]
  omega
theorem Sf.go_ok {S : Sf} {j : Nat} (ok : S.ok) (hj : j < S.ps.length) (few : S.past.length < 500) : (S.go j).ok := by
  refine ⟨ok.so, ok.w0, ok.w1, ⟨?_, fun q hq => ok.ps.wd q (go_mem hq)⟩, fun ps h => ?_, ?_⟩
  · have := go_len hj
    have := ok.ps.len
    show (S.ps.take j ++ S.ps.drop (j + 1)).length ≤ 20
    omega
  · rcases List.mem_append.mp h with h | h
    · exact ok.past ps h
    · rw [List.mem_singleton.mp h]
      exact ok.ps
  · show (S.past ++ [_]).length ≤ 500
    rw [List.length_append, List.length_singleton]
    omega
theorem first_of_name {y : Str} : ∀ {ps : Prs} {i : Nat}, (ps.map (·.2))[i]? = some y → ∃ (j : Nat) (t : Str), ps[j]? = some (t, y) ∧ ∀ m : Nat, m < j → (ps.map (·.2))[m]? ≠ some y
  | [], i, h => by simp at h
  | q :: ps, i, h => by
    by_cases e : q.2 = y
    · exact ⟨0, q.1, by rw [List.getElem?_cons_zero, ← e], fun m hm => absurd hm (by omega)⟩
    · cases i with
      | zero =>
        rw [List.map_cons, List.getElem?_cons_zero] at h
        exact absurd (Option.some.inj h) e
      | succ i =>
        rw [List.map_cons, List.getElem?_cons_succ] at h
        obtain ⟨j, t, h1, h2⟩ := first_of_name h
        refine ⟨j + 1, t, by rw [List.getElem?_cons_succ]; exact h1, fun m hm => ?_⟩
        cases m with
        | zero =>
          rw [List.map_cons, List.getElem?_cons_zero]
          exact fun z => e (Option.some.inj z)
        | succ m =>
          rw [List.map_cons, List.getElem?_cons_succ]
          exact h2 m (by omega)
theorem filt_first {y t : Str} : ∀ {ps : Prs} {j : Nat}, ps[j]? = some (t, y) → (∀ m, m < j → (ps.map (·.2))[m]? ≠ some y) → ((ps.filter fun q => decide (q.2 = y)).map (·.1))[0]? = some t
  | [], j, h, _ => by simp at h
  | q :: ps, 0, h, _ => by
    rw [List.getElem?_cons_zero] at h
    have h := Option.some.inj h
    rw [List.filter_cons_of_pos (by rw [h]; exact decide_eq_true rfl), List.map_cons, List.getElem?_cons_zero, h]
  | q :: ps, j + 1, h, first => by
    have e : q.2 ≠ y := fun z => first 0 (by omega) (by rw [List.map_cons, List.getElem?_cons_zero, z])
    rw [List.filter_cons_of_neg (by simp [e])]
    rw [List.getElem?_cons_succ] at h
    exact filt_first h fun m hm z => first (m + 1) (by omega) (by rw [List.map_cons, List.getElem?_cons_succ]; exact z)
theorem lit_add (t : Str) : (("add " : String) : Str) ++ t = (("add" : String) : Str) ++ (" " : Str) ++ t := by
  rw [show (("add " : String) : Str) = (("add" : String) : Str) ++ (" " : Str) by decide +kernel]
theorem lit_rem (t : Str) : (("remove " : String) : Str) ++ t = (("remove" : String) : Str) ++ (" " : Str) ++ t := by
  rw [show (("remove " : String) : Str) = (("remove" : String) : Str) ++ (" " : Str) by decide +kernel]
theorem say_add {n : Nat} {t : Str} (h : Wd n t) (nz : t.length ≠ 0) : behind (("add " : String) ++ t) "add" = .str t := by
  rw [lit_add]
  exact behind_word (by decide +kernel) (no_space h) nz
theorem say_rem {n : Nat} {t : Str} (h : Wd n t) (nz : t.length ≠ 0) : behind (("remove " : String) ++ t) "add" = .non ∧ behind (("remove " : String) ++ t) "remove" = .str t := by
  rw [lit_rem]
  exact ⟨behind_other (by decide +kernel) (by decide), behind_word (by decide +kernel) (no_space h) nz⟩
theorem say_names : behind "names" "add" = .non ∧ behind "names" "remove" = .non := ⟨behind_none (by decide +kernel), behind_none (by decide +kernel)⟩
theorem say_meet : behind "meet" "add" = .non ∧ behind "meet" "remove" = .non := ⟨behind_none (by decide +kernel), behind_none (by decide +kernel)⟩
end Gu
namespace Gu
open PySem PySem.Spec PyProof.Rows L2
def tMidT (t : TT) : TT := fun σ H Q => ∃ M : Bool → Hp → Prop, t σ H M ∧ ∀ b G, M b G → Q b G
theorem pt_mid {X : Cx} {e : Expr} {t : TT} (d : PT X e t) : PT X e (tMidT t) := ⟨fun pins s σ H Q I ⟨M, m, k⟩ => thn (d.run pins s σ H M I m) fun c s1 ⟨H1, I1, q1⟩ => ⟨H1, I1, k _ _ q1⟩⟩
/-- what stands while the law asks: its numbers, a shelf, a console with its own, words -/
structure B58 (C N M : Addr) (J : Hp) (p s1 c s2 ws : Addr) (S1 S2 : Sf) (ts : List Str) : Prop where
  pot : Pot J p
  sh1 : ShelfAt C N J s1 S1
  con : ConAt M J c s2
  sh2 : ShelfAt C N J s2 S2
  wo : J ws = some (.lst (ts.map V.str))
  ne : s1 ≠ s2
section
variable {C N M : Addr} {J G : Hp} {p s1 c s2 ws : Addr} {S1 S2 T : Sf} {ts : List Str}
theorem shelf_no_pot {s : Addr} {S : Sf} (h : ShelfAt C N J s S) (hp : Pot J p) : s ≠ p := fun z => by
  obtain ⟨_, _, _, _, _, e, _⟩ := h.ex
  obtain ⟨a, b, d, f⟩ := hp
  rw [z, f] at e
  cases e
theorem con_no_shelf {s : Addr} {S : Sf} (h : ShelfAt C N J s S) (hc : ConAt M J c s2) : c ≠ s := fun z => by
  obtain ⟨_, _, _, _, _, e, _⟩ := h.ex
  obtain ⟨d, f⟩ := hc
  rw [← z, f] at e
  injection e with e
  injection e with _ _ e
  cases e
theorem con_no_pot (hc : ConAt M J c s2) (hp : Pot J p) : c ≠ p := fun z => by
  obtain ⟨d, e⟩ := hc
  obtain ⟨a, b, d, f⟩ := hp
  rw [z, f] at e
  cases e
theorem wo_no_shelf {s : Addr} {S : Sf} (h : ShelfAt C N J s S) (hw : J ws = some (.lst (ts.map V.str))) : ws ≠ s := fun z => by
  obtain ⟨_, _, _, _, _, e, _⟩ := h.ex
  rw [← z, hw] at e
  cases e
theorem wo_no_pot (hp : Pot J p) (hw : J ws = some (.lst (ts.map V.str))) : ws ≠ p := fun z => by
  obtain ⟨a, b, d, f⟩ := hp
  rw [z, f] at hw
  injection hw with hw
  injection hw with hw
  cases ts with
  | nil => cases hw
  | cons t ts => cases hw
theorem off1 {a b : Addr} (h : a ≠ b) : a ∉ [b] := fun z => h (List.mem_singleton.mp z)
theorem muts_pot (hp : Pot J p) : Muts C N [p] J := fun b hb => .inl (by rw [List.mem_singleton.mp hb]; exact hp)
theorem muts_sh {s : Addr} {S : Sf} (h : ShelfAt C N J s S) : Muts C N [s] J := fun b hb => .inr ⟨S, by rw [List.mem_singleton.mp hb]; exact h⟩
theorem pot_kp {s : Addr} (hp : Pot J p) (k : Kp [s] J G) (n : p ≠ s) : Pot G p := by
  obtain ⟨a, b, d, f⟩ := hp
  exact ⟨a, b, d, k _ _ f (off1 n)⟩
theorem con_kp {s : Addr} (hc : ConAt M J c s2) (k : Kp [s] J G) (n : c ≠ s) : ConAt M G c s2 := by
  obtain ⟨d, f⟩ := hc
  exact ⟨d, k _ _ f (off1 n)⟩
theorem B58.same (h : B58 C N M J p s1 c s2 ws S1 S2 ts) (s : Same J G) : B58 C N M G p s1 c s2 ws S1 S2 ts := ⟨h.pot.same s, h.sh1.same s, h.con.same s, h.sh2.same s, s _ _ h.wo, h.ne⟩
theorem B58.lad (h : B58 C N M J p s1 c s2 ws S1 S2 ts) (L : Ladled p J G) : B58 C N M G p s1 c s2 ws S1 S2 ts := by
  have k := Kp.lad L
  have m := muts_pot (C := C) (N := N) h.pot
  exact ⟨L.pot, h.sh1.kp m k (off1 (shelf_no_pot h.sh1 h.pot)), con_kp h.con k (con_no_pot h.con h.pot), h.sh2.kp m k (off1 (shelf_no_pot h.sh2 h.pot)), k _ _ h.wo (off1 (wo_no_pot h.pot h.wo)), h.ne⟩
theorem B58.one (h : B58 C N M J p s1 c s2 ws S1 S2 ts) (k : Kp [s1] J G) (n : ShelfAt C N G s1 T) : B58 C N M G p s1 c s2 ws T S2 ts := by
  have m := muts_sh h.sh1
  exact ⟨pot_kp h.pot k (shelf_no_pot h.sh1 h.pot).symm, n, con_kp h.con k (con_no_shelf h.sh1 h.con), h.sh2.kp m k (off1 h.ne.symm), k _ _ h.wo (off1 (wo_no_shelf h.sh1 h.wo)), h.ne⟩
theorem B58.two (h : B58 C N M J p s1 c s2 ws S1 S2 ts) (k : Kp [s2] J G) (n : ShelfAt C N G s2 T) : B58 C N M G p s1 c s2 ws S1 T ts := by
  have m := muts_sh h.sh2
  exact ⟨pot_kp h.pot k (shelf_no_pot h.sh2 h.pot).symm, h.sh1.kp m k (off1 h.ne), con_kp h.con k (con_no_shelf h.sh2 h.con), n, k _ _ h.wo (off1 (wo_no_shelf h.sh2 h.wo)), h.ne⟩
theorem HeldAt.lad {l : Addr} {ps : Prs} (h : HeldAt J l ps) (hp : Pot J p) (L : Ladled p J G) : HeldAt G l ps := h.kp (muts_pot (C := 0) (N := 0) hp) (Kp.lad L)
/-- both shelves alike, after n turns at most -/
structure O58 (S1 S2 : Sf) (sz : Int) (n : Nat) : Prop where
  eq : S2.ps = S1.ps
  so1 : S1.so = "count"
  so2 : S2.so = "count"
  w1 : S1.w = sz
  w2 : S2.w = sz
  ok1 : S1.ok
  ok2 : S2.ok
  b1 : S1.busy = false
  b2 : S2.busy = false
  few : S1.ps.length ≤ n
  p1 : S1.past.length ≤ n
  p2 : S2.past.length ≤ n
  nz : ∀ q ∈ S1.ps, q.2.length ≠ 0
theorem past_snoc (S : Sf) {n : Nat} (h : S.past.length ≤ n) : (S.past ++ [S.ps]).length ≤ n + 1 := by
  rw [List.length_append, List.length_singleton]
  omega
theorem O58.come {sz : Int} {n : Nat} {t : Str} (h : O58 S1 S2 sz n) (l : n < 20) (wt : Wd 200 t) (nz : t.length ≠ 0) : O58 (S1.come t) (S2.come t) sz (n + 1) := by
  have e : nameOf S2.so S2.w t S2.ps = nameOf S1.so S1.w t S1.ps := by rw [h.so1, h.so2, h.w1, h.w2, h.eq]
  have f1 := h.few
  have f2 := h.p1
  have f3 := h.p2
  refine ⟨?_, h.so1, h.so2, h.w1, h.w2, Sf.come_ok h.ok1 (by omega) wt (by omega), Sf.come_ok h.ok2 (by rw [h.eq]; omega) wt (by omega), h.b1, h.b2, ?_, past_snoc S1 f2, past_snoc S2 f3, fun q hq => ?_⟩
  · show S2.ps ++ [(t, _)] = S1.ps ++ [(t, _)]
    rw [e, h.eq]
  · show (S1.ps ++ [_]).length ≤ n + 1
    rw [List.length_append, List.length_singleton]
    omega
  · rcases List.mem_append.mp hq with hq | hq
    · exact h.nz q hq
    · rw [List.mem_singleton.mp hq]
      show (nameOf S1.so S1.w t S1.ps).length ≠ 0
      rw [h.so1]
      exact name_nz _ h.ok1.w0 nz
theorem O58.go {sz : Int} {n j : Nat} (h : O58 S1 S2 sz n) (l : n < 20) (hj : j < S1.ps.length) : O58 (S1.go j) (S2.go j) sz (n + 1) := by
  have f1 := h.few
  have f2 := h.p1
  have f3 := h.p2
  refine ⟨?_, h.so1, h.so2, h.w1, h.w2, Sf.go_ok h.ok1 hj (by omega), Sf.go_ok h.ok2 (by rw [h.eq]; exact hj) (by omega), h.b1, h.b2, ?_, past_snoc S1 f2, past_snoc S2 f3, fun q hq => h.nz q (go_mem hq)⟩
  · show S2.ps.take j ++ S2.ps.drop (j + 1) = S1.ps.take j ++ S1.ps.drop (j + 1)
    rw [h.eq]
  · have := go_len hj
    show (S1.ps.take j ++ S1.ps.drop (j + 1)).length ≤ n + 1
    omega
end
end Gu
namespace Gu
open PySem PySem.Spec PyProof.Rows L2
/-! text * int, however often -/
def rRepN : R2 := fun x y H Q => ∃ z k, x = .str z ∧ y = .int k ∧ 0 ≤ k ∧ k ≤ 1000 ∧ z.length ≤ 1000 ∧ ∀ y : Str, y.cps.toList = (List.replicate k.toNat z.cps.toList).flatten → Q (.str y) H
theorem fold_repN (z : Array Nat) : ∀ (k : Nat) (acc : Array Nat), ((List.replicate k z).foldl (· ++ ·) acc).toList = acc.toList ++ (List.replicate k z.toList).flatten
  | 0, acc => by simp
  | k + 1, acc => by
    rw [List.replicate_succ, List.foldl_cons, fold_repN z k, List.replicate_succ, List.flatten_cons, Array.toList_append, List.append_assoc]
theorem op_mul_strN {X : Cx} : OpR X (binaryOp .Mult) rRepN := by
  intro pins s σ H x y v u Q I rx ry h
  obtain ⟨z, k, rfl, rfl, k0, k1, z1, q⟩ := h
  obtain ⟨t, rfl⟩ := rx
  obtain ⟨t', rfl⟩ := ry
  refine PySem.P.mul_str ?_ (fun h1 _ => Int.not_lt.mpr ((Int.le_ediv_iff_mul_le (by omega)).mpr ?_)) (fun _ _ => decide_eq_false ?_) ?_
  · rw [Bool.or_eq_false_iff]
    exact ⟨decide_eq_false (by omega), decide_eq_false (by omega)⟩
  · have m1 : (z.length : Int) * k ≤ 1000 * 1000 := Int.mul_le_mul (by omega) k1 (by omega) (by omega)
    omega
  · have m2 : z.length * k.toNat ≤ 1000 * 1000 := Nat.mul_le_mul z1 (by omega)
    rw [sizeLine_eq]
    omega
  · split
    · next h1 =>
      refine ⟨by decide, .str Str.empty, H, I.tok _, ⟨_, rfl⟩, q _ ?_⟩
      rw [show k.toNat = 0 by omega]
      rfl
    · split
      · next h1 h2 =>
        refine ⟨.str z, H, I, ⟨_, rfl⟩, q _ ?_⟩
        rcases Bool.or_eq_true _ _ ▸ h2 with e | e
        · have e := eq_of_beq e
          rw [e]
          simp
        · have e : z.cps.toList.length = 0 := eq_of_beq e
          rw [List.eq_nil_of_length_eq_zero e]
          simp
      · have m2 : z.length * k.toNat ≤ 1000 * 1000 := Nat.mul_le_mul z1 (by omega)
        have e : ((List.replicate k.toNat z.cps).foldl (· ++ ·) #[]).toList = (List.replicate k.toNat z.cps.toList).flatten := by
          rw [fold_repN]
          rfl
        refine ⟨?_, .str ⟨(List.replicate k.toNat z.cps).foldl (· ++ ·) #[]⟩, H, I.tok _, ⟨_, rfl⟩, q _ e⟩
        show ((List.replicate k.toNat z.cps).foldl (· ++ ·) #[]).size ≤ _
        rw [← Array.length_toList, e, PyProof.Rows.lm_len_rep_flat]
        show k.toNat * z.length ≤ sizeLine
        rw [Nat.mul_comm, sizeLine_eq]
        omega
end Gu
namespace Gu
open PySem PySem.Spec PyProof.Rows L2
/-! data are equal to themselves -/
mutual
theorem eqv_self : ∀ d : PyData, d.canLay0 = true → PyData.eqv d d = true
  | .none, _ => rfl
  | .bool b, _ => by simp [PyData.eqv]
  | .int i, _ => by simp [PyData.eqv]
  | .str x, _ => by simp [PyData.eqv]
  | .list xs, h => by
    rw [PyData.eqv]
    exact eqv_selfs xs (by simpa [PyData.canLay0] using h)
  | .tuple xs, h => by
    rw [PyData.eqv]
    exact eqv_selfs xs (by simpa [PyData.canLay0] using h)
  | .dict _, h => by simp [PyData.canLay0] at h
theorem eqv_selfs : ∀ xs : List PyData, PyData.canLayAll0 xs = true → PyData.eqvAll xs xs = true
  | [], _ => rfl
  | x :: xs, h => by
    have h2 : x.canLay0 = true ∧ PyData.canLayAll0 xs = true := by simpa [PyData.canLayAll0] using h
    rw [PyData.eqvAll, eqv_self x h2.1, eqv_selfs xs h2.2]
    rfl
end
end Gu
namespace Gu
open PySem PySem.Spec PyProof.Rows L2
section
variable {P : Program} {w : World} {K : PySem.W.Frag} {mg : Str → Option Value} {base : Heap} {C N M : Addr}
theorem same_via {H H1 G : Hp} {x : Addr} (nx : H x = none) (s : Same H H1) (k : Kp [x] H1 G) : Same H G := fun b o e => k b o (s b o e) fun z => by
  rw [List.mem_singleton.mp z, nx] at e
  cases e
theorem Ladled.via {H J G : Hp} {p s : Addr} (L : Ladled p H J) (n : H s = none) (k : Kp [s] J G) (hp : Pot G p) : Ladled p H G := ⟨hp, fun b o e ne => k b o (L.keep b o e ne) fun z => by
  rw [List.mem_singleton.mp z, n] at e
  cases e⟩
theorem wd_zeros {z : Str} (h : z.cps.toList = (List.replicate (12 : Int).toNat (("0" : String) : Str).cps.toList).flatten) : Wd 12 z := by
  refine ⟨?_, fun c hc => ?_⟩
  · rw [h]
    decide +kernel
  · rw [h] at hc
    have : ∀ c ∈ (List.replicate (12 : Int).toNat (("0" : String) : Str).cps.toList).flatten, c ∈ abc.cps.toList := by decide +kernel
    exact this c hc
def words58 (y : Str) (sz : Int) (z : Str) : List Str := [y, y ++ "~2", y ++ "~3", cutS (y ++ z) none (some sz) ++ "a", cutS (y ++ z) none (some sz), (("b" : String) : Str) ++ y]
theorem words_ok {y z : Str} {sz : Int} (wy : Wd 6 y) (y0 : 0 < y.cps.toList.length) (wz : Wd 12 z) (h6 : 6 ≤ sz) (h11 : sz ≤ 11) : ∀ t ∈ words58 y sz z, Wd 200 t ∧ t.length ≠ 0 := by
  have w2 : Wd 2 ("~2" : String) := wd_lit (by decide +kernel)
  have w3 : Wd 2 ("~3" : String) := wd_lit (by decide +kernel)
  have wa : Wd 1 ("a" : String) := wd_lit (by decide +kernel)
  have wb : Wd 1 ("b" : String) := wd_lit (by decide +kernel)
  have wc : Wd 18 (cutS (y ++ z) none (some sz)) := (wy.app wz (by decide)).cut _ _
  have n0 : y.length ≠ 0 := by rw [str_len]; omega
  intro t ht
  rcases List.mem_cons.mp ht with rfl | ht
  · exact ⟨wy.mono (by decide), n0⟩
  rcases List.mem_cons.mp ht with rfl | ht
  · exact ⟨wy.app w2 (by decide), app_nz (by decide)⟩
  rcases List.mem_cons.mp ht with rfl | ht
  · exact ⟨wy.app w3 (by decide), app_nz (by decide)⟩
  rcases List.mem_cons.mp ht with rfl | ht
  · exact ⟨wc.app wa (by decide), app_nz (by decide)⟩
  rcases List.mem_cons.mp ht with rfl | ht
  · refine ⟨wc.mono (by decide), nbase_nz (t := y ++ z) h6 ?_⟩
    rw [str_len, str_app, List.length_append]
    omega
  rcases List.mem_cons.mp ht with rfl | ht
  · exact ⟨wb.app wy (by decide), app_nz n0⟩
  cases ht
theorem last_of58 {α β : Type} {f : α → β} {xs : List α} {ys : List β} {y : β} (h : xs.map f = ys ++ [y]) : ∃ zs z, xs = zs ++ [z] ∧ f z = y := by
  obtain ⟨a, b, rfl, h1, h2⟩ := List.map_eq_append_iff.mp h
  obtain ⟨z, c, rfl, h3, h4⟩ := List.map_eq_cons_iff.mp h2
  exact ⟨a, z, by rw [List.map_eq_nil_iff.mp h4], h3⟩
theorem layT58 {n : Nat} {ys : List Str} (h : ∀ y ∈ ys, Wd n y) : (PyData.tuple (ys.map PyData.str)).canLay0 = true := by
  show PyData.canLayAll0 _ = true
  induction ys with
  | nil => rfl
  | cons y ys ih =>
    show ((PyData.str y).canLay0 && PyData.canLayAll0 (ys.map PyData.str)) = true
    rw [wd_lay (h y (List.mem_cons_self ..)), ih fun z hz => h z (List.mem_cons_of_mem _ hz)]
    rfl
theorem shapedT58 {n : Nat} {ys : List Str} (h : ∀ y ∈ ys, Wd n y) : SeqAt.shaped (.tuple (ys.map PyData.str)) = true := shaped_of (ds := ys.map PyData.str) fun d hd => by
  obtain ⟨y, hy, rfl⟩ := List.mem_map.mp hd
  exact ⟨wd_lay (h y hy), Nat.zero_le _⟩
def I58 (H : Hp) (C N M p s1 c s2 ws : Addr) (y z : Str) (sz : Int) (i : Nat) (σ : L2.St) (J : Hp) : Prop := ∃ (l : Addr) (S1 S2 : Sf) (a1 a2 a3 a4 a5 a6 a7 : Option V), σ = [some (.ref p), some (.str y), some (.int sz), some (.ref s1), some (.ref c), some (.ref l), some (.ref ws), a1, a2, a3, a4, a5, a6, a7] ∧
  B58 C N M J p s1 c s2 ws S1 S2 (words58 y sz z) ∧ HeldAt J l S1.ps ∧ O58 S1 S2 sz i ∧ Ladled p H J
set_option maxHeartbeats 4000000 in
theorem cal_right (B : Bi mg) (Sn : NmC K mg N) (Z : ShlC K mg C) (Y : ConC K mg M) (D : At K mg "_law_right" s_law_right ps_law_right) (C_law_draw : Cal P w K mg base 1 "_law_draw" ps_law_draw spLadle) (C_law_one : Cal P w K mg base 2 "_law_one" ps_law_one (spOneOf K)) (C_law_stem : Cal P w K mg base 2 "_law_stem" ps_law_stem spStem)
    (M_nm : Mak P w K mg base 2 "Namer" N (spNInit N (NmAt N))) (M_Shelf : Mak P w K mg base 2 "Shelf" C (spShInit C N)) (M_Console : Mak P w K mg base 4 "Console" M (spConInit C N M)) (C_law_come : Cal P w K mg base 6 "_law_come" ps_law_come (spCome C N)) (C_law_gone : Cal P w K mg base 4 "_law_gone" ps_law_gone (spGone C N)) (M_say : CalM P w K mg base 7 M "say" ps_Console_say (spSay C N M))
    {fL : Addr} {fdL : FuncData} (FL : FnOk P w K mg base CX0 1 fL fdL ps_Shelf_len (spLenS C N)) (bL : Binds K fdL ps_Shelf_len []) (sL : PySem.W.findIn K (.ref C) "__len__" = some (some (.ref fL))) (iL : PySem.W.isFn K (.ref fL) = true) : CalG P w K mg base 8 "_law_right" ps_law_right spRight := by
  refine D.calG sc_law_right (fun vs H Q E h => ?_) (fun f cdv A outer s H vs Q E hr quiet h => ?_)
  · obtain ⟨p, rfl, _⟩ := h
    rfl
  · obtain ⟨p, rfl, hp, k⟩ := h
    have hr1 := hr.mono (show 2 ≤ _ by decide)
    refine ⟨_, (pss_cons (ps_par (i := 1) (j := 2) (by rfl) sc_law_right.nd rfl rfl (by decide) rfl rfl (pa_cons (pe_own C_law_stem hr (by decide) (by rfl) (pa_cons (pv 0) (pa_cons pe_int pa_nil))) (pa_cons (pe_op op_add pe_int (pe_own C_law_draw hr (by decide) (by rfl) (pa_cons (pv 0) (pa_cons pe_int pa_nil)))) pa_nil)) (by rfl))
      (pss_cons (ps_par3 (i := 3) (j := 4) (l := 5) (by rfl) sc_law_right.nd rfl rfl rfl (by decide) (by decide) (by decide) rfl rfl rfl (pa_cons (pe_new M_Shelf hr (by decide) (by rfl) (pa_cons (pe_new M_nm hr (by decide) (by rfl) (pa_cons pe_str (pa_cons (pv 2) pa_nil))) pa_nil)) (pa_cons (pe_new M_Console hr (by decide) (by rfl) (pa_cons (pe_new M_nm hr (by decide) (by rfl) (pa_cons pe_str (pa_cons (pv 2) pa_nil))) pa_nil)) (pa_cons (pe_lst pa_nil) pa_nil))) (by rfl))
      (pss_cons (ps_set (i := 6) sc_law_right.nd rfl (.inl rfl) (pe_lst (pa_cons (pv 1) (pa_cons (pe_op op_add_str (pv 1) pe_str) (pa_cons (pe_op op_add_str (pv 1) pe_str) (pa_cons (pe_op op_add_str (pe_slice sl_str (pe_op op_add_str (pv 1) (pe_op op_mul_strN pe_str pe_int)) po_none (po_some (pv 2))) pe_str) (pa_cons (pe_slice sl_str (pe_op op_add_str (pv 1) (pe_op op_mul_strN pe_str pe_int)) po_none (po_some (pv 2))) (pa_cons (pe_op op_add_str pe_str (pv 1)) pa_nil))))))))
      (pss_cons (ps_for PassesOwn.never rfl (pi_range1 (by rfl) B.range (pa_cons pe_int pa_nil)) (pg_name (i := 7) sc_law_right.nd rfl (.inl rfl))
      (pss_cons (ps_set (i := 8) sc_law_right.nd rfl (.inl rfl) (pe_own C_law_draw hr (by decide) (by rfl) (pa_cons (pv 0) (pa_cons pe_int pa_nil))))
      (C8.pss_cut (ps_if (pt_mid (PW.pt (pw_and (pt_cmpR (op_neD hr.units) (pv 5) (pe_lst pa_nil) (nomark _)) (pw_and1 (pt_cmpR op_eq (pe_own C_law_draw hr (by decide) (by rfl) (pa_cons (pv 0) (pa_cons pe_int pa_nil))) pe_int (nomark _)))))) (pss_cons (ps_set (i := 8) sc_law_right.nd rfl (.inl rfl) (pe_op op_mod (pe_callTy call_int1 (by rfl) B.int (by decide +kernel) (pa_cons (pv 8) pa_nil)) (pe_callB call_len (by rfl) B.len (by decide +kernel) (pa_cons (pv 5) pa_nil))))
      (pss_cons (ps_set (i := 9) sc_law_right.nd rfl (.inr rfl) (pe_ix (r := rIxT K) ix_tup (pe_ix ix_list (pv 5) (pv 8) (fun _ _ => rfl)) pe_int (fun _ _ => rfl)))
      (pss_cons (ps_set (i := 10) sc_law_right.nd rfl (.inl rfl) (pe_ix ix_list (pe_lc (own := [("_law_pair", 13)]) (by rfl) sc_law_right.nd (pi_list (pv 5)) (blkOk_by (own := [("_law_pair", 13)]) (N := ["_law_source_here", "_law_stem_here", "_law_size", "_law_mine", "_law_mate", "_law_held", "_law_words", "_law_turn", "_law_spot", "_law_name_here", "_law_gone_here", "_law_word", "_law_given", "_law_pair"]) (sc := defScope s_law_right) (by decide +kernel)) (fun _ _ _ _ _ => pg_name (i := 13) sc_law_right.nd rfl (.inl rfl)) (fun _ _ _ _ _ => (pts_one (pt_cmpR op_eq (pe_ix (r := rIxT K) ix_tup (pv 13) pe_int (fun _ _ => rfl)) (pv 9) (nomark _)))) (fun _ _ _ _ _ => (pe_ix (r := rIxT K) ix_tup (pv 13) pe_int (fun _ _ => rfl)))) pe_int (fun _ _ => rfl)))
      (pss_cons (ps_set (i := 5) sc_law_right.nd rfl (.inl rfl) (pe_own C_law_gone hr (by decide) (by rfl) (pa_cons (pv 3) (pa_cons (pv 5) (pa_cons (pv 8) pa_nil)))))
      (pss_one (ps_if (PW.pt (pw_or (pt_cmpR op_isN (pv 5) pe_non (nomark _)) (pw_or1 (pt_cmpR op_ne (pe_mth M_say Y.cl hr (by decide) (pv 4) (pa_cons (pe_op op_add_str pe_str (pv 9)) pa_nil)) (pv 10) (nomark _))))) (pss_one (ps_ret pe_bl)) pss_nil)))))) (pss_cons (ps_set (i := 11) sc_law_right.nd rfl (.inl rfl) (pe_ix ix_list (pv 6) (pe_own C_law_one hr (by decide) (by rfl) (pa_cons (pv 0) (pa_cons (pe_lst (pa_cons pe_int (pa_cons pe_int (pa_cons pe_int (pa_cons pe_int (pa_cons pe_int (pa_cons pe_int (pa_cons pe_int (pa_cons pe_int (pa_cons pe_int pa_nil)))))))))) pa_nil))) (fun _ _ => rfl)))
      (pss_cons (ps_set (i := 5) sc_law_right.nd rfl (.inl rfl) (pe_own C_law_come hr (by decide) (by rfl) (pa_cons (pv 3) (pa_cons (pv 5) (pa_cons (pv 2) (pa_cons (pv 11) pa_nil))))))
      (pss_one (ps_if (PW.pt (pw_or (pt_cmpR op_isN (pv 5) pe_non (nomark _)) (pw_or1 (pt_cmpR op_ne (pe_mth M_say Y.cl hr (by decide) (pv 4) (pa_cons (pe_op op_add_str pe_str (pv 11)) pa_nil)) (pe_ix (r := rIxT K) ix_tup (pe_ix ix_list (pv 5) (pe_un un_neg pe_int) (fun _ _ => rfl)) pe_int (fun _ _ => rfl)) (nomark _))))) (pss_one (ps_ret pe_bl)) pss_nil)))))
      (pss_cons (ps_setLc (i := 12) (own := [("_law_pair", 13)]) (by rfl) sc_law_right.nd rfl rfl (sw_true rfl rfl rfl (by decide +kernel)) (pi_list (pv 5)) (blkOk_by (own := [("_law_pair", 13)]) (N := ["_law_source_here", "_law_stem_here", "_law_size", "_law_mine", "_law_mate", "_law_held", "_law_words", "_law_turn", "_law_spot", "_law_name_here", "_law_gone_here", "_law_word", "_law_given", "_law_pair"]) (sc := defScope s_law_right) (by decide +kernel)) (fun _ _ _ _ _ => pg_name (i := 13) sc_law_right.nd rfl (.inl rfl)) (fun _ _ _ _ _ => pts_nil) (fun _ _ _ _ _ => (pe_ix (r := rIxT K) ix_tup (pv 13) pe_int (fun _ _ => rfl))))
      (pss_one (ps_if (PW.pt (pw_or (pt_cmpR (op_neD hr.units) (pe_fld (pv 3) rfl) (pe_callTy call_tuple_of (by rfl) B.tuple (by decide +kernel) (pa_cons (pv 12) pa_nil)) (nomark _)) (pw_or1 (pt_cmpR op_ne (pe_mth M_say Y.cl hr (by decide) (pv 4) (pa_cons pe_str pa_nil)) (pe_mid (pe_ifExp (pt_cmpR op_lt (pe_lenSetK (by rfl) B.len (by rfl) B.set (pv 12)) (pe_callB call_len (by rfl) B.len (by decide +kernel) (pa_cons (pv 12) pa_nil)) (nomark _)) pe_str pe_str)) (nomark _))))) (pss_one (ps_ret pe_bl)) pss_nil))))))
      (pss_one (ps_ret (pe_cmpR op_eq (pe_mth M_say Y.cl hr (by decide) (pv 4) (pa_cons pe_str pa_nil)) (pe_mid (pe_ifExp (pt_cmpR op_gt (pe_callB (call_lenOwn (C := C) FL bL hr1 sL iL) (by rfl) B.len (by decide +kernel) (pa_cons (pv 3) pa_nil)) pe_int (nomark _)) (pe_join pe_str (pe_callTy call_list_of (by rfl) B.list (by decide +kernel) (pa_cons (pe_fld (pv 3) rfl) pa_nil))) pe_str)) (nomark _)))))))), ?_⟩
    refine ⟨_, rfl, p, 6, rfl, hp, by decide, by decide, fun y G1 L1 y0 wy => ?_⟩
    refine ⟨_, rfl, p, 6, rfl, L1.pot, by decide, by decide, fun d G2 d0 d1 L2 => ⟨_, _, rfl, rfl, ?_⟩⟩
    have L := L1.trans L2
    have z0 : 6 ≤ 6 + d := by omega
    have z1 : 6 + d ≤ 11 := by omega
    refine ⟨_, _, rfl, ?_⟩
    refine ⟨_, rfl, fun x dx nx nd ne => ⟨x, dx, "count", 6 + d, rfl, upd_same, by decide, z0, by omega, fun G3 hN kN => ⟨rfl, ?_⟩⟩⟩
    have s3 : Same G2 G3 := same_via nx (same_mk nx nd ne) fun c o e n => kN c o e fun z => n (List.mem_singleton.mpr z)
    refine fun s1 d1 ns1 nd1 ne1 => ⟨s1, d1, x, "count", 6 + d, rfl, upd_same, hN.same (same_mk ns1 nd1 ne1), fun G4 k4 hS => ⟨rfl, ?_⟩⟩
    have s4 : Same G3 G4 := same_via ns1 (same_mk ns1 nd1 ne1) k4
    refine ⟨_, rfl, fun x2 dx2 nx2 nd2 ne2 => ⟨x2, dx2, "count", 6 + d, rfl, upd_same, by decide, z0, by omega, fun G5 hN2 kN2 => ⟨rfl, ?_⟩⟩⟩
    have s5 : Same G4 G5 := same_via nx2 (same_mk nx2 nd2 ne2) fun c o e n => kN2 c o e fun z => n (List.mem_singleton.mpr z)
    refine fun c d2 nc nd2 ne2 => ⟨c, d2, x2, "count", 6 + d, rfl, upd_same, hN2.same (same_mk nc nd2 ne2), fun s2 G6 k6 ns2 hc hS2 => ⟨rfl, ?_⟩⟩
    have s6 : Same G5 G6 := same_via nc (same_mk nc nd2 ne2) k6
    refine ⟨by show 0 ≤ sizeLine; decide, fun l nl => ?_⟩
    generalize hG : upd G6 l _ = G7
    have s7 : Same G6 G7 := hG ▸ same_new nl
    have el : G7 l = some (.lst []) := by rw [← hG]; exact upd_same
    clear hG
    have hS7 := ((hS.same s5).same s6).same s7
    have s37 := s3.trans (s4.trans (s5.trans (s6.trans s7)))
    have nH : ∀ {q : Addr}, G2 q = none → q ≠ p → H q = none := fun n np => L.free n
    refine ⟨_, _, _, rfl, ?_⟩
    have yl : y.length ≤ 6 := wd_len wy
    have b12 : ∀ (u : Str) (n : Nat), u.length ≤ n → n ≤ 900 → ∀ v : Str, v.length ≤ 100 → u.length + v.length ≤ sizeLine := fun u n h1 h2 v h3 => Nat.le_of_lt (small1000 (by omega))
    refine ⟨_, rfl, _, rfl, _, _, rfl, rfl, b12 y 6 yl (by decide) _ (by decide), _, rfl, _, _, rfl, rfl, b12 y 6 yl (by decide) _ (by decide), _, rfl, _, _, rfl, rfl, by decide, by decide, by decide, fun z hz => ?_⟩
    have wz : Wd 12 z := wd_zeros hz
    have zl : z.length ≤ 12 := wd_len wz
    have cl := cutS_length (y ++ z) none (some (6 + d))
    have al : (y ++ z).length ≤ 18 := by rw [str_len, str_app, List.length_append, ← str_len, ← str_len]; omega
    refine ⟨_, _, rfl, rfl, b12 y 6 yl (by decide) _ (by omega), _, rfl, _, rfl, _, rfl, Nat.le_of_lt (small1000 (by omega)), _, _, rfl, rfl, b12 _ 18 (by omega) (by decide) _ (by decide), _, rfl, _, _, rfl, rfl, by decide, by decide, by decide, fun z' hz' => ?_⟩
    obtain rfl : z' = z := TL.ext_tl (show z'.cps.toList = z.cps.toList from hz'.trans hz.symm)
    refine ⟨_, _, rfl, rfl, b12 y 6 yl (by decide) _ (by omega), _, rfl, _, rfl, _, rfl, Nat.le_of_lt (small1000 (by omega)), _, rfl, _, _, rfl, rfl, ?_, by show 6 ≤ sizeLine; decide, fun ws nws => ?_⟩
    · rw [Nat.add_comm]
      exact b12 y 6 yl (by decide) _ (by decide)
    generalize hG : upd G7 ws _ = G8
    have s8 : Same G7 G8 := hG ▸ same_new nws
    have ew : G8 ws = some (.lst ((words58 y (6 + d) z').map V.str)) := by rw [← hG]; exact upd_same
    clear hG
    have s38 := s37.trans s8
    have e12 : s1 ≠ s2 := fun e => by
      obtain ⟨_, _, _, _, _, f, _⟩ := ((hS.same s5).same (same_mk (C := M) nc nd2 ne2)).ex
      rw [e, ns2] at f
      cases f
    have nH1 : H s1 = none := (L.same s3).free ns1
    have nH2 : H s2 = none := (L.same (s3.trans (s4.trans (s5.trans (same_mk (C := M) nc nd2 ne2))))).free ns2
    have hB0 : B58 C N M G8 p s1 c s2 ws ⟨"count", 6 + d, [], [], false⟩ ⟨"count", 6 + d, [], [], false⟩ (words58 y (6 + d) z') := ⟨L.pot.same s38, hS7.same s8, (hc.same s7).same s8, (hS2.same s7).same s8, ew, e12⟩
    have hO0 : O58 ⟨"count", 6 + d, [], [], false⟩ ⟨"count", 6 + d, [], [], false⟩ (6 + d) 0 := by
      have o : Sf.ok ⟨"count", 6 + d, [], [], false⟩ := ⟨(by decide : (("count" : String) : Str) ∈ sorts), z0, (by show 6 + d ≤ 40; omega), ⟨Nat.zero_le _, fun q hq => by cases hq⟩, (fun ps hps => by cases hps), Nat.zero_le _⟩
      exact ⟨rfl, rfl, rfl, rfl, rfl, o, o, rfl, rfl, Nat.le_refl _, Nat.le_refl _, Nat.le_refl _, fun q hq => by cases hq⟩
    have ww : ∀ t ∈ words58 y (6 + d) z', Wd 200 t ∧ t.length ≠ 0 := words_ok wy (by omega) wz (by omega) (by omega)
    refine ⟨_, rfl, by decide, by decide, for_range (lo := 0) (n := 16) (fun i σ J => I58 H C N M p s1 c s2 ws y z' (6 + d) i σ J) ⟨l, _, _, none, none, none, none, none, none, none, rfl, hB0, ⟨[], ⟨s8 _ _ el, fun q hq => by cases hq⟩, rfl⟩, hO0, L.same s38⟩ ?_ ?_⟩
    · rintro i σ J hi ⟨l, S1, S2, a1, a2, a3, a4, a5, a6, a7, rfl, hB, hH, hO, LK⟩
      refine ⟨_, rfl, p, 20, rfl, hB.pot, by decide, by decide, fun d2 J1 e0 e1 M1 => ?_⟩
      have hH1 := hH.lad hB.pot M1
      have hB1 := hB.lad M1
      have LK1 := LK.trans M1
      refine ⟨fun σ J2 => ∃ (l : Addr) (S1 S2 : Sf) (a1 a2 a3 a4 a5 a6 a7 : Option V), σ = [some (.ref p), some (.str y), some (.int (6 + d)), some (.ref s1), some (.ref c), some (.ref l), some (.ref ws), a1, a2, a3, a4, a5, a6, a7] ∧ B58 C N M J2 p s1 c s2 ws S1 S2 (words58 y (6 + d) z') ∧ HeldAt J2 l S1.ps ∧ O58 S1 S2 (6 + d) (i + 1) ∧ Ladled p H J2, ?_, ?_⟩
      · refine ⟨fun b J3 => B58 C N M J3 p s1 c s2 ws S1 S2 (words58 y (6 + d) z') ∧ HeldAt J3 l S1.ps ∧ Ladled p H J3 ∧ (b = true → 0 < S1.ps.length), ?_, ?_⟩
        · obtain ⟨qs, hP, hq⟩ := hH1
          have ql : qs.length = S1.ps.length := by rw [← hq, List.length_map]
          refine ⟨_, rfl, Nat.zero_le _, fun e ne => ?_⟩
          have sz : Same J1 (upd J1 e (.lst [])) := same_new ne
          have ee : upd J1 e (.lst []) e = some (.lst []) := upd_same
          generalize upd J1 e (.lst []) = J2 at sz ee
          refine ⟨_, _, .lst (.inl (.inl (sz _ _ hP.ls))) (dp_pairs fun q hq => sz _ _ (hP.tp q hq)), .lst (.inl (.inl ee)) .nil, shaped_of fun d hd => ?_, by decide +kernel, ?_⟩
          · obtain ⟨q, hq1, rfl⟩ := List.mem_map.mp hd
            have wq := hO.ok1.ps.wd q.2 (hq ▸ List.mem_map_of_mem hq1)
            exact pdat_ok (wq.1.mono (by decide)) wq.2
          rw [eqv_nil, List.length_map]
          refine ⟨_, rfl, ite2 (fun h1 => ?_) (fun h1 => ?_)⟩
          · refine ⟨_, rfl, p, 3, rfl, (hB1.same sz).pot, by decide, by decide, fun d3 J3 f0 f1 M3 => ⟨rfl, _, rfl, ?_⟩⟩
            have hHs : HeldAt J2 l S1.ps := HeldAt.same sz ⟨qs, hP, hq⟩
            refine ⟨(hB1.same sz).lad M3, hHs.lad (hB1.same sz).pot M3, (LK1.same sz).trans M3, fun _ => ?_⟩
            simp at h1
            have : qs.length ≠ 0 := fun z => h1 (List.eq_nil_of_length_eq_zero z)
            omega
          · exact ⟨hB1.same sz, HeldAt.same sz ⟨qs, hP, hq⟩, LK1.same sz, fun z => by cases z⟩
        · rintro b J3 ⟨hB3, hH3, LK3, pos⟩
          cases b with
          | true =>
            have pos := pos rfl
            refine iteT ?_
            obtain ⟨qs, hP, hq⟩ := id hH3
            have ql : qs.length = S1.ps.length := by rw [← hq, List.length_map]
            have l20 := hO.ok1.ps.len
            obtain ⟨i2, hi2, il⟩ : ∃ i2 : Nat, d2 % (((qs.map fun q => V.ref q.1).length : Nat) : Int) = (i2 : Int) ∧ i2 < qs.length := by
              have n0 : (0 : Int) < (((qs.map fun q => V.ref q.1).length : Nat) : Int) := by rw [List.length_map]; omega
              obtain ⟨i2, e⟩ := Int.eq_ofNat_of_zero_le (Int.emod_nonneg d2 (Int.ne_of_gt n0))
              have := Int.emod_lt_of_pos d2 n0
              rw [List.length_map] at this e
              exact ⟨i2, by rw [List.length_map]; exact e, by omega⟩
            refine ⟨_, rfl, .inl ⟨_, rfl, _, rfl, _, _, rfl, .inl ⟨_, .inl (.inl hP.ls), rfl⟩, _, _, rfl, rfl, by rw [List.length_map]; omega, ?_⟩⟩
            show gName 8 (V.int (d2 % (((qs.map fun q => V.ref q.1).length : Nat) : Int))) _ _ _
            rw [hi2]
            have ei : qs[i2]? = some qs[i2] := List.getElem?_eq_getElem il
            generalize qs[i2] = qi at ei
            have tqi := hP.tp qi (List.mem_of_getElem? ei)
            have hy : (S1.ps.map (·.2))[i2]? = some qi.2.2 := by rw [← hq, List.map_map, List.getElem?_map, ei]; rfl
            generalize qi.2.2 = y1 at hy tqi
            obtain ⟨j, t, hj, first⟩ := first_of_name hy
            have jl : j < S1.ps.length := (List.getElem?_eq_some_iff.mp hj).1
            have mj := List.mem_of_getElem? hj
            have ny : y1.length ≠ 0 := hO.nz _ mj
            have wy1 : Wd 203 y1 := (hO.ok1.ps.wd _ mj).2
            refine ⟨_, rfl, _, rfl, l, _, _, _, rfl, rfl, .inl (.inl hP.ls), atI_nat (by rw [List.getElem?_map, ei]; rfl), qi.1, _, _, _, rfl, rfl, .inl (.inl tqi), (rfl : atI [V.str qi.2.1, V.str y1] 1 = some (V.str y1)), ?_⟩
            refine ⟨_, rfl, l, rfl, ⟨_, .inl (.inl hP.ls)⟩, fun D0 nD => lc_list (K := K) (a := l) (xs := qs.map fun q => V.ref q.1) (fun i J => J D0 = some (.lst (((qs.take i).filter fun q => decide (q.2.2 = y1)).map fun q => V.str q.2.1)) ∧ Same J3 J)
              ⟨upd_same, same_new nD⟩ (fun i J _ ⟨_, sJ⟩ => .inl (.inl (sJ _ _ hP.ls))) ?_ ?_⟩
            · rintro i v J hi ⟨eM, sJ⟩
              obtain ⟨q, hq, rfl, mq⟩ := ref_at hi
              have tq := sJ _ _ (hP.tp q mq)
              refine ⟨rfl, _, rfl, q.1, _, _, _, rfl, rfl, .inl (.inl tq), (rfl : atI [V.str q.2.1, V.str q.2.2] 1 = some (V.str q.2.2)), _, rfl, rfl, _, rfl, ?_⟩
              rw [str_eq_iff]
              refine ite2 (fun hb => ?_) (fun hb => ?_)
              · refine ⟨_, rfl, q.1, _, _, _, rfl, rfl, .inl (.inl tq), (rfl : atI [V.str q.2.1, V.str q.2.2] 0 = some (V.str q.2.1)), _, eM, small1000 ?_, ?_, same_off sJ nD⟩
                · rw [List.length_map]
                  refine Nat.le_trans (List.length_filter_le ..) ?_
                  rw [List.length_take]
                  omega
                · rw [upd_same, take_next hq, List.filter_append, List.map_append, List.filter_cons, hb]
                  rfl
              · refine ⟨?_, sJ⟩
                rw [eM, take_next hq, List.filter_append, List.filter_cons, Bool.eq_false_iff.mpr hb]
                simp only [Bool.false_eq_true, if_false, List.filter_nil, List.append_nil]
            · rintro J ⟨eM, sJ⟩
              rw [List.length_map, List.take_length] at eM
              have f0 := filt_first hj first
              have f1 : ((qs.filter fun q => decide (q.2.2 = y1)).map fun q => V.str q.2.1)[0]? = some (.str t) := by
                rw [← hq, List.filter_map, List.map_map, List.getElem?_map] at f0
                rw [List.getElem?_map]
                obtain ⟨q, e1, e2⟩ := Option.map_eq_some_iff.mp f0
                rw [show (qs.filter fun q => decide (q.2.2 = y1))[0]? = some q from e1]
                exact congrArg (fun z => some (V.str z)) e2
              refine ⟨D0, _, 0, .str t, rfl, rfl, .inl (.inl eM), atI_nat (j := 0) f1, ?_⟩
              have hBJ := hB3.same sJ
              refine ⟨_, rfl, _, rfl, _, rfl, s1, l, i2, j, t, y1, S1, rfl, hBJ.sh1, hO.ok1, hO.b1, hH3.same sJ, hy, hj, first, fun G l' kG hG hG2 => ?_⟩
              have hB4 := hBJ.one kG hG
              have LK4 := (LK3.same sJ).via nH1 kG hB4.pot
              refine ⟨_, rfl, rfl, _, rfl, iteF ?_⟩
              obtain ⟨dc, ec⟩ := id hB4.con
              refine ⟨_, rfl, c, dc, _, rfl, ec, rfl, _, rfl, _, _, rfl, rfl, ?_, ?_⟩
              · have := wd_len wy1
                exact Nat.le_of_lt (small1000 (by show 7 + y1.length ≤ 1000; omega))
              · have ll : ((("remove " : String) : Str) ++ y1).length ≤ sizeLine := by
                  have := wd_len wy1
                  have e7 : (("remove " : String) : Str).length = 7 := rfl
                  rw [str_len, str_app, List.length_append, ← str_len, ← str_len, sizeLine_eq]
                  omega
                refine ⟨c, s2, _, S2, rfl, ll, hB4.con, hB4.sh2, hO.ok2, hO.b2, .inr (.inl ⟨(say_rem wy1 ny).1, y1, t, j, (say_rem wy1 ny).2, by rw [hO.eq]; exact hj, by rw [hO.eq]; exact first, fun G5 k5 h5 => ?_⟩)⟩
                refine ⟨_, rfl, rfl, _, rfl, ?_⟩
                rw [show (!decide (V.str t = V.str t)) = false by simp]
                have hB5 := hB4.two k5 h5
                exact iteF ⟨l', S1.go j, S2.go j, _, _, _, _, _, _, _, rfl, hB5, hG2.kp (muts_sh hB4.sh2) k5, hO.go (by omega) jl, LK4.via nH2 k5 hB5.pot⟩
          | false =>
            refine iteF ?_
            refine ⟨_, rfl, _, rfl, by show 9 ≤ sizeLine; decide, fun q nq => ?_⟩
            generalize hA : upd J3 q _ = J4
            have s4 : Same J3 J4 := hA ▸ same_new nq
            have eq : J4 q = some (.lst ([0, 0, 0, 1, 2, 3, 4, 4, 5].map V.int)) := by rw [← hA]; exact upd_same
            clear hA
            have hB4 := hB3.same s4
            refine ⟨p, hB4.pot, q, _, rfl, .inl (.inl eq), hB3.pot.off nq, by decide, by decide, fun v J5 hv M5 => ?_⟩
            obtain ⟨n, hn, rfl⟩ : ∃ n : Nat, n < 6 ∧ v = .int (n : Int) := by
              simp only [List.map_cons, List.map_nil, List.mem_cons, List.not_mem_nil, or_false] at hv
              rcases hv with rfl | rfl | rfl | rfl | rfl | rfl | rfl | rfl | rfl
              · exact ⟨0, by decide, rfl⟩
              · exact ⟨0, by decide, rfl⟩
              · exact ⟨0, by decide, rfl⟩
              · exact ⟨1, by decide, rfl⟩
              · exact ⟨2, by decide, rfl⟩
              · exact ⟨3, by decide, rfl⟩
              · exact ⟨4, by decide, rfl⟩
              · exact ⟨4, by decide, rfl⟩
              · exact ⟨5, by decide, rfl⟩
            have hB5 := hB4.lad M5
            have hH5 := (hH3.same s4).lad hB4.pot M5
            have LK5 := (LK3.same s4).trans M5
            obtain ⟨t, et⟩ : ∃ t, (words58 y (6 + d) z')[n]? = some t := ⟨_, List.getElem?_eq_getElem (by show n < 6; exact hn)⟩
            have wt := ww t (List.mem_of_getElem? et)
            have tl := wd_len wt.1
            have l20 : S1.ps.length < 20 := by have := hO.few; omega
            refine ⟨ws, _, _, _, rfl, rfl, .inl (.inl hB5.wo), atI_nat (by rw [List.getElem?_map, et]; rfl), ?_⟩
            refine ⟨_, rfl, _, rfl, _, rfl, _, rfl, s1, l, t, S1, (by rw [hO.w1]; rfl), hB5.sh1, hO.ok1, hO.b1, hO.so1, hH5, wt.1, l20, fun G l' kG hG hG2 => ?_⟩
            have hB6 := hB5.one kG hG
            have LK6 := LK5.via nH1 kG hB6.pot
            refine ⟨_, rfl, rfl, _, rfl, iteF ?_⟩
            obtain ⟨dc, ec⟩ := id hB6.con
            have ll : ((("add " : String) : Str) ++ t).length ≤ sizeLine := by
              have e7 : (("add " : String) : Str).length = 4 := rfl
              rw [str_len, str_app, List.length_append, ← str_len, ← str_len, sizeLine_eq]
              omega
            refine ⟨_, rfl, c, dc, _, rfl, ec, rfl, _, rfl, _, _, rfl, rfl, ?_, ?_⟩
            · exact Nat.le_of_lt (small1000 (by show 4 + t.length ≤ 1000; omega))
            refine ⟨c, s2, _, S2, rfl, ll, hB6.con, hB6.sh2, hO.ok2, hO.b2, .inl ⟨t, say_add wt.1 wt.2, wt.1, by rw [hO.eq]; exact l20, fun G7 k7 h7 => ?_⟩⟩
            have hB7 := hB6.two k7 h7
            have hH7 := hG2.kp (muts_sh hB6.sh2) k7
            have LK7 := LK6.via nH2 k7 hB7.pot
            have en : nameOf S2.so S2.w t S2.ps = nameOf S1.so S1.w t S1.ps := by rw [hO.so1, hO.so2, hO.w1, hO.w2, hO.eq]
            rw [en]
            obtain ⟨qs, hP, hq⟩ := id hH7
            obtain ⟨q0, qq, rfl, e2⟩ := last_of58 hq
            have tq := hP.tp qq (List.mem_append.mpr (.inr (List.mem_singleton.mpr rfl)))
            rw [e2] at tq
            have ls := hP.ls
            rw [List.map_append] at ls
            refine ⟨_, rfl, 1, rfl, l', _, _, _, rfl, rfl, .inl (.inl ls), atI_last _ _, qq.1, _, _, _, rfl, rfl, .inl (.inl tq), (rfl : atI [V.str t, V.str (nameOf S1.so S1.w t S1.ps)] 1 = some (V.str (nameOf S1.so S1.w t S1.ps))), rfl, _, rfl, ?_⟩
            generalize nameOf S1.so S1.w t S1.ps = nn
            rw [show (!decide (V.str nn = V.str nn)) = false by simp]
            exact iteF ⟨l', S1.come t, S2.come t, _, _, _, _, _, _, _, rfl, hB7, hH7, hO.come (by omega) wt.1 wt.2, LK7⟩
      · rintro σ J2 ⟨l, S1, S2, a1, a2, a3, a4, a5, a6, a7, rfl, hB, hH, hO, LK⟩
        obtain ⟨qs, hP, hq⟩ := id hH
        have ql : qs.length = S1.ps.length := by rw [← hq, List.length_map]
        have l20 := hO.ok1.ps.len
        refine ⟨_, rfl, l, rfl, ⟨_, .inl (.inl hP.ls)⟩, fun D0 nD => lc_list (K := K) (a := l) (xs := qs.map fun q => V.ref q.1) (fun i J => J D0 = some (.lst (((qs.take i).map (·.2.2)).map V.str)) ∧ Same J2 J)
          ⟨upd_same, same_new nD⟩ (fun i J _ ⟨_, sJ⟩ => .inl (.inl (sJ _ _ hP.ls))) ?_ ?_⟩
        · rintro i v J hi ⟨eM, sJ⟩
          obtain ⟨q, hq, rfl, mq⟩ := ref_at hi
          have tq := sJ _ _ (hP.tp q mq)
          refine ⟨rfl, yesT (iteT ⟨_, rfl, q.1, _, _, _, rfl, rfl, .inl (.inl tq), (rfl : atI [V.str q.2.1, V.str q.2.2] 1 = some (V.str q.2.2)), _, eM, small1000 ?_, ?_, same_off sJ nD⟩)⟩
          · rw [List.length_map, List.length_map, List.length_take]
            omega
          · rw [upd_same, take_next hq, List.map_append, List.map_append]
            rfl
        · rintro J ⟨eM, sJ⟩
          rw [List.length_map, List.take_length] at eM
          have eg : qs.map (·.2.2) = S1.ps.map (·.2) := by rw [← hq, List.map_map]; rfl
          rw [eg] at eM
          have hBJ := hB.same sJ
          obtain ⟨dx, n1, a1, b1, c1, e0, e1, e2, e3, e4⟩ := id hBJ.sh1.ex
          have wn : ∀ u ∈ S1.ps.map (fun q : Str × Str => q.2), Wd 203 u := fun u hu => by
            obtain ⟨q, hq1, rfl⟩ := List.mem_map.mp hu
            exact (hO.ok1.ps.wd q hq1).2
          refine ⟨_, rfl, s1, C, dx, _, _, rfl, e0, Z.cl, Z.nM, sf_names, _, rfl, D0, _, rfl, .inl ⟨.inl (.inl eM), fun u nu => ?_⟩⟩
          generalize hA : upd J u _ = J3
          have su : Same J J3 := hA ▸ same_new nu
          have eu : J3 u = some (.tup ((S1.ps.map (fun q : Str × Str => q.2)).map V.str)) := by rw [← hA]; exact upd_same
          clear hA
          have e3 : FT J3 b1 ((S1.ps.map (fun q : Str × Str => q.2)).map V.str) := e3.same su
          refine ⟨_, _, .tup e3.sq (dp_strs _), .tup (.inl (.inl eu)) (dp_strs _), shapedT58 wn, shapedT58 wn, _, rfl, ?_⟩
          rw [eqv_self _ (layT58 wn)]
          refine iteF ?_
          have hBK := hBJ.same su
          have sJK := sJ.trans su
          obtain ⟨dc, ec⟩ := id hBK.con
          refine ⟨_, rfl, c, dc, _, rfl, ec, rfl, c, s2, _, S2, rfl, by decide, hBK.con, hBK.sh2, hO.ok2, hO.b2, .inr (.inr (.inr ⟨say_meet.1, say_meet.2, rfl, fun G4 s4 => ?_⟩))⟩
          have eM4 := s4 _ _ (su _ _ eM)
          have nl : (S1.ps.map (fun q : Str × Str => q.2)).length = S1.ps.length := List.length_map ..
          refine ⟨fun v G => v = .str (saidMeet S1.ps) ∧ G = G4, ?_, ?_⟩
          · refine ⟨_, rfl, D0, (S1.ps.map (fun q : Str × Str => q.2)).map .inr, rfl, .inl (.inl (.inl ((keysC_v _).symm ▸ eM4))), by rw [List.length_map, nl]; omega, _, rfl, _, _, rfl, .inl ⟨_, .inl (.inl eM4), rfl⟩, _, _, rfl, rfl, _, rfl, ?_⟩
            rw [keysC_len, List.length_map, nl]
            unfold saidMeet
            by_cases h : (dds (S1.ps.map (fun q : Str × Str => q.2))).length < S1.ps.length
            · rw [if_pos h, decide_eq_true (by omega)]
              exact iteT ⟨rfl, rfl⟩
            · rw [if_neg h, decide_eq_false (by omega)]
              exact iteF ⟨rfl, rfl⟩
          · rintro _ G ⟨rfl, rfl⟩
            refine ⟨rfl, _, rfl, ?_⟩
            rw [hO.eq]
            generalize saidMeet S1.ps = mm
            rw [show (!decide (V.str mm = V.str mm)) = false by simp]
            exact iteF ⟨l, S1, S2, _, _, _, _, _, _, _, rfl, hBK.same s4, hH.same (sJK.trans s4), hO, LK.same (sJK.trans s4)⟩
    · rintro σ J ⟨l, S1, S2, a1, a2, a3, a4, a5, a6, a7, rfl, hB, hH, hO, LK⟩
      obtain ⟨dc, ec⟩ := id hB.con
      refine ⟨_, rfl, c, dc, _, rfl, ec, rfl, c, s2, _, S2, rfl, by decide, hB.con, hB.sh2, hO.ok2, hO.b2, .inr (.inr (.inl ⟨say_names.1, say_names.2, rfl, fun G4 s4 => ?_⟩))⟩
      have hB4 := hB.same s4
      obtain ⟨dx, n1, a1, b1, c1, e0, e1, e2, e3, e4⟩ := id hB4.sh1.ex
      refine ⟨fun v G => v = .str (saidNames S1.ps) ∧ Same G4 G, ?_, ?_⟩
      · have l20 := hO.ok1.ps.len
        refine ⟨_, rfl, s1, dx, _, rfl, e0, s1, S1, rfl, hB4.sh1, hO.ok1, _, rfl, ⟨by omega, by omega⟩, _, _, rfl, rfl, _, rfl, ?_⟩
        unfold saidNames
        by_cases h : S1.ps.length = 0
        · rw [if_pos h, decide_eq_false (by omega)]
          exact iteF ⟨rfl, Same.refl _⟩
        · rw [if_neg h, decide_eq_true (by omega)]
          refine iteT ⟨⟨_, rfl⟩, _, rfl, s1, C, dx, _, _, rfl, e0, Z.cl, Z.nM, sf_names, b1, _, rfl, .inr e3.sq, fun u nu => ?_⟩
          exact ⟨" ", u, S1.ps.map (fun q : Str × Str => q.2), rfl, rfl, .inl (.inl (.inl upd_same)), names_sum S1.ps hO.ok1.ps, rfl, same_new nu⟩
      · rintro _ G ⟨rfl, sG⟩
        refine ⟨rfl, ?_⟩
        rw [hO.eq, decide_eq_true rfl]
        exact k G ((LK.same s4).same sG)
end
end Gu
namespace Gu
open PySem PySem.Spec PyProof.Rows L2
def T0 : Sf := ⟨"count", 6, [], [], false⟩
def T1 : Sf := T0.come "a"
def T2 : Sf := T1.come "a"
def T3 : Sf := T2.come "a"
def T4 : Sf := T3.go 1
def T5 : Sf := T4.come "a"
def T6 : Sf := T5.come "a~3"
def T7 : Sf := T6.go 1
theorem wA : Wd 200 (("a" : String) : Str) := ⟨by decide +kernel, by decide +kernel⟩
theorem wA3 : Wd 200 (("a~3" : String) : Str) := ⟨by decide +kernel, by decide +kernel⟩
theorem t0_ok : T0.ok := ⟨by decide +kernel, by decide +kernel, by decide +kernel, ⟨Nat.zero_le _, fun q hq => by cases hq⟩, (fun ps hps => by cases hps), Nat.zero_le _⟩
theorem t1_ok : T1.ok := Sf.come_ok t0_ok (by decide +kernel) wA (by decide +kernel)
theorem t2_ok : T2.ok := Sf.come_ok t1_ok (by decide +kernel) wA (by decide +kernel)
theorem t3_ok : T3.ok := Sf.come_ok t2_ok (by decide +kernel) wA (by decide +kernel)
theorem t4_ok : T4.ok := Sf.go_ok t3_ok (by decide +kernel) (by decide +kernel)
theorem t5_ok : T5.ok := Sf.come_ok t4_ok (by decide +kernel) wA (by decide +kernel)
theorem t6_ok : T6.ok := Sf.come_ok t5_ok (by decide +kernel) wA3 (by decide +kernel)
theorem t7_ok : T7.ok := Sf.go_ok t6_ok (by decide +kernel) (by decide +kernel)
theorem tn1 : nameOf T0.so T0.w "a" T0.ps = ("a" : String) := by decide +kernel
theorem tn2 : nameOf T1.so T1.w "a" T1.ps = ("a~2" : String) := by decide +kernel
theorem tn3 : nameOf T2.so T2.w "a" T2.ps = ("a~3" : String) := by decide +kernel
theorem tn5 : nameOf T4.so T4.w "a" T4.ps = ("a~3" : String) := by decide +kernel
theorem tn6 : nameOf T5.so T5.w "a~3" T5.ps = ("a~3" : String) := by decide +kernel
theorem tg4 : T3.ps[1]? = some ((("a" : String) : Str), (("a~2" : String) : Str)) ∧ ∀ m : Nat, m < 1 → (T3.ps.map (·.2))[m]? ≠ some (("a~2" : String) : Str) := by
  refine ⟨by decide +kernel, fun m hm => ?_⟩
  obtain rfl : m = 0 := by omega
  decide +kernel
theorem tg7 : T6.ps[1]? = some ((("a" : String) : Str), (("a~3" : String) : Str)) ∧ ∀ m : Nat, m < 1 → (T6.ps.map (·.2))[m]? ≠ some (("a~3" : String) : Str) := by
  refine ⟨by decide +kernel, fun m hm => ?_⟩
  obtain rfl : m = 0 := by omega
  decide +kernel
def told58 : List Str := ["a", "a~2", "a~3", "a", "a~3", "a~3"]
def left58 : List Str := ["a", "a~3", "a~3"]
theorem told_ok : (PyData.list (told58.map PyData.str)).canLay0 = true ∧ SeqAt.shaped (.list (told58.map PyData.str)) = true := by decide +kernel
theorem left_ok : (PyData.tuple (left58.map PyData.str)).canLay0 = true ∧ SeqAt.shaped (.tuple (left58.map PyData.str)) = true := by decide +kernel
theorem t7_names : T7.ps.map (·.2) = left58 := by decide +kernel
section
variable {P : Program} {w : World} {K : PySem.W.Frag} {mg : Str → Option Value} {base : Heap} {C N : Addr}
def spLaw (K : PySem.W.Frag) : Sp := fun vs H Q _ => ∃ (a : Addr) (ns : List Int), vs = [.ref a] ∧ SqL K H a (ns.map V.int) ∧ ns.length ≤ 63 ∧ ∀ G, Q (.bl true) G
theorem cal_law (B : Bi mg) (Z : ShlC K mg C) {f : Addr} {fd : FuncData} (F : Fun K "law" "law" s_law f fd) (C_law_source : Cal P w K mg base 1 "_law_source" ps_law_source (spPot K)) (M_nm : Mak P w K mg base 2 "Namer" N (spNInit N (NmAt N))) (M_Shelf : Mak P w K mg base 2 "Shelf" C (spShInit C N)) (M_add : CalM P w K mg base 5 C "add" ps_Shelf_add (spAdd C N)) (M_remove : CalM P w K mg base 3 C "remove" ps_Shelf_remove (spRemove C N)) (C_law_right : CalG P w K mg base 8 "_law_right" ps_law_right spRight) : FnG P w K mg base 9 f fd ps_law (spLaw K) := by
  refine okG F sc_law (fun vs H Q E h => ?_) (fun cdv A outer s H vs Q E hr quiet h => ?_)
  · obtain ⟨a, ns, rfl, _⟩ := h
    rfl
  · obtain ⟨a, ns, rfl, hS, hl, k⟩ := h
    refine ⟨_, (pss_cons (ps_set (i := 1) sc_law.nd rfl (.inl rfl) (pe_new M_Shelf hr (by decide) (by rfl) (pa_cons (pe_new M_nm hr (by decide) (by rfl) (pa_cons pe_str (pa_cons pe_int pa_nil))) pa_nil)))
      (pss_cons (ps_set (i := 2) sc_law.nd rfl (.inl rfl) (pe_lst (pa_cons (pe_mth M_add Z.cl hr (by decide) (pv 1) (pa_cons pe_str pa_nil)) (pa_cons (pe_mth M_add Z.cl hr (by decide) (pv 1) (pa_cons pe_str pa_nil)) (pa_cons (pe_mth M_add Z.cl hr (by decide) (pv 1) (pa_cons pe_str pa_nil)) (pa_cons (pe_mth M_remove Z.cl hr (by decide) (pv 1) (pa_cons pe_str pa_nil)) (pa_cons (pe_mth M_add Z.cl hr (by decide) (pv 1) (pa_cons pe_str pa_nil)) (pa_cons (pe_mth M_add Z.cl hr (by decide) (pv 1) (pa_cons pe_str pa_nil)) pa_nil))))))))
      (pss_cons (ps_if (PW.pt (pw_or (pt_cmpR (op_neD hr.units) (pv 2) (pe_lst (pa_cons pe_str (pa_cons pe_str (pa_cons pe_str (pa_cons pe_str (pa_cons pe_str (pa_cons pe_str pa_nil))))))) (nomark _)) (pw_or (pt_cmpR op_ne (pe_mth M_remove Z.cl hr (by decide) (pv 1) (pa_cons pe_str pa_nil)) pe_str (nomark _)) (pw_or1 (pt_cmpR (op_neD hr.units) (pe_fld (pv 1) rfl) (pe_tup (pa_cons pe_str (pa_cons pe_str (pa_cons pe_str pa_nil)))) (nomark _)))))) (pss_one (ps_ret pe_bl)) pss_nil)
      (pss_one (ps_ret (pe_callB (cr_all rfl) (by rfl) B.all (by decide +kernel) (pa_cons (pe_lc (own := [("_law_k", 3)]) (by rfl) sc_law.nd (pi_range1 (by rfl) B.range (pa_cons (pe_callB (call_max2 rfl) (by rfl) B.max (by decide +kernel) (pa_cons pe_int (pa_cons (pe_callB (call_min2 rfl) (by rfl) B.min (by decide +kernel) (pa_cons (pe_callB call_len_seq (by rfl) B.len (by decide +kernel) (pa_cons (pv 0) pa_nil)) (pa_cons pe_int pa_nil))) pa_nil))) pa_nil)) (blkOk_by (own := [("_law_k", 3)]) (N := ["_law_script", "_law_mine", "_law_told", "_law_k"]) (sc := defScope s_law) (by decide +kernel)) (fun _ _ _ _ _ => pg_name (i := 3) sc_law.nd rfl (.inl rfl)) (fun _ _ _ _ _ => pts_nil) (fun _ _ _ _ _ => (pe_ownG C_law_right hr (Nat.le_refl _) quiet (by rfl) (pa_cons (pe_own C_law_source hr (by decide) (by rfl) (pa_cons (pv 0) (pa_cons (pv 3) pa_nil))) pa_nil)))) pa_nil))))))), ?_⟩
    refine fun x dx nx nd ne => ⟨x, dx, "count", 6, rfl, upd_same, by decide, by decide, by decide, fun G1 hN kN => ⟨rfl, ?_⟩⟩
    have s1 : Same H G1 := same_via nx (same_mk nx nd ne) fun c o e n => kN c o e fun z => n (List.mem_singleton.mpr z)
    refine fun s d1 ns1 nd1 ne1 => ⟨s, d1, x, "count", 6, rfl, upd_same, hN.same (same_mk ns1 nd1 ne1), fun G2 k2 hS2 => ⟨rfl, ?_⟩⟩
    have s2 : Same H G2 := s1.trans (same_via ns1 (same_mk ns1 nd1 ne1) k2)
    have nH : H s = none := by
      cases e : H s with
      | none => rfl
      | some o =>
        have := s1 _ _ e
        rw [ns1] at this
        cases this
    have hS2 : ShelfAt C N G2 s T0 := hS2
    have go : ∀ {J G : Hp}, Same H J → Kp [s] J G → Same H G := fun sJ k b o e => k b o (sJ b o e) fun z => by
      rw [List.mem_singleton.mp z, nH] at e
      cases e
    obtain ⟨_, _, _, _, _, e0, _⟩ := id hS2.ex
    refine ⟨_, rfl, s, _, _, rfl, e0, rfl, s, "a", T0, rfl, hS2, t0_ok, rfl, wA, by decide +kernel, fun G3 k3 hS3 => ?_⟩
    rw [tn1]
    have s3 := go s2 k3
    obtain ⟨_, _, _, _, _, e0, _⟩ := id hS3.ex
    refine ⟨_, rfl, s, _, _, rfl, e0, rfl, s, "a", T1, rfl, hS3, t1_ok, rfl, wA, by decide +kernel, fun G4 k4 hS4 => ?_⟩
    rw [tn2]
    have s4 := go s3 k4
    obtain ⟨_, _, _, _, _, e0, _⟩ := id hS4.ex
    refine ⟨_, rfl, s, _, _, rfl, e0, rfl, s, "a", T2, rfl, hS4, t2_ok, rfl, wA, by decide +kernel, fun G5 k5 hS5 => ?_⟩
    rw [tn3]
    have s5 := go s4 k5
    obtain ⟨_, _, _, _, _, e0, _⟩ := id hS5.ex
    refine ⟨_, rfl, s, _, _, rfl, e0, rfl, s, "a~2", "a", T3, 1, rfl, hS5, t3_ok, rfl, tg4.1, tg4.2, fun G6 k6 hS6 => ?_⟩
    have s6 := go s5 k6
    obtain ⟨_, _, _, _, _, e0, _⟩ := id hS6.ex
    refine ⟨_, rfl, s, _, _, rfl, e0, rfl, s, "a", T4, rfl, hS6, t4_ok, rfl, wA, by decide +kernel, fun G7 k7 hS7 => ?_⟩
    rw [tn5]
    have s7 := go s6 k7
    obtain ⟨_, _, _, _, _, e0, _⟩ := id hS7.ex
    refine ⟨_, rfl, s, _, _, rfl, e0, rfl, s, "a~3", T5, rfl, hS7, t5_ok, rfl, wA3, by decide +kernel, fun G8 k8 hS8 => ?_⟩
    rw [tn6]
    have s8 := go s7 k8
    refine ⟨by show 6 ≤ sizeLine; decide, fun l nl => ?_⟩
    generalize hG : upd G8 l _ = G9
    have a9 : Same G8 G9 := hG ▸ same_new nl
    have el : G9 l = some (.lst (told58.map V.str)) := by rw [← hG]; exact upd_same
    clear hG
    refine ⟨_, rfl, by show 6 ≤ sizeLine; decide, fun m nm => ?_⟩
    generalize hG : upd G9 m _ = G10
    have a10 : Same G9 G10 := hG ▸ same_new nm
    have em : G10 m = some (.lst (told58.map V.str)) := by rw [← hG]; exact upd_same
    clear hG
    refine ⟨_, _, .lst (.inl (.inl (a10 _ _ el))) (dp_strs told58), .lst (.inl (.inl em)) (dp_strs told58), told_ok.2, told_ok.2, _, rfl, ?_⟩
    rw [eqv_self _ told_ok.1]
    refine iteF ?_
    have hS10 := (hS8.same a9).same a10
    have s10 := s8.trans (a9.trans a10)
    obtain ⟨_, _, _, _, _, e0, _⟩ := id hS10.ex
    refine ⟨_, rfl, s, _, _, rfl, e0, rfl, s, "a~3", "a", T6, 1, rfl, hS10, t6_ok, rfl, tg7.1, tg7.2, fun G11 k11 hS11 => ?_⟩
    have s11 := go s10 k11
    refine ⟨rfl, _, rfl, ?_⟩
    rw [show (!decide (V.str ("a" : String) = V.str ("a" : String))) = false by simp]
    refine iteF ?_
    obtain ⟨dx, n1, a2, b2, c2, e0, e1, e2, e3, e4⟩ := id hS11.ex
    have e3 : FT G11 b2 (left58.map V.str) := by
      have e : nms T7.ps = left58.map V.str := by unfold nms; rw [t7_names]
      rw [← e]
      exact e3
    refine ⟨_, rfl, s, C, dx, _, _, rfl, e0, Z.cl, Z.nM, sf_names, by show 3 ≤ sizeLine; decide, fun u nu => ?_⟩
    generalize hG : upd G11 u _ = G12
    have a12 : Same G11 G12 := hG ▸ same_new nu
    have eu : G12 u = some (.tup (left58.map V.str)) := by rw [← hG]; exact upd_same
    clear hG
    refine ⟨_, _, .tup (e3.same a12).sq (dp_strs left58), .tup (.inl (.inl eu)) (dp_strs left58), left_ok.2, left_ok.2, _, rfl, ?_⟩
    rw [eqv_self _ left_ok.1]
    refine iteF ?_
    have s12 := s11.trans a12
    have hSx := sq_same s12 hS
    refine ⟨_, rfl, a, _, rfl, .inl hSx, _, _, rfl, _, _, rfl, ?_⟩
    rw [List.length_map]
    generalize hm : (if (4 : Int) < (ns.length : Int) then (4 : Int) else (ns.length : Int)) = m
    have m1 : m ≤ 4 := by rw [← hm]; split <;> omega
    refine ⟨_, rfl, by split <;> omega, by split <;> omega, fun D nD => ?_⟩
    refine lc_range (lo := 0) (n := (if m > (2 : Int) then m else 2).toNat) (fun i J => ∃ bs : List Bool, bs.length = i ∧ bs.all id = true ∧ J D = some (.lst (bs.map V.bl)) ∧ Same G12 J) ⟨[], rfl, rfl, upd_same, same_new nD⟩ ?_ ?_
    · rintro i J hi ⟨bs, rfl, ha, eD, sJ⟩
      have i5 : bs.length < 4 := by
        revert hi
        split <;> omega
      refine ⟨rfl, yesT (iteT ⟨_, rfl, _, rfl, a, bs.length, ns, ?_, sq_same sJ hSx, by omega, fun p G np hp sG => ?_⟩)⟩
      · rw [Int.zero_add]
        rfl
      · refine ⟨p, rfl, hp, fun G2 L => ?_⟩
        have nDp : D ≠ p := ne_of_none eD np
        have gD : G2 D = some (.lst (bs.map V.bl)) := L.keep _ _ (sG _ _ eD) nDp
        refine ⟨_, gD, small1000 (by rw [List.length_map]; omega), bs ++ [true], by rw [List.length_append]; rfl, by rw [List.all_append, ha]; rfl, ?_, fun b o e => ?_⟩
        · rw [upd_same, List.map_append]
          rfl
        · rw [upd_ne (ne_of_none e nD)]
          exact L.keep _ _ (sG _ _ (sJ _ _ e)) (ne_of_none (sJ _ _ e) np)
    · rintro J ⟨bs, el, ha, eD, sJ⟩
      refine ⟨D, bs, rfl, .inl (.inl eD), ?_⟩
      rw [ha]
      exact k J
end
end Gu
namespace Gu
open PySem PySem.Spec PyProof.Rows L2
theorem at_mk {K : PySem.W.Frag} {h : Heap} {mg : Str → Option Value} {x : Str} {st : Stmt} {ps : List Str} {f : Addr} {oc : Value} {od an : Option Addr} {sl : Array (Option Value)} {kV dc pm cd ct : Value} (X : K.In h) (G : h.Ns mainGlobals mg)
    (hb : ∀ (kV doc pm : Value) (an : Option Addr) (cdv ct : Value) (us : List Value), us.length = ps.length → bindArgs (PySem.W.fnOf x x (defArgs st) (defBody st) (defScope st) .none kV doc pm an cdv ct) ⟨us, []⟩ = pure (ps.zip us))
    (a : PySem.W.nsIn K mainGlobals x = some (some (.ref f))) (l : K.lookup f = some ⟨oc, od, .func (PySem.W.fnOf x x (defArgs st) (defBody st) (defScope st) .none kV dc pm an cd ct), sl⟩) (c : PySem.W.codeIn K cd x = true) (k : PySem.W.keepIn K (.ref f) = true) : At K mg x st ps :=
  ⟨f, _, fun_mk l c k, (fun_mk l c k).binds hb, PySem.W.mg_of X G a⟩
theorem cst_mk {K : PySem.W.Frag} {h : Heap} {mg : Str → Option Value} {x : Str} {v : V} {u : Value} (X : K.In h) (G : h.Ns mainGlobals mg) (r : RelV v u) (a : PySem.W.nsIn K mainGlobals x = some (some u)) : ∃ u, mg x = some u ∧ RelV v u := ⟨u, PySem.W.mg_of X G a, r⟩
end Gu
namespace Gu
open PySem PySem.Spec PyProof.Rows L2
structure LenFn (K : PySem.W.Frag) (C : Addr) : Prop where
  ex : ∃ (f : Addr) (fd : FuncData), PySem.W.findIn K (.ref C) "__len__" = some (some (.ref f)) ∧ PySem.W.isFn K (.ref f) = true ∧ Fun K "__len__" "Shelf.__len__" s_Shelf_len f fd ∧ Binds K fd ps_Shelf_len []
end Gu
namespace Gu
open PySem PySem.Spec PyProof.Rows L2
theorem fin {P : Program} {w : World} {K : PySem.W.Frag} {mg : Str → Option Value} {base : Heap} {N C M f : Addr} {fd : FuncData} (B : Bi mg) (Sn : NmC K mg N) (In : NInitAt K N) (Sh : ShlC K mg C) (Ih : ShInitAt K C) (D_Shelf_become : MethAt K C "become" "Shelf.become" s_Shelf_become ps_Shelf_become) (D_Shelf_let_come : MethAt K C "let_come" "Shelf.let_come" s_Shelf_let_come ps_Shelf_let_come) (D_Shelf_let_go : MethAt K C "let_go" "Shelf.let_go" s_Shelf_let_go ps_Shelf_let_go) (D_Shelf_check_not_busy : MethAt K C "check_not_busy" "Shelf.check_not_busy" s_Shelf_check_not_busy ps_Shelf_check_not_busy) (D_Shelf_add : MethAt K C "add" "Shelf.add" s_Shelf_add ps_Shelf_add) (D_Shelf_remove : MethAt K C "remove" "Shelf.remove" s_Shelf_remove ps_Shelf_remove) (D_Shelf_len : LenFn K C) (Sc : ConC K mg M) (Ic : ConInitAt K M) (D_Console_say : MethAt K M "say" "Console.say" s_Console_say ps_Console_say) (D_Console_answer_add : MethAt K M "answer_add" "Console.answer_add" s_Console_answer_add ps_Console_answer_add) (D_Console_answer_remove : MethAt K M "answer_remove" "Console.answer_remove" s_Console_answer_remove ps_Console_answer_remove) (D_Console_answer_names : MethAt K M "answer_names" "Console.answer_names" s_Console_answer_names ps_Console_answer_names) (D_Console_answer_meet : MethAt K M "answer_meet" "Console.answer_meet" s_Console_answer_meet ps_Console_answer_meet)
    (A_is_integer : At K mg "is_integer" s_is_integer ps_is_integer) (A_is_text : At K mg "is_text" s_is_text ps_is_text) (A_check_text : At K mg "check_text" s_check_text ps_check_text) (A_check_namer : At K mg "check_namer" s_check_namer ps_check_namer) (A_base_of : At K mg "base_of" s_base_of ps_base_of) (A_numbered : At K mg "numbered" s_numbered ps_numbered) (A_counted_name : At K mg "counted_name" s_counted_name ps_counted_name) (A_free_name : At K mg "free_name" s_free_name ps_free_name) (A_name_of_next : At K mg "name_of_next" s_name_of_next ps_name_of_next) (A_word_behind : At K mg "word_behind" s_word_behind ps_word_behind) (A_law_source : At K mg "_law_source" s_law_source ps_law_source) (A_law_draw : At K mg "_law_draw" s_law_draw ps_law_draw) (A_law_one : At K mg "_law_one" s_law_one ps_law_one) (A_law_stem : At K mg "_law_stem" s_law_stem ps_law_stem) (A_law_come : At K mg "_law_come" s_law_come ps_law_come) (A_law_gone : At K mg "_law_gone" s_law_gone ps_law_gone) (A_law_right : At K mg "_law_right" s_law_right ps_law_right)
    (F : Fun K "law" "law" s_law f fd) : FnG P w K mg base 9 f fd ps_law (spLaw K) := by
  have c1 : Cal P w K mg base 1 "_law_draw" ps_law_draw spLadle := cal_draw B A_law_draw
  have c2 : Cal P w K mg base 2 "_law_one" ps_law_one (spOneOf K) := cal_one B A_law_one c1
  have c3 : Cal P w K mg base 2 "_law_stem" ps_law_stem spStem := cal_stem B A_law_stem c1
  have p1 : Cal P w K mg base 1 "is_integer" ps_is_integer (spIsInteger K) := cal_isInteger B A_is_integer
  have p2 : Cal P w K mg base 1 "is_text" ps_is_text (spIsText K) := cal_isText B A_is_text
  have p3 : Cal P w K mg base 2 "check_text" ps_check_text spCheckTextW := cal_checkTextW B A_check_text p2
  have p4 : Cal P w K mg base 1 "check_namer" ps_check_namer (spCheckNamer N) := cal_checkNamer B Sn A_check_namer
  have p5 : Cal P w K mg base 1 "base_of" ps_base_of (spBaseOf N) := cal_baseOf B Sn A_base_of
  have p6 : Cal P w K mg base 1 "numbered" ps_numbered (spNumQ N) := cal_numQ B Sn A_numbered
  have p7 : Cal P w K mg base 2 "counted_name" ps_counted_name (spCountedQ K N) := cal_countedQ B Sn A_counted_name p5 p6
  have p8 : Cal P w K mg base 2 "free_name" ps_free_name (spFreeQ K N) := cal_freeQ B A_free_name p6
  have p9 : Cal P w K mg base 3 "name_of_next" ps_name_of_next (spNextQ K N) := cal_nextQ B Sn A_name_of_next p5 p7 p8
  have m1 : Mak P w K mg base 2 "Namer" N (spNInit N (NmAt N)) := mak_nm B Sn In p1
  have m2 : Mak P w K mg base 2 "Shelf" C (spShInit C N) := mak_sh B Sh Ih p4
  have m3 : Mak P w K mg base 4 "Console" M (spConInit C N M) := mak_con B Sc Ic m2
  have b1 : CalM P w K mg base 1 C "become" ps_Shelf_become (spBecome C N) := cal_become B Sh D_Shelf_become
  have b2 : CalM P w K mg base 4 C "let_come" ps_Shelf_let_come (spLetCome C N) := cal_letCome B Sh D_Shelf_let_come p3 p9 b1
  have b3 : CalM P w K mg base 2 C "let_go" ps_Shelf_let_go (spLetGo C N) := cal_letGo B Sh D_Shelf_let_go b1
  have b4 : CalM P w K mg base 1 C "check_not_busy" ps_Shelf_check_not_busy (spCalmS C N) := cal_notBusy B Sh D_Shelf_check_not_busy
  have b5 : CalM P w K mg base 5 C "add" ps_Shelf_add (spAdd C N) := cal_add B Sh D_Shelf_add b4 b2
  have b6 : CalM P w K mg base 3 C "remove" ps_Shelf_remove (spRemove C N) := cal_remove B Sh D_Shelf_remove b4 b3
  have w1 : Cal P w K mg base 1 "word_behind" ps_word_behind spBehind := cal_behind B A_word_behind
  have a1 : CalM P w K mg base 6 M "answer_add" ps_Console_answer_add (spAnsAdd C N M) := cal_ansAdd B Sc Sh D_Console_answer_add b5
  have a2 : CalM P w K mg base 4 M "answer_remove" ps_Console_answer_remove (spAnsRem C N M) := cal_ansRem B Sc Sh D_Console_answer_remove b6
  have a3 : CalM P w K mg base 1 M "answer_names" ps_Console_answer_names (spAnsNames C N M) := cal_ansNames B Sc Sh D_Console_answer_names
  have a4 : CalM P w K mg base 1 M "answer_meet" ps_Console_answer_meet (spAnsMeet C N M) := cal_ansMeet B Sc Sh D_Console_answer_meet
  have a5 : CalM P w K mg base 7 M "say" ps_Console_say (spSay C N M) := cal_say B Sc Sh D_Console_say w1 a1 a2 a3 a4
  have l1 : Cal P w K mg base 6 "_law_come" ps_law_come (spCome C N) := cal_come B Sh A_law_come b5
  have l2 : Cal P w K mg base 4 "_law_gone" ps_law_gone (spGone C N) := cal_gone B Sh A_law_gone b6
  obtain ⟨fL, fdL, sL, iL, FL, bL⟩ := D_Shelf_len.ex
  have r1 : CalG P w K mg base 8 "_law_right" ps_law_right spRight := cal_right B Sn Sh Sc A_law_right c1 c2 c3 m1 m2 m3 l1 l2 a5 (ok_lenS B Sh FL) bL sL iL
  exact cal_law B Sh F (cal_source B A_law_source) m1 m2 b5 b6 r1
end Gu
namespace Gu
open PySem PySem.Spec PyProof.Rows L2
set_option maxHeartbeats 0 in
theorem all_mk {l : PySem.W.OpenLaw} {w : World} {K : PySem.W.Frag} {h : Heap} {mg : Str → Option Value} {fa : Addr} {f_is_integer : Addr} {oc_is_integer kV_is_integer dc_is_integer pm_is_integer cd_is_integer ct_is_integer : Value} {od_is_integer an_is_integer : Option Addr} {sl_is_integer : Array (Option Value)} {f_is_text : Addr} {oc_is_text kV_is_text dc_is_text pm_is_text cd_is_text ct_is_text : Value} {od_is_text an_is_text : Option Addr} {sl_is_text : Array (Option Value)} {f_check_text : Addr} {oc_check_text kV_check_text dc_check_text pm_check_text cd_check_text ct_check_text : Value} {od_check_text an_check_text : Option Addr} {sl_check_text : Array (Option Value)} {f_check_namer : Addr} {oc_check_namer kV_check_namer dc_check_namer pm_check_namer cd_check_namer ct_check_namer : Value} {od_check_namer an_check_namer : Option Addr} {sl_check_namer : Array (Option Value)} {f_base_of : Addr} {oc_base_of kV_base_of dc_base_of pm_base_of cd_base_of ct_base_of : Value} {od_base_of an_base_of : Option Addr} {sl_base_of : Array (Option Value)} {f_numbered : Addr} {oc_numbered kV_numbered dc_numbered pm_numbered cd_numbered ct_numbered : Value} {od_numbered an_numbered : Option Addr} {sl_numbered : Array (Option Value)} {f_counted_name : Addr} {oc_counted_name kV_counted_name dc_counted_name pm_counted_name cd_counted_name ct_counted_name : Value} {od_counted_name an_counted_name : Option Addr} {sl_counted_name : Array (Option Value)} {f_free_name : Addr} {oc_free_name kV_free_name dc_free_name pm_free_name cd_free_name ct_free_name : Value} {od_free_name an_free_name : Option Addr} {sl_free_name : Array (Option Value)} {f_name_of_next : Addr} {oc_name_of_next kV_name_of_next dc_name_of_next pm_name_of_next cd_name_of_next ct_name_of_next : Value} {od_name_of_next an_name_of_next : Option Addr} {sl_name_of_next : Array (Option Value)} {f_word_behind : Addr} {oc_word_behind kV_word_behind dc_word_behind pm_word_behind cd_word_behind ct_word_behind : Value} {od_word_behind an_word_behind : Option Addr} {sl_word_behind : Array (Option Value)} {f_law_source : Addr} {oc_law_source kV_law_source dc_law_source pm_law_source cd_law_source ct_law_source : Value} {od_law_source an_law_source : Option Addr} {sl_law_source : Array (Option Value)} {f_law_draw : Addr} {oc_law_draw kV_law_draw dc_law_draw pm_law_draw cd_law_draw ct_law_draw : Value} {od_law_draw an_law_draw : Option Addr} {sl_law_draw : Array (Option Value)} {f_law_one : Addr} {oc_law_one kV_law_one dc_law_one pm_law_one cd_law_one ct_law_one : Value} {od_law_one an_law_one : Option Addr} {sl_law_one : Array (Option Value)} {f_law_stem : Addr} {oc_law_stem kV_law_stem dc_law_stem pm_law_stem cd_law_stem ct_law_stem : Value} {od_law_stem an_law_stem : Option Addr} {sl_law_stem : Array (Option Value)} {f_law_come : Addr} {oc_law_come kV_law_come dc_law_come pm_law_come cd_law_come ct_law_come : Value} {od_law_come an_law_come : Option Addr} {sl_law_come : Array (Option Value)} {f_law_gone : Addr} {oc_law_gone kV_law_gone dc_law_gone pm_law_gone cd_law_gone ct_law_gone : Value} {od_law_gone an_law_gone : Option Addr} {sl_law_gone : Array (Option Value)} {f_law_right : Addr} {oc_law_right kV_law_right dc_law_right pm_law_right cd_law_right ct_law_right : Value} {od_law_right an_law_right : Option Addr} {sl_law_right : Array (Option Value)} {f_law : Addr} {oc_law kV_law dc_law pm_law cd_law ct_law : Value} {od_law an_law : Option Addr} {sl_law : Array (Option Value)} {N : Addr} {f_in : Addr} {oc_in kV_in dc_in pm_in cd_in ct_in : Value} {od_in an_in : Option Addr} {sl_in : Array (Option Value)} {C : Addr} {f_ih : Addr} {oc_ih kV_ih dc_ih pm_ih cd_ih ct_ih : Value} {od_ih an_ih : Option Addr} {sl_ih : Array (Option Value)} {f_hm_become : Addr} {oc_hm_become kV_hm_become dc_hm_become pm_hm_become cd_hm_become ct_hm_become : Value} {od_hm_become an_hm_become : Option Addr} {sl_hm_become : Array (Option Value)} {f_hm_let_come : Addr} {oc_hm_let_come kV_hm_let_come dc_hm_let_come pm_hm_let_come cd_hm_let_come ct_hm_let_come : Value} {od_hm_let_come an_hm_let_come : Option Addr} {sl_hm_let_come : Array (Option Value)} {f_hm_let_go : Addr} {oc_hm_let_go kV_hm_let_go dc_hm_let_go pm_hm_let_go cd_hm_let_go ct_hm_let_go : Value} {od_hm_let_go an_hm_let_go : Option Addr} {sl_hm_let_go : Array (Option Value)} {f_hm_check_not_busy : Addr} {oc_hm_check_not_busy kV_hm_check_not_busy dc_hm_check_not_busy pm_hm_check_not_busy cd_hm_check_not_busy ct_hm_check_not_busy : Value} {od_hm_check_not_busy an_hm_check_not_busy : Option Addr} {sl_hm_check_not_busy : Array (Option Value)} {f_hm_add : Addr} {oc_hm_add kV_hm_add dc_hm_add pm_hm_add cd_hm_add ct_hm_add : Value} {od_hm_add an_hm_add : Option Addr} {sl_hm_add : Array (Option Value)} {f_hm_remove : Addr} {oc_hm_remove kV_hm_remove dc_hm_remove pm_hm_remove cd_hm_remove ct_hm_remove : Value} {od_hm_remove an_hm_remove : Option Addr} {sl_hm_remove : Array (Option Value)} {f_hlen : Addr} {oc_hlen kV_hlen dc_hlen pm_hlen cd_hlen ct_hlen : Value} {od_hlen an_hlen : Option Addr} {sl_hlen : Array (Option Value)} {M : Addr} {f_ic : Addr} {oc_ic kV_ic dc_ic pm_ic cd_ic ct_ic : Value} {od_ic an_ic : Option Addr} {sl_ic : Array (Option Value)} {f_cm_say : Addr} {oc_cm_say kV_cm_say dc_cm_say pm_cm_say cd_cm_say ct_cm_say : Value} {od_cm_say an_cm_say : Option Addr} {sl_cm_say : Array (Option Value)} {f_cm_answer_add : Addr} {oc_cm_answer_add kV_cm_answer_add dc_cm_answer_add pm_cm_answer_add cd_cm_answer_add ct_cm_answer_add : Value} {od_cm_answer_add an_cm_answer_add : Option Addr} {sl_cm_answer_add : Array (Option Value)} {f_cm_answer_remove : Addr} {oc_cm_answer_remove kV_cm_answer_remove dc_cm_answer_remove pm_cm_answer_remove cd_cm_answer_remove ct_cm_answer_remove : Value} {od_cm_answer_remove an_cm_answer_remove : Option Addr} {sl_cm_answer_remove : Array (Option Value)} {f_cm_answer_names : Addr} {oc_cm_answer_names kV_cm_answer_names dc_cm_answer_names pm_cm_answer_names cd_cm_answer_names ct_cm_answer_names : Value} {od_cm_answer_names an_cm_answer_names : Option Addr} {sl_cm_answer_names : Array (Option Value)} {f_cm_answer_meet : Addr} {oc_cm_answer_meet kV_cm_answer_meet dc_cm_answer_meet pm_cm_answer_meet cd_cm_answer_meet ct_cm_answer_meet : Value} {od_cm_answer_meet an_cm_answer_meet : Option Addr} {sl_cm_answer_meet : Array (Option Value)} {u_MOST_SIGNS : Tok} {u_MOST_TEXT : Tok} {u_MOST_SHELVED : Tok} {u_SIGNS : Tok} {T_RULES : Addr} {td_RULES : Option Addr} {ts_RULES : Array (Option Value)} {tn_RULES : Nat} {e_RULES_0 e_RULES_1 e_RULES_2 : Tok} {u_LEAST_WIDTH : Tok} {T_DEED_WORDS : Addr} {td_DEED_WORDS : Option Addr} {ts_DEED_WORDS : Array (Option Value)} {tn_DEED_WORDS : Nat} {e_DEED_WORDS_0 e_DEED_WORDS_1 : Tok} {u_REFUSED : Tok}
    (X : K.In h) (G : h.Ns mainGlobals mg) (hfa : mg "law" = some (.ref fa))
    (a_is_integer : PySem.W.nsIn K mainGlobals "is_integer" = some (some (.ref f_is_integer)))
    (l_is_integer : K.lookup f_is_integer = some ⟨oc_is_integer, od_is_integer, .func (PySem.W.fnOf "is_integer" "is_integer" (defArgs s_is_integer) (defBody s_is_integer) (defScope s_is_integer) .none kV_is_integer dc_is_integer pm_is_integer an_is_integer cd_is_integer ct_is_integer), sl_is_integer⟩)
    (c_is_integer : PySem.W.codeIn K cd_is_integer "is_integer" = true)
    (k_is_integer : PySem.W.keepIn K (.ref f_is_integer) = true)
    (a_is_text : PySem.W.nsIn K mainGlobals "is_text" = some (some (.ref f_is_text)))
    (l_is_text : K.lookup f_is_text = some ⟨oc_is_text, od_is_text, .func (PySem.W.fnOf "is_text" "is_text" (defArgs s_is_text) (defBody s_is_text) (defScope s_is_text) .none kV_is_text dc_is_text pm_is_text an_is_text cd_is_text ct_is_text), sl_is_text⟩)
    (c_is_text : PySem.W.codeIn K cd_is_text "is_text" = true)
    (k_is_text : PySem.W.keepIn K (.ref f_is_text) = true)
    (a_check_text : PySem.W.nsIn K mainGlobals "check_text" = some (some (.ref f_check_text)))
    (l_check_text : K.lookup f_check_text = some ⟨oc_check_text, od_check_text, .func (PySem.W.fnOf "check_text" "check_text" (defArgs s_check_text) (defBody s_check_text) (defScope s_check_text) .none kV_check_text dc_check_text pm_check_text an_check_text cd_check_text ct_check_text), sl_check_text⟩)
    (c_check_text : PySem.W.codeIn K cd_check_text "check_text" = true)
    (k_check_text : PySem.W.keepIn K (.ref f_check_text) = true)
    (a_check_namer : PySem.W.nsIn K mainGlobals "check_namer" = some (some (.ref f_check_namer)))
    (l_check_namer : K.lookup f_check_namer = some ⟨oc_check_namer, od_check_namer, .func (PySem.W.fnOf "check_namer" "check_namer" (defArgs s_check_namer) (defBody s_check_namer) (defScope s_check_namer) .none kV_check_namer dc_check_namer pm_check_namer an_check_namer cd_check_namer ct_check_namer), sl_check_namer⟩)
    (c_check_namer : PySem.W.codeIn K cd_check_namer "check_namer" = true)
    (k_check_namer : PySem.W.keepIn K (.ref f_check_namer) = true)
    (a_base_of : PySem.W.nsIn K mainGlobals "base_of" = some (some (.ref f_base_of)))
    (l_base_of : K.lookup f_base_of = some ⟨oc_base_of, od_base_of, .func (PySem.W.fnOf "base_of" "base_of" (defArgs s_base_of) (defBody s_base_of) (defScope s_base_of) .none kV_base_of dc_base_of pm_base_of an_base_of cd_base_of ct_base_of), sl_base_of⟩)
    (c_base_of : PySem.W.codeIn K cd_base_of "base_of" = true)
    (k_base_of : PySem.W.keepIn K (.ref f_base_of) = true)
    (a_numbered : PySem.W.nsIn K mainGlobals "numbered" = some (some (.ref f_numbered)))
    (l_numbered : K.lookup f_numbered = some ⟨oc_numbered, od_numbered, .func (PySem.W.fnOf "numbered" "numbered" (defArgs s_numbered) (defBody s_numbered) (defScope s_numbered) .none kV_numbered dc_numbered pm_numbered an_numbered cd_numbered ct_numbered), sl_numbered⟩)
    (c_numbered : PySem.W.codeIn K cd_numbered "numbered" = true)
    (k_numbered : PySem.W.keepIn K (.ref f_numbered) = true)
    (a_counted_name : PySem.W.nsIn K mainGlobals "counted_name" = some (some (.ref f_counted_name)))
    (l_counted_name : K.lookup f_counted_name = some ⟨oc_counted_name, od_counted_name, .func (PySem.W.fnOf "counted_name" "counted_name" (defArgs s_counted_name) (defBody s_counted_name) (defScope s_counted_name) .none kV_counted_name dc_counted_name pm_counted_name an_counted_name cd_counted_name ct_counted_name), sl_counted_name⟩)
    (c_counted_name : PySem.W.codeIn K cd_counted_name "counted_name" = true)
    (k_counted_name : PySem.W.keepIn K (.ref f_counted_name) = true)
    (a_free_name : PySem.W.nsIn K mainGlobals "free_name" = some (some (.ref f_free_name)))
    (l_free_name : K.lookup f_free_name = some ⟨oc_free_name, od_free_name, .func (PySem.W.fnOf "free_name" "free_name" (defArgs s_free_name) (defBody s_free_name) (defScope s_free_name) .none kV_free_name dc_free_name pm_free_name an_free_name cd_free_name ct_free_name), sl_free_name⟩)
    (c_free_name : PySem.W.codeIn K cd_free_name "free_name" = true)
    (k_free_name : PySem.W.keepIn K (.ref f_free_name) = true)
    (a_name_of_next : PySem.W.nsIn K mainGlobals "name_of_next" = some (some (.ref f_name_of_next)))
    (l_name_of_next : K.lookup f_name_of_next = some ⟨oc_name_of_next, od_name_of_next, .func (PySem.W.fnOf "name_of_next" "name_of_next" (defArgs s_name_of_next) (defBody s_name_of_next) (defScope s_name_of_next) .none kV_name_of_next dc_name_of_next pm_name_of_next an_name_of_next cd_name_of_next ct_name_of_next), sl_name_of_next⟩)
    (c_name_of_next : PySem.W.codeIn K cd_name_of_next "name_of_next" = true)
    (k_name_of_next : PySem.W.keepIn K (.ref f_name_of_next) = true)
    (a_word_behind : PySem.W.nsIn K mainGlobals "word_behind" = some (some (.ref f_word_behind)))
    (l_word_behind : K.lookup f_word_behind = some ⟨oc_word_behind, od_word_behind, .func (PySem.W.fnOf "word_behind" "word_behind" (defArgs s_word_behind) (defBody s_word_behind) (defScope s_word_behind) .none kV_word_behind dc_word_behind pm_word_behind an_word_behind cd_word_behind ct_word_behind), sl_word_behind⟩)
    (c_word_behind : PySem.W.codeIn K cd_word_behind "word_behind" = true)
    (k_word_behind : PySem.W.keepIn K (.ref f_word_behind) = true)
    (a_law_source : PySem.W.nsIn K mainGlobals "_law_source" = some (some (.ref f_law_source)))
    (l_law_source : K.lookup f_law_source = some ⟨oc_law_source, od_law_source, .func (PySem.W.fnOf "_law_source" "_law_source" (defArgs s_law_source) (defBody s_law_source) (defScope s_law_source) .none kV_law_source dc_law_source pm_law_source an_law_source cd_law_source ct_law_source), sl_law_source⟩)
    (c_law_source : PySem.W.codeIn K cd_law_source "_law_source" = true)
    (k_law_source : PySem.W.keepIn K (.ref f_law_source) = true)
    (a_law_draw : PySem.W.nsIn K mainGlobals "_law_draw" = some (some (.ref f_law_draw)))
    (l_law_draw : K.lookup f_law_draw = some ⟨oc_law_draw, od_law_draw, .func (PySem.W.fnOf "_law_draw" "_law_draw" (defArgs s_law_draw) (defBody s_law_draw) (defScope s_law_draw) .none kV_law_draw dc_law_draw pm_law_draw an_law_draw cd_law_draw ct_law_draw), sl_law_draw⟩)
    (c_law_draw : PySem.W.codeIn K cd_law_draw "_law_draw" = true)
    (k_law_draw : PySem.W.keepIn K (.ref f_law_draw) = true)
    (a_law_one : PySem.W.nsIn K mainGlobals "_law_one" = some (some (.ref f_law_one)))
    (l_law_one : K.lookup f_law_one = some ⟨oc_law_one, od_law_one, .func (PySem.W.fnOf "_law_one" "_law_one" (defArgs s_law_one) (defBody s_law_one) (defScope s_law_one) .none kV_law_one dc_law_one pm_law_one an_law_one cd_law_one ct_law_one), sl_law_one⟩)
    (c_law_one : PySem.W.codeIn K cd_law_one "_law_one" = true)
    (k_law_one : PySem.W.keepIn K (.ref f_law_one) = true)
    (a_law_stem : PySem.W.nsIn K mainGlobals "_law_stem" = some (some (.ref f_law_stem)))
    (l_law_stem : K.lookup f_law_stem = some ⟨oc_law_stem, od_law_stem, .func (PySem.W.fnOf "_law_stem" "_law_stem" (defArgs s_law_stem) (defBody s_law_stem) (defScope s_law_stem) .none kV_law_stem dc_law_stem pm_law_stem an_law_stem cd_law_stem ct_law_stem), sl_law_stem⟩)
    (c_law_stem : PySem.W.codeIn K cd_law_stem "_law_stem" = true)
    (k_law_stem : PySem.W.keepIn K (.ref f_law_stem) = true)
    (a_law_come : PySem.W.nsIn K mainGlobals "_law_come" = some (some (.ref f_law_come)))
    (l_law_come : K.lookup f_law_come = some ⟨oc_law_come, od_law_come, .func (PySem.W.fnOf "_law_come" "_law_come" (defArgs s_law_come) (defBody s_law_come) (defScope s_law_come) .none kV_law_come dc_law_come pm_law_come an_law_come cd_law_come ct_law_come), sl_law_come⟩)
    (c_law_come : PySem.W.codeIn K cd_law_come "_law_come" = true)
    (k_law_come : PySem.W.keepIn K (.ref f_law_come) = true)
    (a_law_gone : PySem.W.nsIn K mainGlobals "_law_gone" = some (some (.ref f_law_gone)))
    (l_law_gone : K.lookup f_law_gone = some ⟨oc_law_gone, od_law_gone, .func (PySem.W.fnOf "_law_gone" "_law_gone" (defArgs s_law_gone) (defBody s_law_gone) (defScope s_law_gone) .none kV_law_gone dc_law_gone pm_law_gone an_law_gone cd_law_gone ct_law_gone), sl_law_gone⟩)
    (c_law_gone : PySem.W.codeIn K cd_law_gone "_law_gone" = true)
    (k_law_gone : PySem.W.keepIn K (.ref f_law_gone) = true)
    (a_law_right : PySem.W.nsIn K mainGlobals "_law_right" = some (some (.ref f_law_right)))
    (l_law_right : K.lookup f_law_right = some ⟨oc_law_right, od_law_right, .func (PySem.W.fnOf "_law_right" "_law_right" (defArgs s_law_right) (defBody s_law_right) (defScope s_law_right) .none kV_law_right dc_law_right pm_law_right an_law_right cd_law_right ct_law_right), sl_law_right⟩)
    (c_law_right : PySem.W.codeIn K cd_law_right "_law_right" = true)
    (k_law_right : PySem.W.keepIn K (.ref f_law_right) = true)
    (a_law : PySem.W.nsIn K mainGlobals "law" = some (some (.ref f_law)))
    (l_law : K.lookup f_law = some ⟨oc_law, od_law, .func (PySem.W.fnOf "law" "law" (defArgs s_law) (defBody s_law) (defScope s_law) .none kV_law dc_law pm_law an_law cd_law ct_law), sl_law⟩)
    (c_law : PySem.W.codeIn K cd_law "law" = true)
    (k_law : PySem.W.keepIn K (.ref f_law) = true)
    (qn : PySem.W.specialIn K (.builtin "object.__class__") "__get__" = some (some (.builtin "getset_descriptor.__get__")))
    (qt : PySem.W.takesIn K (.builtin "object.__class__") = some true)
    (anC : PySem.W.nsIn K mainGlobals "Namer" = some (some (.ref N)))
    (a_in : PySem.W.findIn K (.ref N) "__init__" = some (some (.ref f_in)))
    (l_in : K.lookup f_in = some ⟨oc_in, od_in, .func (PySem.W.fnOf "__init__" "Namer.__init__" (defArgs s_Namer_init) (defBody s_Namer_init) (defScope s_Namer_init) .none kV_in dc_in pm_in an_in cd_in ct_in), sl_in⟩)
    (c_in : PySem.W.codeIn K cd_in "Namer.__init__" = true)
    (k_in : PySem.W.keepIn K (.ref f_in) = true)
    (i_in : PySem.W.isFn K (.ref f_in) = true)
    (pgn : PySem.W.plainGet K N Str.empty = true)
    (hdn : PySem.W.hasDictIn K N = true)
    (pon : PySem.W.plainOver K N = true)
    (san : PySem.W.findIn K (.ref N) "__setattr__" = some (some (.builtin "object.__setattr__")))
    (mknC : PySem.W.makesIn K N = true)
    (knC : PySem.W.keepIn K (.ref N) = true)
    (nn_rule : PySem.W.findIn K (.ref N) "rule" = some none)
    (nn_width : PySem.W.findIn K (.ref N) "width" = some none)
    (qan : PySem.W.findIn K (.ref N) "__class__" = some (some (.builtin "object.__class__")))
    (qmn : PySem.W.mroIn K N (.type "object") = some true)
    (ahC : PySem.W.nsIn K mainGlobals "Shelf" = some (some (.ref C)))
    (a_ih : PySem.W.findIn K (.ref C) "__init__" = some (some (.ref f_ih)))
    (l_ih : K.lookup f_ih = some ⟨oc_ih, od_ih, .func (PySem.W.fnOf "__init__" "Shelf.__init__" (defArgs s_Shelf_init) (defBody s_Shelf_init) (defScope s_Shelf_init) .none kV_ih dc_ih pm_ih an_ih cd_ih ct_ih), sl_ih⟩)
    (c_ih : PySem.W.codeIn K cd_ih "Shelf.__init__" = true)
    (k_ih : PySem.W.keepIn K (.ref f_ih) = true)
    (i_ih : PySem.W.isFn K (.ref f_ih) = true)
    (pgh : PySem.W.plainGet K C Str.empty = true)
    (hdh : PySem.W.hasDictIn K C = true)
    (poh : PySem.W.plainOver K C = true)
    (sah : PySem.W.findIn K (.ref C) "__setattr__" = some (some (.builtin "object.__setattr__")))
    (mkhC : PySem.W.makesIn K C = true)
    (khC : PySem.W.keepIn K (.ref C) = true)
    (nh_namer : PySem.W.findIn K (.ref C) "namer" = some none)
    (nh_busy : PySem.W.findIn K (.ref C) "busy" = some none)
    (nh_texts : PySem.W.findIn K (.ref C) "texts" = some none)
    (nh_names : PySem.W.findIn K (.ref C) "names" = some none)
    (nh_past : PySem.W.findIn K (.ref C) "past" = some none)
    (a_hm_become : PySem.W.findIn K (.ref C) "become" = some (some (.ref f_hm_become)))
    (l_hm_become : K.lookup f_hm_become = some ⟨oc_hm_become, od_hm_become, .func (PySem.W.fnOf "become" "Shelf.become" (defArgs s_Shelf_become) (defBody s_Shelf_become) (defScope s_Shelf_become) .none kV_hm_become dc_hm_become pm_hm_become an_hm_become cd_hm_become ct_hm_become), sl_hm_become⟩)
    (c_hm_become : PySem.W.codeIn K cd_hm_become "Shelf.become" = true)
    (k_hm_become : PySem.W.keepIn K (.ref f_hm_become) = true)
    (i_hm_become : PySem.W.isFn K (.ref f_hm_become) = true)
    (a_hm_let_come : PySem.W.findIn K (.ref C) "let_come" = some (some (.ref f_hm_let_come)))
    (l_hm_let_come : K.lookup f_hm_let_come = some ⟨oc_hm_let_come, od_hm_let_come, .func (PySem.W.fnOf "let_come" "Shelf.let_come" (defArgs s_Shelf_let_come) (defBody s_Shelf_let_come) (defScope s_Shelf_let_come) .none kV_hm_let_come dc_hm_let_come pm_hm_let_come an_hm_let_come cd_hm_let_come ct_hm_let_come), sl_hm_let_come⟩)
    (c_hm_let_come : PySem.W.codeIn K cd_hm_let_come "Shelf.let_come" = true)
    (k_hm_let_come : PySem.W.keepIn K (.ref f_hm_let_come) = true)
    (i_hm_let_come : PySem.W.isFn K (.ref f_hm_let_come) = true)
    (a_hm_let_go : PySem.W.findIn K (.ref C) "let_go" = some (some (.ref f_hm_let_go)))
    (l_hm_let_go : K.lookup f_hm_let_go = some ⟨oc_hm_let_go, od_hm_let_go, .func (PySem.W.fnOf "let_go" "Shelf.let_go" (defArgs s_Shelf_let_go) (defBody s_Shelf_let_go) (defScope s_Shelf_let_go) .none kV_hm_let_go dc_hm_let_go pm_hm_let_go an_hm_let_go cd_hm_let_go ct_hm_let_go), sl_hm_let_go⟩)
    (c_hm_let_go : PySem.W.codeIn K cd_hm_let_go "Shelf.let_go" = true)
    (k_hm_let_go : PySem.W.keepIn K (.ref f_hm_let_go) = true)
    (i_hm_let_go : PySem.W.isFn K (.ref f_hm_let_go) = true)
    (a_hm_check_not_busy : PySem.W.findIn K (.ref C) "check_not_busy" = some (some (.ref f_hm_check_not_busy)))
    (l_hm_check_not_busy : K.lookup f_hm_check_not_busy = some ⟨oc_hm_check_not_busy, od_hm_check_not_busy, .func (PySem.W.fnOf "check_not_busy" "Shelf.check_not_busy" (defArgs s_Shelf_check_not_busy) (defBody s_Shelf_check_not_busy) (defScope s_Shelf_check_not_busy) .none kV_hm_check_not_busy dc_hm_check_not_busy pm_hm_check_not_busy an_hm_check_not_busy cd_hm_check_not_busy ct_hm_check_not_busy), sl_hm_check_not_busy⟩)
    (c_hm_check_not_busy : PySem.W.codeIn K cd_hm_check_not_busy "Shelf.check_not_busy" = true)
    (k_hm_check_not_busy : PySem.W.keepIn K (.ref f_hm_check_not_busy) = true)
    (i_hm_check_not_busy : PySem.W.isFn K (.ref f_hm_check_not_busy) = true)
    (a_hm_add : PySem.W.findIn K (.ref C) "add" = some (some (.ref f_hm_add)))
    (l_hm_add : K.lookup f_hm_add = some ⟨oc_hm_add, od_hm_add, .func (PySem.W.fnOf "add" "Shelf.add" (defArgs s_Shelf_add) (defBody s_Shelf_add) (defScope s_Shelf_add) .none kV_hm_add dc_hm_add pm_hm_add an_hm_add cd_hm_add ct_hm_add), sl_hm_add⟩)
    (c_hm_add : PySem.W.codeIn K cd_hm_add "Shelf.add" = true)
    (k_hm_add : PySem.W.keepIn K (.ref f_hm_add) = true)
    (i_hm_add : PySem.W.isFn K (.ref f_hm_add) = true)
    (a_hm_remove : PySem.W.findIn K (.ref C) "remove" = some (some (.ref f_hm_remove)))
    (l_hm_remove : K.lookup f_hm_remove = some ⟨oc_hm_remove, od_hm_remove, .func (PySem.W.fnOf "remove" "Shelf.remove" (defArgs s_Shelf_remove) (defBody s_Shelf_remove) (defScope s_Shelf_remove) .none kV_hm_remove dc_hm_remove pm_hm_remove an_hm_remove cd_hm_remove ct_hm_remove), sl_hm_remove⟩)
    (c_hm_remove : PySem.W.codeIn K cd_hm_remove "Shelf.remove" = true)
    (k_hm_remove : PySem.W.keepIn K (.ref f_hm_remove) = true)
    (i_hm_remove : PySem.W.isFn K (.ref f_hm_remove) = true)
    (a_hlen : PySem.W.findIn K (.ref C) "__len__" = some (some (.ref f_hlen)))
    (l_hlen : K.lookup f_hlen = some ⟨oc_hlen, od_hlen, .func (PySem.W.fnOf "__len__" "Shelf.__len__" (defArgs s_Shelf_len) (defBody s_Shelf_len) (defScope s_Shelf_len) .none kV_hlen dc_hlen pm_hlen an_hlen cd_hlen ct_hlen), sl_hlen⟩)
    (c_hlen : PySem.W.codeIn K cd_hlen "Shelf.__len__" = true)
    (k_hlen : PySem.W.keepIn K (.ref f_hlen) = true)
    (i_hlen : PySem.W.isFn K (.ref f_hlen) = true)
    (acC : PySem.W.nsIn K mainGlobals "Console" = some (some (.ref M)))
    (a_ic : PySem.W.findIn K (.ref M) "__init__" = some (some (.ref f_ic)))
    (l_ic : K.lookup f_ic = some ⟨oc_ic, od_ic, .func (PySem.W.fnOf "__init__" "Console.__init__" (defArgs s_Console_init) (defBody s_Console_init) (defScope s_Console_init) .none kV_ic dc_ic pm_ic an_ic cd_ic ct_ic), sl_ic⟩)
    (c_ic : PySem.W.codeIn K cd_ic "Console.__init__" = true)
    (k_ic : PySem.W.keepIn K (.ref f_ic) = true)
    (i_ic : PySem.W.isFn K (.ref f_ic) = true)
    (pgc : PySem.W.plainGet K M Str.empty = true)
    (hdc : PySem.W.hasDictIn K M = true)
    (poc : PySem.W.plainOver K M = true)
    (sac : PySem.W.findIn K (.ref M) "__setattr__" = some (some (.builtin "object.__setattr__")))
    (mkcC : PySem.W.makesIn K M = true)
    (kcC : PySem.W.keepIn K (.ref M) = true)
    (nc_shelf : PySem.W.findIn K (.ref M) "shelf" = some none)
    (a_cm_say : PySem.W.findIn K (.ref M) "say" = some (some (.ref f_cm_say)))
    (l_cm_say : K.lookup f_cm_say = some ⟨oc_cm_say, od_cm_say, .func (PySem.W.fnOf "say" "Console.say" (defArgs s_Console_say) (defBody s_Console_say) (defScope s_Console_say) .none kV_cm_say dc_cm_say pm_cm_say an_cm_say cd_cm_say ct_cm_say), sl_cm_say⟩)
    (c_cm_say : PySem.W.codeIn K cd_cm_say "Console.say" = true)
    (k_cm_say : PySem.W.keepIn K (.ref f_cm_say) = true)
    (i_cm_say : PySem.W.isFn K (.ref f_cm_say) = true)
    (a_cm_answer_add : PySem.W.findIn K (.ref M) "answer_add" = some (some (.ref f_cm_answer_add)))
    (l_cm_answer_add : K.lookup f_cm_answer_add = some ⟨oc_cm_answer_add, od_cm_answer_add, .func (PySem.W.fnOf "answer_add" "Console.answer_add" (defArgs s_Console_answer_add) (defBody s_Console_answer_add) (defScope s_Console_answer_add) .none kV_cm_answer_add dc_cm_answer_add pm_cm_answer_add an_cm_answer_add cd_cm_answer_add ct_cm_answer_add), sl_cm_answer_add⟩)
    (c_cm_answer_add : PySem.W.codeIn K cd_cm_answer_add "Console.answer_add" = true)
    (k_cm_answer_add : PySem.W.keepIn K (.ref f_cm_answer_add) = true)
    (i_cm_answer_add : PySem.W.isFn K (.ref f_cm_answer_add) = true)
    (a_cm_answer_remove : PySem.W.findIn K (.ref M) "answer_remove" = some (some (.ref f_cm_answer_remove)))
    (l_cm_answer_remove : K.lookup f_cm_answer_remove = some ⟨oc_cm_answer_remove, od_cm_answer_remove, .func (PySem.W.fnOf "answer_remove" "Console.answer_remove" (defArgs s_Console_answer_remove) (defBody s_Console_answer_remove) (defScope s_Console_answer_remove) .none kV_cm_answer_remove dc_cm_answer_remove pm_cm_answer_remove an_cm_answer_remove cd_cm_answer_remove ct_cm_answer_remove), sl_cm_answer_remove⟩)
    (c_cm_answer_remove : PySem.W.codeIn K cd_cm_answer_remove "Console.answer_remove" = true)
    (k_cm_answer_remove : PySem.W.keepIn K (.ref f_cm_answer_remove) = true)
    (i_cm_answer_remove : PySem.W.isFn K (.ref f_cm_answer_remove) = true)
    (a_cm_answer_names : PySem.W.findIn K (.ref M) "answer_names" = some (some (.ref f_cm_answer_names)))
    (l_cm_answer_names : K.lookup f_cm_answer_names = some ⟨oc_cm_answer_names, od_cm_answer_names, .func (PySem.W.fnOf "answer_names" "Console.answer_names" (defArgs s_Console_answer_names) (defBody s_Console_answer_names) (defScope s_Console_answer_names) .none kV_cm_answer_names dc_cm_answer_names pm_cm_answer_names an_cm_answer_names cd_cm_answer_names ct_cm_answer_names), sl_cm_answer_names⟩)
    (c_cm_answer_names : PySem.W.codeIn K cd_cm_answer_names "Console.answer_names" = true)
    (k_cm_answer_names : PySem.W.keepIn K (.ref f_cm_answer_names) = true)
    (i_cm_answer_names : PySem.W.isFn K (.ref f_cm_answer_names) = true)
    (a_cm_answer_meet : PySem.W.findIn K (.ref M) "answer_meet" = some (some (.ref f_cm_answer_meet)))
    (l_cm_answer_meet : K.lookup f_cm_answer_meet = some ⟨oc_cm_answer_meet, od_cm_answer_meet, .func (PySem.W.fnOf "answer_meet" "Console.answer_meet" (defArgs s_Console_answer_meet) (defBody s_Console_answer_meet) (defScope s_Console_answer_meet) .none kV_cm_answer_meet dc_cm_answer_meet pm_cm_answer_meet an_cm_answer_meet cd_cm_answer_meet ct_cm_answer_meet), sl_cm_answer_meet⟩)
    (c_cm_answer_meet : PySem.W.codeIn K cd_cm_answer_meet "Console.answer_meet" = true)
    (k_cm_answer_meet : PySem.W.keepIn K (.ref f_cm_answer_meet) = true)
    (i_cm_answer_meet : PySem.W.isFn K (.ref f_cm_answer_meet) = true)
    (z_ArithmeticError : PySem.W.nsIn K mainGlobals "ArithmeticError" = some none)
    (z_LookupError : PySem.W.nsIn K mainGlobals "LookupError" = some none)
    (z_ValueError : PySem.W.nsIn K mainGlobals "ValueError" = some none)
    (z_abs : PySem.W.nsIn K mainGlobals "abs" = some none)
    (z_all : PySem.W.nsIn K mainGlobals "all" = some none)
    (z_bool : PySem.W.nsIn K mainGlobals "bool" = some none)
    (z_divmod : PySem.W.nsIn K mainGlobals "divmod" = some none)
    (z_enumerate : PySem.W.nsIn K mainGlobals "enumerate" = some none)
    (z_int : PySem.W.nsIn K mainGlobals "int" = some none)
    (z_isinstance : PySem.W.nsIn K mainGlobals "isinstance" = some none)
    (z_len : PySem.W.nsIn K mainGlobals "len" = some none)
    (z_list : PySem.W.nsIn K mainGlobals "list" = some none)
    (z_max : PySem.W.nsIn K mainGlobals "max" = some none)
    (z_min : PySem.W.nsIn K mainGlobals "min" = some none)
    (z_range : PySem.W.nsIn K mainGlobals "range" = some none)
    (z_set : PySem.W.nsIn K mainGlobals "set" = some none)
    (z_str : PySem.W.nsIn K mainGlobals "str" = some none)
    (z_tuple : PySem.W.nsIn K mainGlobals "tuple" = some none)
    (z_MOST_SIGNS : PySem.W.nsIn K mainGlobals "MOST_SIGNS" = some (some (.int 40 u_MOST_SIGNS)))
    (z_MOST_TEXT : PySem.W.nsIn K mainGlobals "MOST_TEXT" = some (some (.int 200 u_MOST_TEXT)))
    (z_MOST_SHELVED : PySem.W.nsIn K mainGlobals "MOST_SHELVED" = some (some (.int 20 u_MOST_SHELVED)))
    (z_SIGNS : PySem.W.nsIn K mainGlobals "SIGNS" = some (some (.str ".0123456789abcdefghijklmnopqrstuvwxyz~" u_SIGNS)))
    (z_RULES : PySem.W.nsIn K mainGlobals "RULES" = some (some (.ref T_RULES)))
    (zl_RULES : K.lookup T_RULES = some ⟨.type "tuple", td_RULES, .seq #[.str "count" e_RULES_0, .str "free" e_RULES_1, .str "tight" e_RULES_2] tn_RULES, ts_RULES⟩)
    (z_LEAST_WIDTH : PySem.W.nsIn K mainGlobals "LEAST_WIDTH" = some (some (.int 6 u_LEAST_WIDTH)))
    (z_DEED_WORDS : PySem.W.nsIn K mainGlobals "DEED_WORDS" = some (some (.ref T_DEED_WORDS)))
    (zl_DEED_WORDS : K.lookup T_DEED_WORDS = some ⟨.type "tuple", td_DEED_WORDS, .seq #[.str "add" e_DEED_WORDS_0, .str "remove" e_DEED_WORDS_1] tn_DEED_WORDS, ts_DEED_WORDS⟩)
    (z_REFUSED : PySem.W.nsIn K mainGlobals "REFUSED" = some (some (.str "refused" u_REFUSED))) :
    ∃ fd : FuncData, (∀ (s : Shared) (v : Value), BindsTo s fd ⟨[v], []⟩ [("_law_script", v)]) ∧ ∀ base : Heap, K.In base → base.Ns mainGlobals mg → FnG l.prog w K mg base 9 fa fd ["_law_script"] (spLaw K) := by
  have e := hfa.symm.trans (PySem.W.mg_of X G a_law)
  cases e
  have B : Bi mg := ⟨PySem.W.mg_none_of X G z_ArithmeticError, PySem.W.mg_none_of X G z_LookupError, PySem.W.mg_none_of X G z_ValueError, PySem.W.mg_none_of X G z_abs, PySem.W.mg_none_of X G z_all, PySem.W.mg_none_of X G z_bool, PySem.W.mg_none_of X G z_divmod, PySem.W.mg_none_of X G z_enumerate, PySem.W.mg_none_of X G z_int, PySem.W.mg_none_of X G z_isinstance, PySem.W.mg_none_of X G z_len, PySem.W.mg_none_of X G z_list, PySem.W.mg_none_of X G z_max, PySem.W.mg_none_of X G z_min, PySem.W.mg_none_of X G z_range, PySem.W.mg_none_of X G z_set, PySem.W.mg_none_of X G z_str, PySem.W.mg_none_of X G z_tuple, cst_mk X G ⟨_, rfl⟩ z_MOST_SIGNS, cst_mk X G ⟨_, rfl⟩ z_MOST_TEXT, cst_mk X G ⟨_, rfl⟩ z_MOST_SHELVED, cst_mk X G ⟨_, rfl⟩ z_SIGNS, cst_mk X G ⟨_, rfl⟩ z_LEAST_WIDTH, cst_mk X G ⟨_, rfl⟩ z_REFUSED⟩
  have Sn : NmC K mg N := ⟨⟨pgn, hdn, pon, san⟩, nn_rule, nn_width, PySem.W.mg_of X G anC, qan, qn, qt, qmn, if_pos (beq_self_eq_true _), ⟨T_RULES, PySem.W.mg_of X G z_RULES, fun H => .inr ⟨_, _, _, zl_RULES, rfl, rfl, by show 3 ≤ sizeLine; decide, (.cons ⟨_, rfl⟩ (.cons ⟨_, rfl⟩ (.cons ⟨_, rfl⟩ .nil)))⟩⟩⟩
  have In : NInitAt K N := ⟨f_in, _, ⟨mknC, a_in, i_in, knC⟩, fun_mk l_in c_in k_in, (fun_mk l_in c_in k_in).binds fun _ _ _ _ _ _ us hl => match us, hl with | [_, _, _], _ => rfl⟩
  have Sh : ShlC K mg C := ⟨⟨pgh, hdh, poh, sah⟩, nh_namer, nh_busy, nh_texts, nh_names, nh_past, PySem.W.mg_of X G ahC⟩
  have D_Shelf_become : MethAt K C "become" "Shelf.become" s_Shelf_become ps_Shelf_become := ⟨f_hm_become, _, ⟨a_hm_become, i_hm_become, k_hm_become⟩, fun_mk l_hm_become c_hm_become k_hm_become, (fun_mk l_hm_become c_hm_become k_hm_become).binds fun _ _ _ _ _ _ us hl => match us, hl with | [_, _, _], _ => rfl⟩
  have D_Shelf_let_come : MethAt K C "let_come" "Shelf.let_come" s_Shelf_let_come ps_Shelf_let_come := ⟨f_hm_let_come, _, ⟨a_hm_let_come, i_hm_let_come, k_hm_let_come⟩, fun_mk l_hm_let_come c_hm_let_come k_hm_let_come, (fun_mk l_hm_let_come c_hm_let_come k_hm_let_come).binds fun _ _ _ _ _ _ us hl => match us, hl with | [_, _], _ => rfl⟩
  have D_Shelf_let_go : MethAt K C "let_go" "Shelf.let_go" s_Shelf_let_go ps_Shelf_let_go := ⟨f_hm_let_go, _, ⟨a_hm_let_go, i_hm_let_go, k_hm_let_go⟩, fun_mk l_hm_let_go c_hm_let_go k_hm_let_go, (fun_mk l_hm_let_go c_hm_let_go k_hm_let_go).binds fun _ _ _ _ _ _ us hl => match us, hl with | [_, _], _ => rfl⟩
  have D_Shelf_check_not_busy : MethAt K C "check_not_busy" "Shelf.check_not_busy" s_Shelf_check_not_busy ps_Shelf_check_not_busy := ⟨f_hm_check_not_busy, _, ⟨a_hm_check_not_busy, i_hm_check_not_busy, k_hm_check_not_busy⟩, fun_mk l_hm_check_not_busy c_hm_check_not_busy k_hm_check_not_busy, (fun_mk l_hm_check_not_busy c_hm_check_not_busy k_hm_check_not_busy).binds fun _ _ _ _ _ _ us hl => match us, hl with | [_], _ => rfl⟩
  have D_Shelf_add : MethAt K C "add" "Shelf.add" s_Shelf_add ps_Shelf_add := ⟨f_hm_add, _, ⟨a_hm_add, i_hm_add, k_hm_add⟩, fun_mk l_hm_add c_hm_add k_hm_add, (fun_mk l_hm_add c_hm_add k_hm_add).binds fun _ _ _ _ _ _ us hl => match us, hl with | [_, _], _ => rfl⟩
  have D_Shelf_remove : MethAt K C "remove" "Shelf.remove" s_Shelf_remove ps_Shelf_remove := ⟨f_hm_remove, _, ⟨a_hm_remove, i_hm_remove, k_hm_remove⟩, fun_mk l_hm_remove c_hm_remove k_hm_remove, (fun_mk l_hm_remove c_hm_remove k_hm_remove).binds fun _ _ _ _ _ _ us hl => match us, hl with | [_, _], _ => rfl⟩
  have D_Shelf_len : LenFn K C := ⟨f_hlen, _, a_hlen, i_hlen, fun_mk l_hlen c_hlen k_hlen, (fun_mk l_hlen c_hlen k_hlen).binds fun _ _ _ _ _ _ us hl => match us, hl with | [_], _ => rfl⟩
  have Ih : ShInitAt K C := ⟨f_ih, _, ⟨mkhC, a_ih, i_ih, khC⟩, fun_mk l_ih c_ih k_ih, (fun_mk l_ih c_ih k_ih).binds fun _ _ _ _ _ _ us hl => match us, hl with | [_, _], _ => rfl⟩
  have Sc : ConC K mg M := ⟨⟨pgc, hdc, poc, sac⟩, nc_shelf, PySem.W.mg_of X G acC⟩
  have D_Console_say : MethAt K M "say" "Console.say" s_Console_say ps_Console_say := ⟨f_cm_say, _, ⟨a_cm_say, i_cm_say, k_cm_say⟩, fun_mk l_cm_say c_cm_say k_cm_say, (fun_mk l_cm_say c_cm_say k_cm_say).binds fun _ _ _ _ _ _ us hl => match us, hl with | [_, _], _ => rfl⟩
  have D_Console_answer_add : MethAt K M "answer_add" "Console.answer_add" s_Console_answer_add ps_Console_answer_add := ⟨f_cm_answer_add, _, ⟨a_cm_answer_add, i_cm_answer_add, k_cm_answer_add⟩, fun_mk l_cm_answer_add c_cm_answer_add k_cm_answer_add, (fun_mk l_cm_answer_add c_cm_answer_add k_cm_answer_add).binds fun _ _ _ _ _ _ us hl => match us, hl with | [_, _], _ => rfl⟩
  have D_Console_answer_remove : MethAt K M "answer_remove" "Console.answer_remove" s_Console_answer_remove ps_Console_answer_remove := ⟨f_cm_answer_remove, _, ⟨a_cm_answer_remove, i_cm_answer_remove, k_cm_answer_remove⟩, fun_mk l_cm_answer_remove c_cm_answer_remove k_cm_answer_remove, (fun_mk l_cm_answer_remove c_cm_answer_remove k_cm_answer_remove).binds fun _ _ _ _ _ _ us hl => match us, hl with | [_, _], _ => rfl⟩
  have D_Console_answer_names : MethAt K M "answer_names" "Console.answer_names" s_Console_answer_names ps_Console_answer_names := ⟨f_cm_answer_names, _, ⟨a_cm_answer_names, i_cm_answer_names, k_cm_answer_names⟩, fun_mk l_cm_answer_names c_cm_answer_names k_cm_answer_names, (fun_mk l_cm_answer_names c_cm_answer_names k_cm_answer_names).binds fun _ _ _ _ _ _ us hl => match us, hl with | [_], _ => rfl⟩
  have D_Console_answer_meet : MethAt K M "answer_meet" "Console.answer_meet" s_Console_answer_meet ps_Console_answer_meet := ⟨f_cm_answer_meet, _, ⟨a_cm_answer_meet, i_cm_answer_meet, k_cm_answer_meet⟩, fun_mk l_cm_answer_meet c_cm_answer_meet k_cm_answer_meet, (fun_mk l_cm_answer_meet c_cm_answer_meet k_cm_answer_meet).binds fun _ _ _ _ _ _ us hl => match us, hl with | [_], _ => rfl⟩
  have Ic : ConInitAt K M := ⟨f_ic, _, ⟨mkcC, a_ic, i_ic, kcC⟩, fun_mk l_ic c_ic k_ic, (fun_mk l_ic c_ic k_ic).binds fun _ _ _ _ _ _ us hl => match us, hl with | [_, _], _ => rfl⟩
  have A_is_integer : At K mg "is_integer" s_is_integer ps_is_integer := at_mk X G (fun _ _ _ _ _ _ us hl => match us, hl with | [_, _, _], _ => rfl) a_is_integer l_is_integer c_is_integer k_is_integer
  have A_is_text : At K mg "is_text" s_is_text ps_is_text := at_mk X G (fun _ _ _ _ _ _ us hl => match us, hl with | [_, _], _ => rfl) a_is_text l_is_text c_is_text k_is_text
  have A_check_text : At K mg "check_text" s_check_text ps_check_text := at_mk X G (fun _ _ _ _ _ _ us hl => match us, hl with | [_], _ => rfl) a_check_text l_check_text c_check_text k_check_text
  have A_check_namer : At K mg "check_namer" s_check_namer ps_check_namer := at_mk X G (fun _ _ _ _ _ _ us hl => match us, hl with | [_], _ => rfl) a_check_namer l_check_namer c_check_namer k_check_namer
  have A_base_of : At K mg "base_of" s_base_of ps_base_of := at_mk X G (fun _ _ _ _ _ _ us hl => match us, hl with | [_, _], _ => rfl) a_base_of l_base_of c_base_of k_base_of
  have A_numbered : At K mg "numbered" s_numbered ps_numbered := at_mk X G (fun _ _ _ _ _ _ us hl => match us, hl with | [_, _, _], _ => rfl) a_numbered l_numbered c_numbered k_numbered
  have A_counted_name : At K mg "counted_name" s_counted_name ps_counted_name := at_mk X G (fun _ _ _ _ _ _ us hl => match us, hl with | [_, _, _], _ => rfl) a_counted_name l_counted_name c_counted_name k_counted_name
  have A_free_name : At K mg "free_name" s_free_name ps_free_name := at_mk X G (fun _ _ _ _ _ _ us hl => match us, hl with | [_, _, _], _ => rfl) a_free_name l_free_name c_free_name k_free_name
  have A_name_of_next : At K mg "name_of_next" s_name_of_next ps_name_of_next := at_mk X G (fun _ _ _ _ _ _ us hl => match us, hl with | [_, _, _, _], _ => rfl) a_name_of_next l_name_of_next c_name_of_next k_name_of_next
  have A_word_behind : At K mg "word_behind" s_word_behind ps_word_behind := at_mk X G (fun _ _ _ _ _ _ us hl => match us, hl with | [_, _], _ => rfl) a_word_behind l_word_behind c_word_behind k_word_behind
  have A_law_source : At K mg "_law_source" s_law_source ps_law_source := at_mk X G (fun _ _ _ _ _ _ us hl => match us, hl with | [_, _], _ => rfl) a_law_source l_law_source c_law_source k_law_source
  have A_law_draw : At K mg "_law_draw" s_law_draw ps_law_draw := at_mk X G (fun _ _ _ _ _ _ us hl => match us, hl with | [_, _], _ => rfl) a_law_draw l_law_draw c_law_draw k_law_draw
  have A_law_one : At K mg "_law_one" s_law_one ps_law_one := at_mk X G (fun _ _ _ _ _ _ us hl => match us, hl with | [_, _], _ => rfl) a_law_one l_law_one c_law_one k_law_one
  have A_law_stem : At K mg "_law_stem" s_law_stem ps_law_stem := at_mk X G (fun _ _ _ _ _ _ us hl => match us, hl with | [_, _], _ => rfl) a_law_stem l_law_stem c_law_stem k_law_stem
  have A_law_come : At K mg "_law_come" s_law_come ps_law_come := at_mk X G (fun _ _ _ _ _ _ us hl => match us, hl with | [_, _, _, _], _ => rfl) a_law_come l_law_come c_law_come k_law_come
  have A_law_gone : At K mg "_law_gone" s_law_gone ps_law_gone := at_mk X G (fun _ _ _ _ _ _ us hl => match us, hl with | [_, _, _], _ => rfl) a_law_gone l_law_gone c_law_gone k_law_gone
  have A_law_right : At K mg "_law_right" s_law_right ps_law_right := at_mk X G (fun _ _ _ _ _ _ us hl => match us, hl with | [_], _ => rfl) a_law_right l_law_right c_law_right k_law_right
  exact ⟨_, fun s v => .of_eq rfl, fun base _ _ => fin B Sn In Sh Ih D_Shelf_become D_Shelf_let_come D_Shelf_let_go D_Shelf_check_not_busy D_Shelf_add D_Shelf_remove D_Shelf_len Sc Ic D_Console_say D_Console_answer_add D_Console_answer_remove D_Console_answer_names D_Console_answer_meet A_is_integer A_is_text A_check_text A_check_namer A_base_of A_numbered A_counted_name A_free_name A_name_of_next A_word_behind A_law_source A_law_draw A_law_one A_law_stem A_law_come A_law_gone A_law_right (fun_mk l_law c_law k_law)⟩
end Gu
open PySem PySem.W PyProof.Rows
set_option maxHeartbeats 0 in
theorem PySem.Challenge.cw_shownshort_k58_whole_counted_names_that_holds : PySem.Challenge.rw_shownshort_k58_whole_counted_names_that.Holds := by
  w_on; o_law; k_head; (case hw => w_witness2)
  k_fill
  refine Gu.walkG (l := PySem.Challenge.rw_shownshort_k58_whole_counted_names_that) (n := 63) (k := 9) (x := "_law_script") (sp := Gu.spLaw) rfl (by decide) rfl ⟨rfl, by decide, by decide⟩ (fun w h Y => PySem.W.kIn_of Y) ?F (fun _ _ a ns hl hS => ⟨a, ns, rfl, hS, hl, fun _ => rfl⟩)
  case F =>
    intro w mg fa h KX G hmg
    refine' Gu.all_mk KX G hmg ?a_is_integer ?l_is_integer ?c_is_integer ?k_is_integer ?a_is_text ?l_is_text ?c_is_text ?k_is_text ?a_check_text ?l_check_text ?c_check_text ?k_check_text ?a_check_namer ?l_check_namer ?c_check_namer ?k_check_namer ?a_base_of ?l_base_of ?c_base_of ?k_base_of ?a_numbered ?l_numbered ?c_numbered ?k_numbered ?a_counted_name ?l_counted_name ?c_counted_name ?k_counted_name ?a_free_name ?l_free_name ?c_free_name ?k_free_name ?a_name_of_next ?l_name_of_next ?c_name_of_next ?k_name_of_next ?a_word_behind ?l_word_behind ?c_word_behind ?k_word_behind ?a_law_source ?l_law_source ?c_law_source ?k_law_source ?a_law_draw ?l_law_draw ?c_law_draw ?k_law_draw ?a_law_one ?l_law_one ?c_law_one ?k_law_one ?a_law_stem ?l_law_stem ?c_law_stem ?k_law_stem ?a_law_come ?l_law_come ?c_law_come ?k_law_come ?a_law_gone ?l_law_gone ?c_law_gone ?k_law_gone ?a_law_right ?l_law_right ?c_law_right ?k_law_right ?a_law ?l_law ?c_law ?k_law ?qn ?qt ?anC ?a_in ?l_in ?c_in ?k_in ?i_in ?pgn ?hdn ?pon ?san ?mknC ?knC ?nn_rule ?nn_width ?qan ?qmn ?ahC ?a_ih ?l_ih ?c_ih ?k_ih ?i_ih ?pgh ?hdh ?poh ?sah ?mkhC ?khC ?nh_namer ?nh_busy ?nh_texts ?nh_names ?nh_past ?a_hm_become ?l_hm_become ?c_hm_become ?k_hm_become ?i_hm_become ?a_hm_let_come ?l_hm_let_come ?c_hm_let_come ?k_hm_let_come ?i_hm_let_come ?a_hm_let_go ?l_hm_let_go ?c_hm_let_go ?k_hm_let_go ?i_hm_let_go ?a_hm_check_not_busy ?l_hm_check_not_busy ?c_hm_check_not_busy ?k_hm_check_not_busy ?i_hm_check_not_busy ?a_hm_add ?l_hm_add ?c_hm_add ?k_hm_add ?i_hm_add ?a_hm_remove ?l_hm_remove ?c_hm_remove ?k_hm_remove ?i_hm_remove ?a_hlen ?l_hlen ?c_hlen ?k_hlen ?i_hlen ?acC ?a_ic ?l_ic ?c_ic ?k_ic ?i_ic ?pgc ?hdc ?poc ?sac ?mkcC ?kcC ?nc_shelf ?a_cm_say ?l_cm_say ?c_cm_say ?k_cm_say ?i_cm_say ?a_cm_answer_add ?l_cm_answer_add ?c_cm_answer_add ?k_cm_answer_add ?i_cm_answer_add ?a_cm_answer_remove ?l_cm_answer_remove ?c_cm_answer_remove ?k_cm_answer_remove ?i_cm_answer_remove ?a_cm_answer_names ?l_cm_answer_names ?c_cm_answer_names ?k_cm_answer_names ?i_cm_answer_names ?a_cm_answer_meet ?l_cm_answer_meet ?c_cm_answer_meet ?k_cm_answer_meet ?i_cm_answer_meet ?z_ArithmeticError ?z_LookupError ?z_ValueError ?z_abs ?z_all ?z_bool ?z_divmod ?z_enumerate ?z_int ?z_isinstance ?z_len ?z_list ?z_max ?z_min ?z_range ?z_set ?z_str ?z_tuple ?z_MOST_SIGNS ?z_MOST_TEXT ?z_MOST_SHELVED ?z_SIGNS ?z_RULES ?zl_RULES ?z_LEAST_WIDTH ?z_DEED_WORDS ?zl_DEED_WORDS ?z_REFUSED
    (case a_is_integer => k_is)
    (case l_is_integer => k_is)
    (case c_is_integer => k_is)
    (case k_is_integer => k_is)
    (case a_is_text => k_is)
    (case l_is_text => k_is)
    (case c_is_text => k_is)
    (case k_is_text => k_is)
    (case a_check_text => k_is)
    (case l_check_text => k_is)
    (case c_check_text => k_is)
    (case k_check_text => k_is)
    (case a_check_namer => k_is)
    (case l_check_namer => k_is)
    (case c_check_namer => k_is)
    (case k_check_namer => k_is)
    (case a_base_of => k_is)
    (case l_base_of => k_is)
    (case c_base_of => k_is)
    (case k_base_of => k_is)
    (case a_numbered => k_is)
    (case l_numbered => k_is)
    (case c_numbered => k_is)
    (case k_numbered => k_is)
    (case a_counted_name => k_is)
    (case l_counted_name => k_is)
    (case c_counted_name => k_is)
    (case k_counted_name => k_is)
    (case a_free_name => k_is)
    (case l_free_name => k_is)
    (case c_free_name => k_is)
    (case k_free_name => k_is)
    (case a_name_of_next => k_is)
    (case l_name_of_next => k_is)
    (case c_name_of_next => k_is)
    (case k_name_of_next => k_is)
    (case a_word_behind => k_is)
    (case l_word_behind => k_is)
    (case c_word_behind => k_is)
    (case k_word_behind => k_is)
    (case a_law_source => k_is)
    (case l_law_source => k_is)
    (case c_law_source => k_is)
    (case k_law_source => k_is)
    (case a_law_draw => k_is)
    (case l_law_draw => k_is)
    (case c_law_draw => k_is)
    (case k_law_draw => k_is)
    (case a_law_one => k_is)
    (case l_law_one => k_is)
    (case c_law_one => k_is)
    (case k_law_one => k_is)
    (case a_law_stem => k_is)
    (case l_law_stem => k_is)
    (case c_law_stem => k_is)
    (case k_law_stem => k_is)
    (case a_law_come => k_is)
    (case l_law_come => k_is)
    (case c_law_come => k_is)
    (case k_law_come => k_is)
    (case a_law_gone => k_is)
    (case l_law_gone => k_is)
    (case c_law_gone => k_is)
    (case k_law_gone => k_is)
    (case a_law_right => k_is)
    (case l_law_right => k_is)
    (case c_law_right => k_is)
    (case k_law_right => k_is)
    (case a_law => k_is)
    (case l_law => k_is)
    (case c_law => k_is)
    (case k_law => k_is)
    (case qn => k_is)
    (case qt => k_is)
    (case anC => k_is)
    (case a_in => k_is)
    (case l_in => k_is)
    (case c_in => k_is)
    (case k_in => k_is)
    (case i_in => k_is)
    (case pgn => k_is)
    (case hdn => k_is)
    (case pon => k_is)
    (case san => k_is)
    (case mknC => k_is)
    (case knC => k_is)
    (case nn_rule => k_is)
    (case nn_width => k_is)
    (case qan => k_is)
    (case qmn => k_is)
    (case ahC => k_is)
    (case a_ih => k_is)
    (case l_ih => k_is)
    (case c_ih => k_is)
    (case k_ih => k_is)
    (case i_ih => k_is)
    (case pgh => k_is)
    (case hdh => k_is)
    (case poh => k_is)
    (case sah => k_is)
    (case mkhC => k_is)
    (case khC => k_is)
    (case nh_namer => k_is)
    (case nh_busy => k_is)
    (case nh_texts => k_is)
    (case nh_names => k_is)
    (case nh_past => k_is)
    (case a_hm_become => k_is)
    (case l_hm_become => k_is)
    (case c_hm_become => k_is)
    (case k_hm_become => k_is)
    (case i_hm_become => k_is)
    (case a_hm_let_come => k_is)
    (case l_hm_let_come => k_is)
    (case c_hm_let_come => k_is)
    (case k_hm_let_come => k_is)
    (case i_hm_let_come => k_is)
    (case a_hm_let_go => k_is)
    (case l_hm_let_go => k_is)
    (case c_hm_let_go => k_is)
    (case k_hm_let_go => k_is)
    (case i_hm_let_go => k_is)
    (case a_hm_check_not_busy => k_is)
    (case l_hm_check_not_busy => k_is)
    (case c_hm_check_not_busy => k_is)
    (case k_hm_check_not_busy => k_is)
    (case i_hm_check_not_busy => k_is)
    (case a_hm_add => k_is)
    (case l_hm_add => k_is)
    (case c_hm_add => k_is)
    (case k_hm_add => k_is)
    (case i_hm_add => k_is)
    (case a_hm_remove => k_is)
    (case l_hm_remove => k_is)
    (case c_hm_remove => k_is)
    (case k_hm_remove => k_is)
    (case i_hm_remove => k_is)
    (case a_hlen => k_is)
    (case l_hlen => k_is)
    (case c_hlen => k_is)
    (case k_hlen => k_is)
    (case i_hlen => k_is)
    (case acC => k_is)
    (case a_ic => k_is)
    (case l_ic => k_is)
    (case c_ic => k_is)
    (case k_ic => k_is)
    (case i_ic => k_is)
    (case pgc => k_is)
    (case hdc => k_is)
    (case poc => k_is)
    (case sac => k_is)
    (case mkcC => k_is)
    (case kcC => k_is)
    (case nc_shelf => k_is)
    (case a_cm_say => k_is)
    (case l_cm_say => k_is)
    (case c_cm_say => k_is)
    (case k_cm_say => k_is)
    (case i_cm_say => k_is)
    (case a_cm_answer_add => k_is)
    (case l_cm_answer_add => k_is)
    (case c_cm_answer_add => k_is)
    (case k_cm_answer_add => k_is)
    (case i_cm_answer_add => k_is)
    (case a_cm_answer_remove => k_is)
    (case l_cm_answer_remove => k_is)
    (case c_cm_answer_remove => k_is)
    (case k_cm_answer_remove => k_is)
    (case i_cm_answer_remove => k_is)
    (case a_cm_answer_names => k_is)
    (case l_cm_answer_names => k_is)
    (case c_cm_answer_names => k_is)
    (case k_cm_answer_names => k_is)
    (case i_cm_answer_names => k_is)
    (case a_cm_answer_meet => k_is)
    (case l_cm_answer_meet => k_is)
    (case c_cm_answer_meet => k_is)
    (case k_cm_answer_meet => k_is)
    (case i_cm_answer_meet => k_is)
    (case z_ArithmeticError => k_is)
    (case z_LookupError => k_is)
    (case z_ValueError => k_is)
    (case z_abs => k_is)
    (case z_all => k_is)
    (case z_bool => k_is)
    (case z_divmod => k_is)
    (case z_enumerate => k_is)
    (case z_int => k_is)
    (case z_isinstance => k_is)
    (case z_len => k_is)
    (case z_list => k_is)
    (case z_max => k_is)
    (case z_min => k_is)
    (case z_range => k_is)
    (case z_set => k_is)
    (case z_str => k_is)
    (case z_tuple => k_is)
    (case z_MOST_SIGNS => k_is)
    (case z_MOST_TEXT => k_is)
    (case z_MOST_SHELVED => k_is)
    (case z_SIGNS => k_is)
    (case z_RULES => k_is)
    (case zl_RULES => k_is)
    (case z_LEAST_WIDTH => k_is)
    (case z_DEED_WORDS => k_is)
    (case zl_DEED_WORDS => k_is)
    (case z_REFUSED => k_is)
