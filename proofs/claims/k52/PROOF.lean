import PyProof.Rows.All
import Wide.All
import OpenK.AllK
import Wide.FinOn
import HandS.Base
import HandS.Call
import HandS.List
import HandS.Comp
import HandS.Ends
import HandS.Dict
import HandS.Iter
import HandS.Text
import HandS.Words
import HandS.WordsList
import HandS.WordsDict
import HandS.Conv
import HandS.Walk
import HandS.IsInst
import HandS.MakeKw
import HandS.MakeKwOnly
import HandS.Flow
import HandS.TupAny
import HandS.TupMul
import HandS.FStr
import HandS.Zip
import HandS.Style
import HandS.Codes
import HandS.TupLe
import HandS.SetKeys
import HandS.Strs
import HandS.SetFor
import HandS.Deep
import HandS.SortInts
import HandS.More
import HandS.CallLocal
import HandS.HeadHook3
import HandS.Exc
import HandS.TryOnly
import HandS.TryMany
import HandS.WordsExc
import HandS.ExcField
import HandS.ExcIs
import HandS.ExcInit
import HandS.Lambda
import HandS.HotCalls
import KE.KTryMore
import KE.KExcInit
import KE.KExcIs
import PyProof.ExcBaseAll.LookupError
import PyProof.ExcBaseAll.ArithmeticError
import KE.GoesMore
import KE.GoesZip
import KE.KUnpack
import PyProof.TupleOfStr
import PySem.Challenge.RW_shownshort_k52_whole_names_on_shelves
set_option Elab.async false
set_option linter.all false
set_option maxRecDepth 100000
namespace Gu
open PySem PySem.Spec PyProof.Rows L2
/-! the text, by places -/
def topS (i : Nat) : Stmt := PySem.Challenge.pw_shownshort_k52_whole_names_on_shelves.main.body.getD i (.Pass ⟨0, 0, 0, 0⟩)
abbrev s_InvalidText_init : Stmt := inClass (topS 2) 0
abbrev ps_InvalidText_init : List Str := ["self", "value"]
theorem sc_InvalidText_init : FnScope ["self", "value"] ps_InvalidText_init (defScope s_InvalidText_init) := ⟨rfl, rfl, rfl, by decide +kernel, rfl, by decide +kernel, by decide +kernel⟩
abbrev s_InvalidRule_init : Stmt := inClass (topS 3) 0
abbrev ps_InvalidRule_init : List Str := ["self", "value"]
theorem sc_InvalidRule_init : FnScope ["self", "value"] ps_InvalidRule_init (defScope s_InvalidRule_init) := ⟨rfl, rfl, rfl, by decide +kernel, rfl, by decide +kernel, by decide +kernel⟩
abbrev s_InvalidWidth_init : Stmt := inClass (topS 4) 0
abbrev ps_InvalidWidth_init : List Str := ["self", "value"]
theorem sc_InvalidWidth_init : FnScope ["self", "value"] ps_InvalidWidth_init (defScope s_InvalidWidth_init) := ⟨rfl, rfl, rfl, by decide +kernel, rfl, by decide +kernel, by decide +kernel⟩
abbrev s_NotANamer_init : Stmt := inClass (topS 5) 0
abbrev ps_NotANamer_init : List Str := ["self", "value"]
theorem sc_NotANamer_init : FnScope ["self", "value"] ps_NotANamer_init (defScope s_NotANamer_init) := ⟨rfl, rfl, rfl, by decide +kernel, rfl, by decide +kernel, by decide +kernel⟩
abbrev s_NotAShelf_init : Stmt := inClass (topS 6) 0
abbrev ps_NotAShelf_init : List Str := ["self", "value"]
theorem sc_NotAShelf_init : FnScope ["self", "value"] ps_NotAShelf_init (defScope s_NotAShelf_init) := ⟨rfl, rfl, rfl, by decide +kernel, rfl, by decide +kernel, by decide +kernel⟩
abbrev s_InvalidTexts_init : Stmt := inClass (topS 7) 0
abbrev ps_InvalidTexts_init : List Str := ["self", "index"]
theorem sc_InvalidTexts_init : FnScope ["self", "index"] ps_InvalidTexts_init (defScope s_InvalidTexts_init) := ⟨rfl, rfl, rfl, by decide +kernel, rfl, by decide +kernel, by decide +kernel⟩
abbrev s_InvalidDeeds_init : Stmt := inClass (topS 8) 0
abbrev ps_InvalidDeeds_init : List Str := ["self", "index"]
theorem sc_InvalidDeeds_init : FnScope ["self", "index"] ps_InvalidDeeds_init (defScope s_InvalidDeeds_init) := ⟨rfl, rfl, rfl, by decide +kernel, rfl, by decide +kernel, by decide +kernel⟩
abbrev s_UnknownName_init : Stmt := inClass (topS 12) 0
abbrev ps_UnknownName_init : List Str := ["self", "value"]
theorem sc_UnknownName_init : FnScope ["self", "value"] ps_UnknownName_init (defScope s_UnknownName_init) := ⟨rfl, rfl, rfl, by decide +kernel, rfl, by decide +kernel, by decide +kernel⟩
abbrev s_TooMany_init : Stmt := inClass (topS 14) 0
abbrev ps_TooMany_init : List Str := ["self", "limit"]
theorem sc_TooMany_init : FnScope ["self", "limit"] ps_TooMany_init (defScope s_TooMany_init) := ⟨rfl, rfl, rfl, by decide +kernel, rfl, by decide +kernel, by decide +kernel⟩
abbrev s_is_integer : Stmt := topS 21
abbrev ps_is_integer : List Str := ["value", "least", "most"]
theorem sc_is_integer : FnScope ["value", "least", "most"] ps_is_integer (defScope s_is_integer) := ⟨rfl, rfl, rfl, by decide +kernel, rfl, by decide +kernel, by decide +kernel⟩
abbrev s_is_tuple : Stmt := topS 22
abbrev ps_is_tuple : List Str := ["value", "least", "most"]
theorem sc_is_tuple : FnScope ["value", "least", "most"] ps_is_tuple (defScope s_is_tuple) := ⟨rfl, rfl, rfl, by decide +kernel, rfl, by decide +kernel, by decide +kernel⟩
abbrev s_is_text : Stmt := topS 23
abbrev ps_is_text : List Str := ["value", "most"]
theorem sc_is_text : FnScope ["value", "most", "character"] ps_is_text (defScope s_is_text) := ⟨rfl, rfl, rfl, by decide +kernel, rfl, by decide +kernel, by decide +kernel⟩
abbrev s_check_text : Stmt := topS 24
abbrev ps_check_text : List Str := ["text"]
theorem sc_check_text : FnScope ["text"] ps_check_text (defScope s_check_text) := ⟨rfl, rfl, rfl, by decide +kernel, rfl, by decide +kernel, by decide +kernel⟩
abbrev s_check_texts : Stmt := topS 25
abbrev ps_check_texts : List Str := ["texts", "most"]
theorem sc_check_texts : FnScope ["texts", "most", "place", "text"] ps_check_texts (defScope s_check_texts) := ⟨rfl, rfl, rfl, by decide +kernel, rfl, by decide +kernel, by decide +kernel⟩
abbrev s_Namer_init : Stmt := inClass (topS 29) 0
abbrev ps_Namer_init : List Str := ["self", "rule", "width"]
theorem sc_Namer_init : FnScope ["self", "rule", "width"] ps_Namer_init (defScope s_Namer_init) := ⟨rfl, rfl, rfl, by decide +kernel, rfl, by decide +kernel, by decide +kernel⟩
abbrev s_Namer_eq : Stmt := inClass (topS 29) 1
abbrev ps_Namer_eq : List Str := ["self", "other"]
theorem sc_Namer_eq : FnScope ["self", "other"] ps_Namer_eq (defScope s_Namer_eq) := ⟨rfl, rfl, rfl, by decide +kernel, rfl, by decide +kernel, by decide +kernel⟩
abbrev s_Namer_repr : Stmt := inClass (topS 29) 2
abbrev ps_Namer_repr : List Str := ["self"]
theorem sc_Namer_repr : FnScope ["self"] ps_Namer_repr (defScope s_Namer_repr) := ⟨rfl, rfl, rfl, by decide +kernel, rfl, by decide +kernel, by decide +kernel⟩
abbrev s_check_namer : Stmt := topS 30
abbrev ps_check_namer : List Str := ["namer"]
theorem sc_check_namer : FnScope ["namer"] ps_check_namer (defScope s_check_namer) := ⟨rfl, rfl, rfl, by decide +kernel, rfl, by decide +kernel, by decide +kernel⟩
abbrev s_base_of : Stmt := topS 31
abbrev ps_base_of : List Str := ["namer", "text"]
theorem sc_base_of : FnScope ["namer", "text"] ps_base_of (defScope s_base_of) := ⟨rfl, rfl, rfl, by decide +kernel, rfl, by decide +kernel, by decide +kernel⟩
abbrev s_numbered : Stmt := topS 32
abbrev ps_numbered : List Str := ["namer", "base", "number"]
theorem sc_numbered : FnScope ["namer", "base", "number", "ending"] ps_numbered (defScope s_numbered) := ⟨rfl, rfl, rfl, by decide +kernel, rfl, by decide +kernel, by decide +kernel⟩
abbrev s_counted_name : Stmt := topS 33
abbrev ps_counted_name : List Str := ["namer", "base", "texts"]
theorem sc_counted_name : FnScope ["namer", "base", "texts", "number", "text"] ps_counted_name (defScope s_counted_name) := ⟨rfl, rfl, rfl, by decide +kernel, rfl, by decide +kernel, by decide +kernel⟩
abbrev s_free_name : Stmt := topS 34
abbrev ps_free_name : List Str := ["namer", "base", "taken"]
theorem sc_free_name : FnScope ["namer", "base", "taken", "name", "number"] ps_free_name (defScope s_free_name) := ⟨rfl, rfl, rfl, by decide +kernel, rfl, by decide +kernel, by decide +kernel⟩
abbrev s_name_of_next : Stmt := topS 35
abbrev ps_name_of_next : List Str := ["namer", "text", "texts", "taken"]
theorem sc_name_of_next : FnScope ["namer", "text", "texts", "taken", "base"] ps_name_of_next (defScope s_name_of_next) := ⟨rfl, rfl, rfl, by decide +kernel, rfl, by decide +kernel, by decide +kernel⟩
abbrev s_named : Stmt := topS 36
abbrev ps_named : List Str := ["namer", "texts"]
theorem sc_named : FnScope ["namer", "texts", "given", "place", "text"] ps_named (defScope s_named) := ⟨rfl, rfl, rfl, by decide +kernel, rfl, by decide +kernel, by decide +kernel⟩
abbrev s_names : Stmt := topS 37
abbrev ps_names : List Str := ["namer", "texts"]
theorem sc_names : FnScope ["namer", "texts"] ps_names (defScope s_names) := ⟨rfl, rfl, rfl, by decide +kernel, rfl, by decide +kernel, by decide +kernel⟩
abbrev s_is_deed : Stmt := topS 40
abbrev ps_is_deed : List Str := ["value"]
theorem sc_is_deed : FnScope ["value"] ps_is_deed (defScope s_is_deed) := ⟨rfl, rfl, rfl, by decide +kernel, rfl, by decide +kernel, by decide +kernel⟩
abbrev s_check_deeds : Stmt := topS 41
abbrev ps_check_deeds : List Str := ["deeds"]
theorem sc_check_deeds : FnScope ["deeds", "place", "deed"] ps_check_deeds (defScope s_check_deeds) := ⟨rfl, rfl, rfl, by decide +kernel, rfl, by decide +kernel, by decide +kernel⟩
abbrev s_Entry_init : Stmt := inClass (topS 42) 0
abbrev ps_Entry_init : List Str := ["self", "shelf", "outer"]
theorem sc_Entry_init : FnScope ["self", "shelf", "outer"] ps_Entry_init (defScope s_Entry_init) := ⟨rfl, rfl, rfl, by decide +kernel, rfl, by decide +kernel, by decide +kernel⟩
abbrev s_Trial_init : Stmt := inClass (topS 43) 0
abbrev ps_Trial_init : List Str := ["self", "shelf"]
theorem sc_Trial_init : FnScope ["self", "shelf"] ps_Trial_init (defScope s_Trial_init) := ⟨rfl, rfl, rfl, by decide +kernel, rfl, by decide +kernel, by decide +kernel⟩
abbrev s_Trial_enter : Stmt := inClass (topS 43) 1
abbrev ps_Trial_enter : List Str := ["self"]
theorem sc_Trial_enter : FnScope ["self"] ps_Trial_enter (defScope s_Trial_enter) := ⟨rfl, rfl, rfl, by decide +kernel, rfl, by decide +kernel, by decide +kernel⟩
abbrev s_Trial_exit : Stmt := inClass (topS 43) 2
abbrev ps_Trial_exit : List Str := ["self", "kind", "value", "trace"]
theorem sc_Trial_exit : FnScope ["self", "kind", "value", "trace"] ps_Trial_exit (defScope s_Trial_exit) := ⟨rfl, rfl, rfl, by decide +kernel, rfl, by decide +kernel, by decide +kernel⟩
abbrev s_Shelf_init : Stmt := inClass (topS 44) 0
abbrev ps_Shelf_init : List Str := ["self", "namer"]
theorem sc_Shelf_init : FnScope ["self", "namer"] ps_Shelf_init (defScope s_Shelf_init) := ⟨rfl, rfl, rfl, by decide +kernel, rfl, by decide +kernel, by decide +kernel⟩
abbrev s_Shelf_len : Stmt := inClass (topS 44) 1
abbrev ps_Shelf_len : List Str := ["self"]
theorem sc_Shelf_len : FnScope ["self"] ps_Shelf_len (defScope s_Shelf_len) := ⟨rfl, rfl, rfl, by decide +kernel, rfl, by decide +kernel, by decide +kernel⟩
abbrev s_Shelf_repr : Stmt := inClass (topS 44) 2
abbrev ps_Shelf_repr : List Str := ["self"]
theorem sc_Shelf_repr : FnScope ["self"] ps_Shelf_repr (defScope s_Shelf_repr) := ⟨rfl, rfl, rfl, by decide +kernel, rfl, by decide +kernel, by decide +kernel⟩
abbrev s_Shelf_check_not_busy : Stmt := inClass (topS 44) 3
abbrev ps_Shelf_check_not_busy : List Str := ["self"]
theorem sc_Shelf_check_not_busy : FnScope ["self"] ps_Shelf_check_not_busy (defScope s_Shelf_check_not_busy) := ⟨rfl, rfl, rfl, by decide +kernel, rfl, by decide +kernel, by decide +kernel⟩
abbrev s_Shelf_become : Stmt := inClass (topS 44) 4
abbrev ps_Shelf_become : List Str := ["self", "texts", "names"]
theorem sc_Shelf_become : FnScope ["self", "texts", "names"] ps_Shelf_become (defScope s_Shelf_become) := ⟨rfl, rfl, rfl, by decide +kernel, rfl, by decide +kernel, by decide +kernel⟩
abbrev s_Shelf_let_come : Stmt := inClass (topS 44) 5
abbrev ps_Shelf_let_come : List Str := ["self", "text"]
theorem sc_Shelf_let_come : FnScope ["self", "text", "name"] ps_Shelf_let_come (defScope s_Shelf_let_come) := ⟨rfl, rfl, rfl, by decide +kernel, rfl, by decide +kernel, by decide +kernel⟩
abbrev s_Shelf_let_go : Stmt := inClass (topS 44) 6
abbrev ps_Shelf_let_go : List Str := ["self", "name"]
theorem sc_Shelf_let_go : FnScope ["self", "name", "place", "text"] ps_Shelf_let_go (defScope s_Shelf_let_go) := ⟨rfl, rfl, rfl, by decide +kernel, rfl, by decide +kernel, by decide +kernel⟩
abbrev s_Shelf_do_deed : Stmt := inClass (topS 44) 7
abbrev ps_Shelf_do_deed : List Str := ["self", "deed"]
theorem sc_Shelf_do_deed : FnScope ["self", "deed", "word", "told"] ps_Shelf_do_deed (defScope s_Shelf_do_deed) := ⟨rfl, rfl, rfl, by decide +kernel, rfl, by decide +kernel, by decide +kernel⟩
abbrev s_Shelf_add : Stmt := inClass (topS 44) 8
abbrev ps_Shelf_add : List Str := ["self", "text"]
theorem sc_Shelf_add : FnScope ["self", "text"] ps_Shelf_add (defScope s_Shelf_add) := ⟨rfl, rfl, rfl, by decide +kernel, rfl, by decide +kernel, by decide +kernel⟩
abbrev s_Shelf_remove : Stmt := inClass (topS 44) 9
abbrev ps_Shelf_remove : List Str := ["self", "name"]
theorem sc_Shelf_remove : FnScope ["self", "name"] ps_Shelf_remove (defScope s_Shelf_remove) := ⟨rfl, rfl, rfl, by decide +kernel, rfl, by decide +kernel, by decide +kernel⟩
abbrev s_Shelf_do_all : Stmt := inClass (topS 44) 10
abbrev ps_Shelf_do_all : List Str := ["self", "watch", "deeds"]
theorem sc_Shelf_do_all : FnScope ["self", "watch", "deeds", "texts", "names", "past", "place", "deed"] ps_Shelf_do_all (defScope s_Shelf_do_all) := ⟨rfl, rfl, rfl, by decide +kernel, rfl, by decide +kernel, by decide +kernel⟩
abbrev s_Shelf_undo : Stmt := inClass (topS 44) 11
abbrev ps_Shelf_undo : List Str := ["self"]
theorem sc_Shelf_undo : FnScope ["self"] ps_Shelf_undo (defScope s_Shelf_undo) := ⟨rfl, rfl, rfl, by decide +kernel, rfl, by decide +kernel, by decide +kernel⟩
abbrev s_Shelf_trial : Stmt := inClass (topS 44) 12
abbrev ps_Shelf_trial : List Str := ["self"]
theorem sc_Shelf_trial : FnScope ["self"] ps_Shelf_trial (defScope s_Shelf_trial) := ⟨rfl, rfl, rfl, by decide +kernel, rfl, by decide +kernel, by decide +kernel⟩
abbrev s_within : Stmt := topS 45
abbrev ps_within : List Str := ["trial", "act"]
theorem sc_within : FnScope ["trial", "act", "shelf"] ps_within (defScope s_within) := ⟨rfl, rfl, rfl, by decide +kernel, rfl, by decide +kernel, by decide +kernel⟩
abbrev s_attempt : Stmt := topS 46
abbrev ps_attempt : List Str := ["shelf", "act"]
theorem sc_attempt : FnScope ["shelf", "act"] ps_attempt (defScope s_attempt) := ⟨rfl, rfl, rfl, by decide +kernel, rfl, by decide +kernel, by decide +kernel⟩
abbrev s_law_source : Stmt := topS 48
abbrev ps_law_source : List Str := ["_law_cells", "_law_turn"]
theorem sc_law_source : FnScope ["_law_cells", "_law_turn", "_law_mixed", "_law_cell", "_law_own"] ps_law_source (defScope s_law_source) := ⟨rfl, rfl, rfl, by decide +kernel, rfl, by decide +kernel, by decide +kernel⟩
abbrev s_law_draw : Stmt := topS 49
abbrev ps_law_draw : List Str := ["_law_source_here", "_law_size"]
theorem sc_law_draw : FnScope ["_law_source_here", "_law_size", "_law_digit", "_law_state", "_law_factor"] ps_law_draw (defScope s_law_draw) := ⟨rfl, rfl, rfl, by decide +kernel, rfl, by decide +kernel, by decide +kernel⟩
abbrev s_law_one : Stmt := topS 50
abbrev ps_law_one : List Str := ["_law_source_here", "_law_some"]
theorem sc_law_one : FnScope ["_law_source_here", "_law_some"] ps_law_one (defScope s_law_one) := ⟨rfl, rfl, rfl, by decide +kernel, rfl, by decide +kernel, by decide +kernel⟩
abbrev s_law_stem : Stmt := topS 51
abbrev ps_law_stem : List Str := ["_law_source_here", "_law_size"]
theorem sc_law_stem : FnScope ["_law_source_here", "_law_size", "_law_abc", "_law_k"] ps_law_stem (defScope s_law_stem) := ⟨rfl, rfl, rfl, by decide +kernel, rfl, by decide +kernel, by decide +kernel⟩
abbrev s_law_word : Stmt := topS 52
abbrev ps_law_word : List Str := ["_law_source_here", "_law_stems"]
theorem sc_law_word : FnScope ["_law_source_here", "_law_stems", "_law_way", "_law_stem_here"] ps_law_word (defScope s_law_word) := ⟨rfl, rfl, rfl, by decide +kernel, rfl, by decide +kernel, by decide +kernel⟩
abbrev s_law_made : Stmt := topS 53
abbrev ps_law_made : List Str := ["_law_base", "_law_number", "_law_sort", "_law_size"]
theorem sc_law_made : FnScope ["_law_base", "_law_number", "_law_sort", "_law_size", "_law_ending", "_law_lost"] ps_law_made (defScope s_law_made) := ⟨rfl, rfl, rfl, by decide +kernel, rfl, by decide +kernel, by decide +kernel⟩
abbrev s_law_due : Stmt := topS 54
abbrev ps_law_due : List Str := ["_law_mine", "_law_sort", "_law_size", "_law_text_here"]
theorem sc_law_due : FnScope ["_law_mine", "_law_sort", "_law_size", "_law_text_here", "_law_base", "_law_number", "_law_found", "_law_each"] ps_law_due (defScope s_law_due) := ⟨rfl, rfl, rfl, by decide +kernel, rfl, by decide +kernel, by decide +kernel⟩
abbrev s_law_come : Stmt := topS 55
abbrev ps_law_come : List Str := ["_law_mine", "_law_sort", "_law_size", "_law_text_here"]
theorem sc_law_come : FnScope ["_law_mine", "_law_sort", "_law_size", "_law_text_here", "_law_due_here", "_law_texts_here", "_law_names_here"] ps_law_come (defScope s_law_come) := ⟨rfl, rfl, rfl, by decide +kernel, rfl, by decide +kernel, by decide +kernel⟩
abbrev s_law_gone : Stmt := topS 56
abbrev ps_law_gone : List Str := ["_law_mine", "_law_spot"]
theorem sc_law_gone : FnScope ["_law_mine", "_law_spot", "_law_texts_here", "_law_names_here", "_law_first"] ps_law_gone (defScope s_law_gone) := ⟨rfl, rfl, rfl, by decide +kernel, rfl, by decide +kernel, by decide +kernel⟩
abbrev s_law_step : Stmt := topS 57
abbrev ps_law_step : List Str := ["_law_source_here", "_law_mine", "_law_sort", "_law_size", "_law_stems"]
theorem sc_law_step : FnScope ["_law_source_here", "_law_mine", "_law_sort", "_law_size", "_law_stems", "_law_way", "_law_word_here", "_law_spot", "_law_before"] ps_law_step (defScope s_law_step) := ⟨rfl, rfl, rfl, by decide +kernel, rfl, by decide +kernel, by decide +kernel⟩
abbrev s_law_right : Stmt := topS 58
abbrev ps_law_right : List Str := ["_law_source_here"]
theorem sc_law_right : FnScope ["_law_source_here", "_law_stems", "_law_size", "_law_line", "_law_sort", "_law_mine", "_law_turn", "_law_k", "_law_text_here"] ps_law_right (defScope s_law_right) := ⟨rfl, rfl, rfl, by decide +kernel, rfl, by decide +kernel, by decide +kernel⟩
abbrev s_law : Stmt := topS 59
abbrev ps_law : List Str := ["_law_script"]
theorem sc_law : FnScope ["_law_script", "_law_k"] ps_law (defScope s_law) := ⟨rfl, rfl, rfl, by decide +kernel, rfl, by decide +kernel, by decide +kernel⟩
/-- names that the module leaves to Python -/
structure Bi (mg : Str → Option Value) : Prop where
  ArithmeticError : mg "ArithmeticError" = none
  LookupError : mg "LookupError" = none
  ValueError : mg "ValueError" = none
  abs : mg "abs" = none
  all : mg "all" = none
  bool : mg "bool" = none
  divmod : mg "divmod" = none
  enumerate : mg "enumerate" = none
  int : mg "int" = none
  isinstance : mg "isinstance" = none
  len : mg "len" = none
  list : mg "list" = none
  max : mg "max" = none
  min : mg "min" = none
  range : mg "range" = none
  set : mg "set" = none
  str : mg "str" = none
  tuple : mg "tuple" = none
  MOST_SIGNS : ∃ u, mg "MOST_SIGNS" = some u ∧ RelV (.int 40) u
  MOST_TEXT : ∃ u, mg "MOST_TEXT" = some u ∧ RelV (.int 200) u
  MOST_LISTED : ∃ u, mg "MOST_LISTED" = some u ∧ RelV (.int 6) u
  MOST_SHELVED : ∃ u, mg "MOST_SHELVED" = some u ∧ RelV (.int 20) u
  SIGNS : ∃ u, mg "SIGNS" = some u ∧ RelV (.str ".0123456789abcdefghijklmnopqrstuvwxyz~") u
  LEAST_WIDTH : ∃ u, mg "LEAST_WIDTH" = some u ∧ RelV (.int 6) u
end Gu
namespace Gu
open PySem PySem.Spec PyProof.Rows L2
/-! cuts -/
/-- from a middle state on -/
def tHalt (t u : TS) : TS := fun D σ H => ∃ M : L2.St → Hp → Prop, t { D with nx := M } σ H ∧ ∀ σ1 H1, M σ1 H1 → u D σ1 H1
/-! defs as they stand behind the top -/
structure At (K : PySem.W.Frag) (mg : Str → Option Value) (x : Str) (st : Stmt) (ps : List Str) : Prop where
  ex : ∃ (f : Addr) (fd : FuncData), Fun K x x st f fd ∧ Binds K fd ps [] ∧ mg x = some (.ref f)
structure Cal (P : Program) (w : World) (K : PySem.W.Frag) (mg : Str → Option Value) (base : Heap) (k : Nat) (x : Str) (ps : List Str) (sp : Sp) : Prop where
  ex : ∃ (f : Addr) (fd : FuncData), FnOk P w K mg base CX0 k f fd ps sp ∧ mg x = some (.ref f) ∧ PySem.W.keepIn K (.ref f) = true ∧ Binds K fd ps [] ∧ ∃ oc od sl, K.lookup f = some ⟨oc, od, .func fd, sl⟩
theorem At.cal {P : Program} {w : World} {K : PySem.W.Frag} {mg : Str → Option Value} {base : Heap} {x : Str} {st : Stmt} {N ps : List Str} {k : Nat} {sp : Sp} (D : At K mg x st ps) (S : FnScope N ps (defScope st)) (len : ∀ vs H Q E, sp vs H Q E → vs.length = ps.length)
    (body : ∀ (f : Addr) (cdv : Value) (A : Around) (outer : List Env) (s : Shared) (H : Hp) (vs : List V) (Q : VK) (E : XK), Room k (A.deeper (envOfC x (defScope st) s.heap.objs.size f cdv)) → sp vs H Q E →
      ∃ t, PSs (cxOf CX0 P w K mg base N x (defScope st) f cdv A outer s H E).nox (defBody st) t ∧ t { nx := fun _ H' => Q .non H', rt := Q } (start N vs) H) : Cal P w K mg base (k + 1) x ps sp := by
  obtain ⟨f, fd, F, b, g⟩ := D.ex
  obtain ⟨oc, od, kV, doc, pm, an, cdv, ct, osl, e, lk, hcd⟩ := F.ex
  exact ⟨f, fd, F.ok S len (body f), g, F.kp, b, oc, od, osl, lk⟩
section
variable {X : Cx} {k j : Nat} {x : Str} {ps : List Str} {sp : Sp} {p pos : Pos} {e : Expr} {es : List Expr} {t : TA}
theorem pe_own (c : Cal X.prog X.w X.K X.mg X.base k x ps sp) (hr : Room j X.A) (hk : k ≤ j) (hg : Gl X x) (ha : PA X (e :: es) t)
    (hdb : (x == ("__debug__" : Str)) = false := by decide) (he : starEach (e :: es) X.env = (false, eval e X.env) :: starEach es X.env := by rfl) (hpl : (backTo pos (starEach es X.env)).any (·.1) = false := by rfl) :
    PE X (.Call (.Name x p) (e :: es) [] pos) (tCall sp [] E0 t) := by
  obtain ⟨f, fd, F, hm, kp, b, _⟩ := c.ex
  exact pe_call F (hr.mono hk) hg hm kp b .nil pass0 ha hdb he hpl
theorem pe_cst {v : V} (h : ∃ u, X.mg x = some u ∧ RelV v u) (hg : Gl X x) (hdb : (x == ("__debug__" : Str)) = false := by decide) : PE X (.Name x pos) (tC v) := by
  obtain ⟨u, hm, r⟩ := h
  exact pe_glob hg hm r hdb
end
def tMid (t : TE) : TE := fun σ H Q => ∃ M : VK, t σ H M ∧ ∀ v G, M v G → Q v G
theorem pe_mid {X : Cx} {e : Expr} {t : TE} (d : PE X e t) : PE X e (tMid t) := ⟨fun pins s σ H Q I ⟨M, m, k⟩ => thn (d.run pins s σ H M I m) fun u s1 ⟨v, G, I1, r1, m1⟩ => ⟨v, G, I1, r1, k v G m1⟩⟩
/-! ### heaps -/
theorem same_new {H : Hp} {p : Addr} {o : HO} (h : H p = none) : Same H (upd H p o) := fun b x e => by
  rw [upd_ne (ne_of_none e h)]
  exact e
/-- a pot of three ints stands at p -/
def Pot (H : Hp) (p : Addr) : Prop := ∃ x y z : Int, H p = some (.lst [.int x, .int y, .int z])
/-- from H to G the pot at p may have changed, the rest stands -/
structure Ladled (p : Addr) (H G : Hp) : Prop where
  pot : Pot G p
  keep : ∀ b o, H b = some o → b ≠ p → G b = some o
theorem Pot.some {H : Hp} {p : Addr} (h : Pot H p) : ∃ o, H p = some o := by
  obtain ⟨x, y, z, e⟩ := h
  exact ⟨_, e⟩
theorem Pot.same {H G : Hp} {p : Addr} (s : Same H G) (h : Pot H p) : Pot G p := by
  obtain ⟨x, y, z, e⟩ := h
  exact ⟨x, y, z, s _ _ e⟩
theorem Ladled.refl {H : Hp} {p : Addr} (h : Pot H p) : Ladled p H H := ⟨h, fun _ _ e _ => e⟩
theorem Ladled.trans {H G J : Hp} {p : Addr} (a : Ladled p H G) (b : Ladled p G J) : Ladled p H J := ⟨b.pot, fun c o e n => b.keep c o (a.keep c o e n) n⟩
theorem Ladled.same {H G J : Hp} {p : Addr} (a : Ladled p H G) (b : Same G J) : Ladled p H J := ⟨a.pot.same b, fun c o e n => b _ _ (a.keep c o e n)⟩
theorem Ladled.ofSame {H G : Hp} {p : Addr} (h : Pot H p) (b : Same H G) : Ladled p H G := ⟨h.same b, fun c o e _ => b _ _ e⟩
theorem Ladled.new {H G : Hp} {p q : Addr} {o : HO} (a : Ladled p H G) (h : G q = none) : Ladled p H (upd G q o) := a.same (same_new h)
theorem Ladled.free {H G : Hp} {p l : Addr} (a : Ladled p H G) (h : G l = none) : H l = none := by
  cases q : H l with
  | none => rfl
  | some o =>
    by_cases e : l = p
    · subst e
      obtain ⟨u, hu⟩ := a.pot.some
      rw [hu] at h
      cases h
    · rw [a.keep l o q e] at h
      cases h
/-- what is not known at first may change -/
theorem Ladled.mut {H G : Hp} {p q : Addr} {o : HO} (a : Ladled p H G) (h : H q = none) (n : q ≠ p) : Ladled p H (upd G q o) := by
  refine ⟨?_, fun b u e nb => ?_⟩
  · obtain ⟨x, y, z, e⟩ := a.pot
    exact ⟨x, y, z, by rw [upd_ne (Ne.symm n)]; exact e⟩
  · rw [upd_ne (ne_of_none e h)]
    exact a.keep b u e nb
end Gu
namespace Gu
open PySem PySem.Spec PyProof.Rows L2
/-! ### errors of the program's own, with one field -/
/-- the places of an __init__ that stores what it gets -/
structure Spots where
  a : Pos
  b : Pos
  c : Pos
  d : Pos
  e : Pos
  f : Pos
def eArgs (F : Str) (p : Spots) : Arguments := { posonlyargs := [], args := [⟨"self", none, p.a⟩, ⟨F, none, p.b⟩], vararg := none, kwonlyargs := [], kw_defaults := [], kwarg := none, defaults := [] }
def eBody (F : Str) (p : Spots) : List Stmt := [.Assign [.Attribute (.Name "self" p.c) F p.d] (.Name F p.e) p.f]
def eScope (F : Str) : Scope := { kind := .function, names := [("self", .local), (F, .local)], isGenerator := false, isCoroutine := false, more := [] }
/-- a built-in class of errors that an own class stands over -/
structure BaseE where
  nm : String
  new : String
  ini : String
  tl : List Value
structure BaseE.ok (b : BaseE) : Prop where
  base : ExcBaseFacts b.nm b.new b.ini b.tl
  store : StoreFacts b.nm b.tl "object.__setattr__" "object"
  plain : ∀ D : Addr, b.tl.contains (.ref D) = false
def bVE : BaseE := ⟨"ValueError", "ValueError.__new__", "ValueError.__init__", [.type "ValueError", .type "Exception", .type "BaseException", .type "object"]⟩
theorem bVE_ok : bVE.ok := ⟨F.excBase_ValueError, F.store_ValueError, fun D => rfl⟩
/-- what the top has left of the class named N, at C, over the own class at U and the built-in b -/
structure ErrK (K : PySem.W.Frag) (mg : Str → Option Value) (b : BaseE) (U : Addr) (N : Str) (C : Addr) : Prop where
  bok : b.ok
  g : mg N = some (.ref C)
  cls : ∃ q M bs sn sub ab col dd k0 k1 k2 k3 k5, K.lookup C = some (excClassObj N q C M bs (.ref U :: b.tl) true sn sub ab col dd k0 k1 k2 k3 k5 b.new)
  sa : PySem.W.findIn K (.ref C) "__setattr__" = some (some (.builtin "object.__setattr__"))
  ga : PySem.W.findIn K (.ref C) "__getattribute__" = some (some (.builtin "BaseException.__getattribute__"))
  gg : PySem.W.findIn K (.ref C) "__getattr__" = some none
  kC : PySem.W.keepIn K (.ref C) = true
  ty : PySem.W.typeIn K (.ref C) = some (.type "type")
  ca : PySem.W.findIn K (.ref C) "__class__" = some (some (.builtin "object.__class__"))
  cn : PySem.W.specialIn K (.builtin "object.__class__") "__get__" = some (some (.builtin "getset_descriptor.__get__"))
  ct : PySem.W.takesIn K (.builtin "object.__class__") = some true
structure ErrF (K : PySem.W.Frag) (N F : Str) (C : Addr) : Prop where
  nm : F = "value" ∨ F = "index" ∨ F = "limit"
  no : PySem.W.findIn K (.ref C) F = some none
  init : ∃ (f : Addr) (st : Stmt) (p : Spots) (fd : FuncData), PySem.W.findIn K (.ref C) "__init__" = some (some (.ref f)) ∧ PySem.W.typeIn K (.ref f) = some (.type "function") ∧ L2.Fun K "__init__" (N ++ ".__init__") st f fd ∧ defArgs st = eArgs F p ∧ defBody st = eBody F p ∧ defScope st = eScope F
section
variable {K : PySem.W.Frag} {mg : Str → Option Value} {b : BaseE} {U C : Addr} {N F : Str}
theorem ErrK.cd (T : ErrK K mg b U N C) : ∃ cd : ClassData, PySem.W.clsIn K C = some cd ∧ cd.mro = .ref C :: .ref U :: b.tl ∧ cd.hasDict = true ∧ cd.name = N := by
  obtain ⟨q, M, bs, sn, sub, ab, col, dd, k0, k1, k2, k3, k5, e⟩ := T.cls
  refine ⟨{ name := N, bases := bs, mro := .ref C :: .ref U :: b.tl, ns := M, qualname := q, hasDict := true, slotNames := sn, subclasses := sub, abstract := ab, collection := col, hasDel := false }, ?_, rfl, rfl, rfl⟩
  unfold PySem.W.clsIn
  rw [e]
theorem ErrK.sub (T : ErrK K mg b U N C) (c : Value) : PySem.W.subIn K (.ref C) c = some ((Value.ref C :: .ref U :: b.tl).contains c) := by
  obtain ⟨cd, e, m, _⟩ := T.cd
  show PySem.W.mroIn K C c = _
  unfold PySem.W.mroIn
  rw [e, Option.bind_some, m, if_neg (by simp)]
theorem ErrK.subT (T : ErrK K mg b U N C) (X : String) : PySem.W.subIn K (.ref C) (.type X) = some (b.tl.contains (.type X)) := by
  rw [T.sub, List.contains_cons, List.contains_cons]
  rfl
theorem ErrK.exC (T : ErrK K mg b U N C) : PySem.W.subIn K (.ref C) (.type "BaseException") = some true := by
  rw [T.subT, T.bok.base.hasBase]
theorem ErrK.obj (T : ErrK K mg b U N C) : PySem.W.mroIn K C (.type "object") = some true := by
  show PySem.W.subIn K (.ref C) _ = _
  rw [T.subT, T.bok.store.hasOwner]
theorem ErrK.hd (T : ErrK K mg b U N C) : PySem.W.hasDictIn K C = true := by
  obtain ⟨cd, e, _, h, _⟩ := T.cd
  unfold PySem.W.hasDictIn
  rw [e]
  exact h
theorem ErrK.isC (T : ErrK K mg b U N C) : (PySem.W.clsIn K C).isSome = true := by
  obtain ⟨cd, e, _⟩ := T.cd
  rw [e]
  rfl
theorem name_at {D : Addr} {q q2 : Str} {M M2 : Addr} {N2 : Str} {bs bm bs2 bm2 : List Value} {sn sn2 : List Str} {sub sub2 : List Value} {ab ab2 : Bool} {col col2 : Option Bool} {dd dd2 : Option Addr} {k0 k1 k2 k3 k5 j0 j1 j2 j3 j5 : Option Value} {ni nj : String}
    (a : K.lookup C = some (excClassObj N q C M bs bm true sn sub ab col dd k0 k1 k2 k3 k5 ni)) (c : K.lookup D = some (excClassObj N2 q2 D M2 bs2 bm2 true sn2 sub2 ab2 col2 dd2 j0 j1 j2 j3 j5 nj)) (e : C = D) : N = N2 := by
  subst e
  have z := a.symm.trans c
  injection z with z
  injection z with _ _ z
  injection z with z
  injection z
/-- is an error of C one of D, D of the same make? -/
theorem ErrK.eqv {b2 : BaseE} {U2 D : Addr} {M : Str} (T : ErrK K mg b U N C) (S : ErrK K mg b2 U2 M D) (ne : U ≠ D) : PySem.W.subIn K (.ref C) (.ref D) = some (decide (N = M)) := by
  rw [T.sub, List.contains_cons, List.contains_cons, T.bok.plain, Bool.or_false]
  have u : (Value.ref D == Value.ref U) = false := beq_eq_false_iff_ne.mpr fun z => ne (Value.ref.inj z).symm
  rw [u, Bool.or_false]
  by_cases h : N = M
  · have e : C = D := by
      have a := T.g
      rw [h, S.g] at a
      exact (Value.ref.inj (Option.some.inj a)).symm
    rw [decide_eq_true h, e, beq_self_eq_true]
  · have e : (Value.ref D == Value.ref C) = false := beq_eq_false_iff_ne.mpr fun z => by
      obtain ⟨q, M1, bs, sn, sub, ab, col, dd, k0, k1, k2, k3, k5, a⟩ := T.cls
      obtain ⟨q2, M2, bs2, sn2, sub2, ab2, col2, dd2, j0, j1, j2, j3, j5, c⟩ := S.cls
      exact h (name_at a c (Value.ref.inj z).symm)
    rw [e, decide_eq_false h]
/-- an own class right over a built-in one -/
structure UpK (K : PySem.W.Frag) (mg : Str → Option Value) (b : BaseE) (N : Str) (U : Addr) : Prop where
  g : mg N = some (.ref U)
  cls : ∃ q M bs sn sub ab col dd k0 k1 k2 k3 k5, K.lookup U = some (excClassObj N q U M bs b.tl true sn sub ab col dd k0 k1 k2 k3 k5 b.new)
  ty : PySem.W.typeIn K (.ref U) = some (.type "type")
theorem UpK.isC {V : Addr} (S : UpK K mg b F V) : (PySem.W.clsIn K V).isSome = true := by
  obtain ⟨q, M, bs, sn, sub, ab, col, dd, k0, k1, k2, k3, k5, e⟩ := S.cls
  unfold PySem.W.clsIn
  rw [e]
  rfl
theorem UpK.exC {V : Addr} (ok : b.ok) (S : UpK K mg b F V) : PySem.W.subIn K (.ref V) (.type "BaseException") = some true := by
  obtain ⟨q, M, bs, sn, sub, ab, col, dd, k0, k1, k2, k3, k5, e⟩ := S.cls
  show PySem.W.mroIn K V _ = _
  unfold PySem.W.mroIn PySem.W.clsIn
  rw [e]
  show (if (Value.ref V :: b.tl).isEmpty = true then none else some ((Value.ref V :: b.tl).contains (.type "BaseException"))) = some true
  rw [if_neg (by simp), List.contains_cons, ok.base.hasBase, Bool.or_true]
theorem ErrK.up (T : ErrK K mg b U N C) : PySem.W.subIn K (.ref C) (.ref U) = some true := by
  rw [T.sub, List.contains_cons, List.contains_cons, beq_self_eq_true, Bool.true_or, Bool.or_true]
theorem UpK.ne {b2 : BaseE} {U2 D V : Addr} {M : Str} (S : UpK K mg b F V) (T : ErrK K mg b2 U2 M D) (h : F ≠ M) : V ≠ D := fun z => by
  obtain ⟨q, M1, bs, sn, sub, ab, col, dd, k0, k1, k2, k3, k5, a⟩ := S.cls
  obtain ⟨q2, M2, bs2, sn2, sub2, ab2, col2, dd2, j0, j1, j2, j3, j5, c⟩ := T.cls
  exact h (name_at a c z)
/-! what except and isinstance ask -/
theorem kit_ref {t : Value} {D : Addr} {r : Bool} (i : (PySem.W.clsIn K D).isSome = true) (ty : PySem.W.typeIn K (.ref D) = some (.type "type")) (s : PySem.W.subIn K t (.ref D) = some r) : PySem.W.kitCls K t (.ref D) = some r := by
  show (if ((PySem.W.clsIn K D).isSome && PySem.W.typeIn K (.ref D) == some (.type "type")) = true then PySem.W.subIn K t (.ref D) else none) = some r
  rw [i, ty, if_pos (by simp)]
  exact s
theorem kit_one {t : Value} {D : Addr} {r : Bool} (h : PySem.W.kitCls K t (.ref D) = some r) (y : t = .ref D → r = true) : PySem.W.kitOne K t (.ref D) = some r := by
  unfold PySem.W.kitOne
  split
  · next e => rw [y (eq_of_beq e)]
  · exact h
theorem ErrK.exm {b2 : BaseE} {U2 D : Addr} {M : Str} (T : ErrK K mg b U N C) (S : ErrK K mg b2 U2 M D) (ne : U ≠ D) : PySem.W.exmOne K (.ref C) (.ref D) = some (decide (N = M)) := by
  unfold PySem.W.exmOne
  rw [S.exC, if_pos (by simp)]
  exact kit_ref S.isC S.ty (T.eqv S ne)
theorem ErrK.kitU (T : ErrK K mg b U N C) (S : UpK K mg b F U) : PySem.W.kitOne K (.ref C) (.ref U) = some true := kit_one (kit_ref S.isC S.ty T.up) fun _ => rfl
theorem ErrK.kitV (T : ErrK K mg b U N C) (h : PySem.W.kitMeta b.nm = true) : PySem.W.kitOne K (.ref C) (.type b.nm) = some true := by
  unfold PySem.W.kitOne
  rw [if_neg (by simp)]
  show (if PySem.W.kitMeta b.nm = true then PySem.W.subIn K (.ref C) (.type b.nm) else none) = some true
  rw [if_pos h, T.subT, T.bok.base.hasB]
end
end Gu
namespace Gu
open PySem PySem.Spec PyProof.Rows L2 HandSPX
/-! ### such an error is made -/
section
variable {prog : Program} {w : World} {A : Around} {E : Value → Shared → Prop} {R : Result → Shared → Prop} {K : PySem.W.Frag} {mg : Str → Option Value} {b : BaseE} {U C : Addr} {N Fl : Str}
/-- a first field is laid: its dict is new -/
theorem err_store {hp : Heap} {g : Array GenState} {dr : Drawn} {tk0 : Nat} {os : OsState} {tk : Tok} {v : Value} {x : Addr} {fv : Array Value} (T : ErrK K mg b U N C) (inK : K.In hp) (at_x : hp.get? x = some { cls := .ref C, data := .fields fv }) (no : PySem.W.findIn K (.ref C) Fl = some none)
    (k : ∀ (h1 : Heap) (t1 : Nat) (dx : Addr), (∀ c o, c ≠ x → hp.get? c = some o → h1.get? c = some o) → hp.objs.size ≤ dx → dx ≠ x → h1.get? x = some { cls := .ref C, dict := some dx, data := .fields fv } → h1.Ns1 dx (fun y => if y = Fl then some v else none) → R (.ok (.ret .none)) ⟨h1, g, dr, t1, os⟩) :
    codeAny (model prog w) A (.call (.builtin "object.__setattr__") ⟨[.ref x, .str Fl tk, v], []⟩) R ⟨hp, g, dr, tk0, os⟩ := by
  obtain ⟨cd, ecd, em, eh, _⟩ := T.cd
  have inst : PySem.W.InstAt hp x { cls := .ref C, data := .fields fv } C none := ⟨at_x, rfl, rfl, trivial⟩
  have old : x ≠ hp.objs.size := Nat.ne_of_lt (Heap.lt_size at_x)
  have isO : PySem.W.Looks (model prog w) hp (isInstance (.ref x) (.type "object")) true := inst.type.andThen (PySem.W.looks_mroIn inK T.obj)
  have facts := PySem.F.store_object
  refine codeAny_call_builtin facts.slot.plain facts.entry (@PySem.W.check_slot (model prog w) _ _ ⟨hp, g, dr, tk0, os⟩ "object.__setattr__" "object" "__setattr__" (.ref x) [.str Fl tk, v] [] _ facts.kind facts.split isO (facts.args (.ref x) (.str Fl tk) v) ?_)
  have look : PySem.W.Looks (model prog w) hp (classData C) cd := PySem.W.looks_clsIn inK ecd
  have mro : PySem.W.Looks (model prog w) hp (mroOf (.ref C)) cd.mro := look.andThen .now
  have none' : PySem.W.Looks (model prog w) hp (Builtin.ObjectAttr.storeTaker? none) none := .now
  rw [PySem.W.osa_eq, refuse_eq]
  refine wpAny_bind (wpAny_bind (inst.type.at (wpAny_bind (mro.at ?_))))
  rw [em, refuseLoop_ref, refuseLoop_ref, T.bok.store.passes]
  refine wpAny_pure (wpAny_bind (inst.type.at (wpAny_bind ((PySem.W.looks_findIn inK no).at (wpAny_bind (none'.at ?_))))))
  obtain ⟨nm, bs, mr, ns, qn, hd, sn, sb, ab, col, del⟩ := cd
  dsimp only at eh
  subst eh
  show wpAny _ _ (Builtin.ObjectAttr.storeInOwnDict (.ref x) (.ref C) (.str Fl tk) Fl v false) _ _ _
  unfold Builtin.ObjectAttr.storeInOwnDict Builtin.ObjectAttr.ownDictForStores
  repeat (first | with_reducible refine store_in_new ?_ ?_ | with_reducible refine look.at ?_ | with_reducible refine wpAny_loadPart_at at_x ?_ | wp_step)
  · exact ⟨_, #[], _, (Heap.get?_update_ne _ _ _ _ old.symm).trans (Heap.get?_push_at rfl rfl), rfl, fun e he => absurd he (by simp), fun _ => rfl⟩
  · intro h1 t1 hn hs
    refine k h1 t1 hp.objs.size (fun c o hc ho => ?_) (Nat.le_refl _) old.symm ?_ hn
    · exact (hs.2 c (Nat.ne_of_lt (Heap.lt_size ho))).trans ((Heap.get?_update_ne _ _ _ _ hc).trans (Heap.get?_push_of_some _ ho))
    · exact (hs.2 x old).trans (Heap.get?_update_self _ (Heap.get?_push_of_some { cls := .type "dict", data := .dict #[] } at_x) rfl)
/-- what __init__ leaves of a fresh error at x -/
structure InitLeft (h h1 : Heap) (x C dx t1 : Addr) (Fl : Str) (v : Value) : Prop where
  keep : ∀ c o, c ≠ x → h.get? c = some o → h1.get? c = some o
  obj : h1.get? x = some { cls := .ref C, dict := some dx, data := .fields #[.ref t1, .none, .none, .none, .bool false, .none] }
  big : h.objs.size ≤ dx
  ne : dx ≠ x
  ns : h1.Ns1 dx (fun y => if y = Fl then some v else none)
theorem here_local {M : Model} {s : Shared} {name : Str} {scope : Scope} {L a : Addr} {cd : Value} {m : Str → Option Value} {x : Str} {pos : Pos} {v : Value} {Q : Value → Shared → Prop} (ns : s.heap.Ns L m) (hv : m x = some v) (q : Q v s)
    (hk : scope.kind = .function := by rfl) (hl : (envOfC name scope L a cd).kindOf x = some .local := by rfl) (hd : (x == ("__debug__" : Str)) = false := by decide) : wpAny M A (eval (.Name x pos) (envOfC name scope L a cd)) Q E s := wpAny_Name (wpAny_loadName_local hk hl ns hv q) hd
theorem err_init {s : Shared} {f x t0 : Addr} {v : Value} {st : Stmt} {p : Spots} {fd : FuncData} (T : ErrK K mg b U N C) (no : PySem.W.findIn K (.ref C) Fl = some none) (hF : Fl = "value" ∨ Fl = "index" ∨ Fl = "limit") (G : L2.Fun K "__init__" (N ++ ".__init__") st f fd) (e1 : defArgs st = eArgs Fl p) (e2 : defBody st = eBody Fl p) (e3 : defScope st = eScope Fl)
    (inK : K.In s.heap) (lim : s.heap.NoLimit) (at_x : s.heap.get? x = some (excO C t0)) (room : A.depth < recursionLimit)
    (k : ∀ h1 tk dx, InitLeft s.heap h1 x C dx t0 Fl v → R (.ok (.ret .none)) { s with heap := h1, toks := tk }) : codeAny (model prog w) A (.call (.ref f) ⟨[.ref x, v], []⟩) R s := by
  obtain ⟨oc, od, kV, doc, pm, an, cdv, ct, osl, ef, lk, hcd⟩ := G.ex
  rw [ef, e1, e2, e3] at lk
  have main : ∀ s1, InCallC s s.heap.objs.size (bindL (envOfC (N ++ ".__init__") (eScope Fl) s.heap.objs.size f cdv).kindOf [("self", .ref x), (Fl, v)] fun _ => none) (cellsFrom (s.heap.objs.size + 1) (eScope Fl).names []) (bindC (envOfC (N ++ ".__init__") (eScope Fl) s.heap.objs.size f cdv).kindOf [("self", .ref x), (Fl, v)] fun _ => none) s1 →
      wpAny (model prog w) (A.deeper (envOfC (N ++ ".__init__") (eScope Fl) s.heap.objs.size f cdv)) (execs (eBody Fl p) (envOfC (N ++ ".__init__") (eScope Fl) s.heap.objs.size f cdv)) (fun fl s' => R (.ok (.ret (match fl with | .ret v => v | _ => .none))) s')
        (fun e s' => wpAny (model prog w) (A.deeper (envOfC (N ++ ".__init__") (eScope Fl) s.heap.objs.size f cdv)) (leaving (envOfC (N ++ ".__init__") (eScope Fl) s.heap.objs.size f cdv) e) (fun _ s'' => R (.error e) s'') (fun e' s'' => R (.error e') s'') s') s1 := by
    intro s1 c1
    obtain ⟨h1, tk1, rfl⟩ := c1.toInCall.same
    have keep : ∀ c o, s.heap.get? c = some o → h1.get? c = some o := c1.toInCall.keep
    have ns := c1.toInCall.ns
    refine wpAny_execs_cons (plainObj_wpAny_Assign_Attribute ?_ ?_)
    · have v1 : (bindL (envOfC (N ++ ".__init__") (eScope Fl) s.heap.objs.size f cdv).kindOf [("self", .ref x), (Fl, v)] fun _ => none) Fl = some v := by
        rcases hF with rfl | rfl | rfl <;> first | rfl | with_unfolding_all rfl | kernel_rfl
      have v2 : (bindL (envOfC (N ++ ".__init__") (eScope Fl) s.heap.objs.size f cdv).kindOf [("self", .ref x), (Fl, v)] fun _ => none) "self" = some (.ref x) := by
        rcases hF with rfl | rfl | rfl <;> first | rfl | with_unfolding_all rfl | kernel_rfl
      refine here_local (v := v) ns v1 (here_local (v := .ref x) ns v2 ?_ rfl rfl (by decide)) rfl (by rcases hF with rfl | rfl | rfl <;> rfl) (by rcases hF with rfl | rfl | rfl <;> decide)
      refine PySem.W.set_plain (inK.keeps keep) (ox := excO C t0) (od := none) ⟨keep _ _ at_x, rfl, rfl, trivial⟩ T.sa ?_
      refine err_store T (inK.keeps keep) (keep _ _ at_x) no fun h3 tk3 dx k3 big ne hx hn => ?_
      have z : s.heap.objs.size < h1.objs.size := ns.lt
      exact wpAny_execs_nil (k h3 tk3 dx ⟨fun c o hc e => k3 c o hc (keep c o e), hx, Nat.le_of_lt (Nat.lt_of_lt_of_le z big), ne, hn⟩)
    · rfl
  refine Att.call_fn (binds := [("self", .ref x), (Fl, v)]) inK lim lk hcd room ?_ ?_ main rfl rfl rfl
  · rcases hF with rfl | rfl | rfl <;> exact BindsTo.of_eq (by first | rfl | with_unfolding_all rfl)
  · rcases hF with rfl | rfl | rfl <;> first | rfl | decide | with_unfolding_all rfl
end
end Gu
namespace Gu
open PySem PySem.Spec PyProof.Rows L2 HandSPX
section
variable {prog : Program} {w : World} {A : Around} {E : Value → Shared → Prop} {R : Result → Shared → Prop} {K : PySem.W.Frag} {mg : Str → Option Value} {b : BaseE} {U C : Addr} {N Fl : Str}
/-- an error that is made: at e, its dict at d -/
structure MadeE (h h1 : Heap) (e C d : Addr) (Fl : Str) (v : Value) : Prop where
  keep : ∀ c o, h.get? c = some o → h1.get? c = some o
  new : h.objs.size ≤ e
  obj : ∃ oe vs, h1.get? e = some oe ∧ oe.cls = .ref C ∧ oe.dict = some d ∧ oe.data = .fields vs ∧ vs[1]? = some .none
  big : h.objs.size ≤ d
  ne : d ≠ e
  ns : h1.Ns1 d (fun y => if y = Fl then some v else none)
theorem one_fits (v : Value) : [v].length ≤ sizeLine := by
  show 1 ≤ sizeLine
  decide
theorem err_made {s : Shared} {v : Value} (T : ErrK K mg b U N C) (S : ErrF K N Fl C) (inK : K.In s.heap) (lim : s.heap.NoLimit) (room : A.depth + 1 < recursionLimit) (k : ∀ h1 tk e d, MadeE s.heap h1 e C d Fl v → R (.ok (.ret (.ref e))) { s with heap := h1, toks := tk }) :
    codeAny (model prog w) A (.call (.ref C) ⟨[v], []⟩) R s := by
  obtain ⟨q, M, bs, sn, sub, ab, col, dd, k0, k1, k2, k3, k5, hC⟩ := T.cls
  obtain ⟨f, st, p, fd, hf, tf, G, e1, e2, e3⟩ := S.init
  obtain ⟨hp, g, dr, tk, os⟩ := s
  have old : ∀ c o, hp.get? c = some o → ((hp.push (PySem.W.kdv_tup [v])).push (excO C hp.objs.size)).get? c = some o := fun c o e => Heap.get?_push_of_some _ (Heap.get?_push_of_some _ e)
  have here : ((hp.push (PySem.W.kdv_tup [v])).push (excO C hp.objs.size)).get? (hp.objs.size + 1) = some (excO C hp.objs.size) := by heap_get
  refine call_own T.bok.base (fun X => by rw [List.contains_cons]; rfl) (inK _ _ hC) (PySem.W.looks_findIn inK hf) (fun self => PySem.W.bind_fn inK self tf) (one_fits v) ?_
  refine err_init (s := ⟨(hp.push (PySem.W.kdv_tup [v])).push (excO C hp.objs.size), g, dr, tk, os⟩) T S.no S.nm G e1 e2 e3 (inK.keeps old) (lim.keeps old) here room fun h1 t1 dx L => ?_
  have old1 : ∀ c o, hp.get? c = some o → h1.get? c = some o := fun c o e => L.keep c o (Nat.ne_of_lt (Nat.lt_succ_of_lt (Heap.lt_size e))) (old c o e)
  have z : hp.objs.size + 1 + 1 ≤ dx := by
    have q := L.big
    rw [Heap.size_push, Heap.size_push] at q
    exact q
  exact ⟨rfl, k h1 t1 (hp.objs.size + 1) dx ⟨old1, Nat.le_succ _, ⟨_, _, L.obj, rfl, rfl, rfl, rfl⟩, by show hp.objs.size ≤ dx; omega, L.ne, L.ns⟩⟩
end
theorem relO_one {Fl : Str} {v : V} {u : Value} (r : RelV v u) (g : Str) : RelO (List.lookup g [(Fl, v)]) (if g = Fl then some u else none) := by
  by_cases h : g = Fl
  · subst h
    rw [if_pos rfl, show List.lookup g [(g, v)] = some v by simp [List.lookup]]
    exact r
  · have q : (g == Fl) = false := by simpa using h
    rw [if_neg h, show List.lookup g [(Fl, v)] = none by simp [List.lookup, q]]
    trivial
section
variable {X : Cx} {b : BaseE} {U C : Addr} {N Fl : Str}
/-- N(e) -/
def tMkE (C : Addr) (Fl : Str) (ta : TA) : L2.St → Hp → XK → Prop := fun σ H Q => ta σ H fun vs G => ∃ v, vs = [v] ∧ ∀ d, G d = none → Q (.ref C) (some d) (upd G d (.xd [(Fl, v)]))
theorem pmk_err {a : Expr} {ta : TA} {p pos : Pos} {k : Nat} (T : ErrK X.K X.mg b U N C) (S : ErrF X.K N Fl C) (hr : Room k X.A) (ha : PA X [a] ta) (hg : Gl X N) (hdb : (N == ("__debug__" : Str)) = false)
    (he : starEach (a :: []) X.env = (false, eval a X.env) :: starEach [] X.env := by rfl) (hpl : (backTo pos (starEach [] X.env)).any (·.1) = false := by rfl) : PMk X (.Call (.Name N p) [a] [] pos) (tMkE C Fl ta) := by
  intro pins s σ H Q I want
  refine wpAny_Call_Name_kw (ld_glob I hg T.g ?_ hdb)
  refine PySem.W.callWith_K (h₀ := X.base) I.ok.mod.kin T.kC (thn (ha.run pos pins s σ H _ I want) fun us s1 ⟨vs, G, I1, r, v, ev, q⟩ => ⟨I1.kIn, ?_⟩) he hpl
  subst ev
  cases r with
  | @cons _ u _ _ rv rn =>
    cases rn
    have lim := I1.nolimit
    obtain ⟨hp, g, dr, tk, os⟩ := s1
    show wpAny _ _ (call (.ref C) [u]) _ _ _
    refine wpAny_call (err_made (v := u) T S I1.kIn lim (by have := hr.dp; omega) fun h1 t1 e d M => ?_)
    obtain ⟨oe, fv, hoe, hc, hd, hdat, h1n⟩ := M.obj
    obtain ⟨B, b1, b2⟩ := restrict h1 fun c => decide (c ≠ e)
    have inB : ∀ c, c ≠ e → B.get? c = h1.get? c := fun c hc => b1 c (decide_eq_true hc)
    have noB : B.get? e = none := b2 e (by simp)
    have old : ∀ c o, hp.get? c = some o → B.get? c = some o := fun c o z => (inB c (Nat.ne_of_lt (Nat.lt_of_lt_of_le (Heap.lt_size z) M.new))).trans (M.keep c o z)
    have ob : ObjOk X.prog X.w (upd G d (.xd [(Fl, v)])) B d (.xd [(Fl, v)]) := ⟨_, M.ns.at (fun o z => (inB d M.ne).trans z), fun y => relO_one rv y⟩
    have J : Inv X pins σ (upd G d (.xd [(Fl, v)])) ⟨B, g, dr, t1, os⟩ := I1.laid (t' := t1) old M.big ob
    show MkP X pins σ Q (.ref e) ⟨h1, g, dr, t1, os⟩
    refine ⟨e, oe, fv, ⟨B, g, dr, t1, os⟩, _, .ref C, some d, rfl, J, fun c o z => ?_, noB, hoe, ⟨hc, hd⟩, hdat, h1n, ?_, rfl, I1.bare, raises_own T.exC T.ty, q d (I1.hok.fresh M.big)⟩
    · by_cases hce : c = e
      · have z : B.get? c = some o := z
        rw [hce, noB] at z
        cases z
      · exact (inB c hce).symm.trans z
    · rw [upd_ne (Ne.symm M.ne)]
      exact I1.hok.fresh M.new
/-- raise N(e) -/
def tRaiseE (C : Addr) (Fl : Str) (W : WX) (ta : TA) : TS := fun _ σ H => tMkE C Fl ta σ H fun cls d G => W cls d σ G
theorem ps_raiseE {a : Expr} {ta : TA} {W : WX} {p pos pos2 : Pos} {k : Nat} (T : ErrK X.K X.mg b U N C) (S : ErrF X.K N Fl C) (hc : X.calm = true) (hr : Room k X.A) (tk : Takes X W) (ha : PA X [a] ta) (hg : Gl X N) (hdb : (N == ("__debug__" : Str)) = false := by decide)
    (he : starEach (a :: []) X.env = (false, eval a X.env) :: starEach [] X.env := by rfl) (hpl : (backTo pos (starEach [] X.env)).any (·.1) = false := by rfl) :
    PS X (.Raise (some (.Call (.Name N p) [a] [] pos)) none pos2) (tRaiseE C Fl W ta) := ps_raise hc tk (pmk_err T S hr ha hg hdb he hpl)
/-! ### an error that is held -/
/-- e.f, e the error at a that is pinned -/
def tXfE (a : Addr) (cls : Value) (d : Option Addr) (C : Addr) (f : Str) (te : TE) : TE := fun σ H Q => te σ H fun x G => x = .ref a ∧ cls = .ref C ∧ ∃ (dd : Addr) (fs : List (Str × V)) (v : V), d = some dd ∧ G dd = some (.xd fs) ∧ fs.lookup f = some v ∧ Q v G
theorem pe_xfE {a : Addr} {oe : Obj} {cls : Value} {d : Option Addr} {e : Expr} {te : TE} {pos : Pos} (T : ErrK X.K X.mg b U N C) (S : ErrF X.K N Fl C) (hp : (a, oe) ∈ X.pn) (hz : Zc cls d oe) (hf : ∃ vs, oe.data = .fields vs) (he : PE X e te) (hb : attributeBase e Fl X.env (eval e X.env) = eval e X.env) :
    PE X (.Attribute e Fl pos) (tXfE a cls d C Fl te) := by
  refine ⟨fun pins s σ H Q I want => attr_of hb (thn (he.run pins s σ H _ I want) fun u s1 ⟨x, G, I1, rx, ex, ec, dd, fs, v, ed, ea, l, q⟩ => ?_)⟩
  subst ex ec ed
  obtain rfl : u = Value.ref a := rx
  obtain ⟨ha, _⟩ := I1.pin (a, oe) (List.mem_append_left _ hp)
  obtain ⟨vs, hd⟩ := hf
  obtain ⟨mA, hns, rel⟩ := (show ObjOk X.prog X.w G s1.heap dd (.xd fs) from I1.hok dd _ ea)
  obtain ⟨od, ho, hl⟩ := lookIn_ns hns
  obtain ⟨u, hu, ru⟩ := RelO.some_of (v := v) (o := mA Fl) (by rw [← l]; exact rel Fl)
  have J : PySem.W.InstAt s1.heap a oe C (some od) := ⟨ha, hz.1, by unfold PySem.W.notCls; rw [hd] <;> rfl, by rw [hz.2]; exact ho⟩
  exact exc_get I1.kIn J T.ga T.gg T.exC (PySem.W.findObj_own T.hd S.no rfl (by rw [hl, hu])) (handed_of ru) ⟨v, G, I1.tok _, ru, q⟩
/-- isinstance(e, c), e the error at a that is pinned -/
def rIsX (K : PySem.W.Frag) (C a : Addr) (cls : Value) (d : Option Addr) : List V → Hp → VK → Prop := fun xs H Q => ∃ (c : V) (cv : Value) (r : Bool), xs = [.ref a, c] ∧ cls = .ref C ∧ (∀ u, RelV c u → u = cv) ∧ PySem.W.kitOne K (.ref C) cv = some r ∧ (∀ dd, d = some dd → ∃ fs, H dd = some (.xd fs)) ∧ Q (.bl r) H
theorem call_isX {a : Addr} {oe : Obj} {cls : Value} {d : Option Addr} (T : ErrK X.K X.mg b U N C) (hp : (a, oe) ∈ X.pn) (hz : Zc cls d oe) (hf : ∃ vs, oe.data = .fields vs) : CallR X (.builtin "isinstance") (rIsX X.K C a cls d) := by
  intro pins s σ H xs us Q I r h
  obtain ⟨c, cv, ans, rfl, rfl, hcv, e, hdd, q⟩ := h
  cases r with
  | cons rx rr =>
    cases rr with
    | cons rt rr =>
      cases rr
      cases rx
      have ec := hcv _ rt
      subst ec
      obtain ⟨get, _⟩ := I.pin (a, oe) (List.mem_append_left _ hp)
      obtain ⟨vs, hv⟩ := hf
      have J : ∃ od, PySem.W.InstAt s.heap a oe C od := by
        obtain ⟨oc, odd, oda, osl⟩ := oe
        obtain ⟨h1, h2⟩ := hz
        dsimp only at h1 h2 hv
        subst h1 h2 hv
        cases odd with
        | none => exact ⟨none, get, rfl, rfl, trivial⟩
        | some dd =>
          obtain ⟨fs, hx⟩ := hdd dd rfl
          obtain ⟨mA, hns, _⟩ := (show ObjOk X.prog X.w H s.heap dd (.xd fs) from I.hok dd _ hx)
          obtain ⟨od, ho, _⟩ := lookIn_ns hns
          exact ⟨some od, get, rfl, rfl, ho⟩
      obtain ⟨od, J⟩ := J
      exact PySem.W.kia_one (PySem.W.kitx_exc T.isC T.ga T.gg T.exC T.ca T.cn T.ct T.obj) I.kIn J e (fun z => nomatch z) fun tk => ⟨.bl ans, H, I.kept (t' := tk) fun _ _ z => z, rfl, q⟩
end
end Gu
namespace Gu
open PySem PySem.Spec PyProof.Rows L2 HandSPX
/-! ### try with several clauses, each of them naming the error -/
/-- the test of a clause: mt tells of the error's class whether it is this one; what stood stands -/
def HTest (X : Cx) (t : Expr) (mt : Value → Option Bool) : Prop := ∀ (a : Addr) (oe : Obj) (cls : Value) (d : Option Addr) (pn pins : List (Addr × Obj)) (σ : L2.St) (H : Hp) (s : Shared) (r : Bool) (Q : Bool → Shared → Prop) (E : Value → Shared → Prop), Inv (X.suite a ((a, oe) :: pn)) pins σ H s → s.heap.get? a = some oe → Zc cls d oe → mt cls = some r →
  (∀ h1 tk, (∀ c o, s.heap.get? c = some o → h1.get? c = some o) → Q r { s with heap := h1, toks := tk }) →
  wpAny (model X.prog X.w) (X.A.mark (some (.ref a))) (eval t X.env) (fun c s1 => wpAny (model X.prog X.w) (X.A.mark (some (.ref a))) (excMatches (.ref a) c) Q E s1) E s
theorem htest_name {X : Cx} {x : Str} {c : Value} {pos : Pos} (hc : Names X x c) : HTest X (.Name x pos) (fun cls => PySem.W.exmOne X.K cls c) := by
  intro a oe cls d pn pins σ H s r Q E I ha hz hm k
  have LT : PySem.W.Looks (model X.prog X.w) s.heap (typeOf (.ref a)) cls := fun A Q E s1 keep q => wpAny_typeOf_ref (keep _ _ ha) (by rw [hz.1]; exact q)
  have LM := PySem.W.exm_one (M := model X.prog X.w) I.kIn LT hm
  have go : wpAny (model X.prog X.w) (X.A.mark (some (.ref a))) (excMatches (.ref a) c) Q E s := LM.here (k s.heap s.toks fun _ _ e => e)
  obtain ⟨hg, hdb, hm | ⟨hm, hv, hn⟩⟩ := hc
  · exact ld_glob (X := X.suite a ((a, oe) :: pn)) I hg hm go hdb
  · exact ld_blt (X := X.suite a ((a, oe) :: pn)) I hg hm hv go hn hdb
/-- what the clauses wish of an error of the body, one after the other; slot i is the error's name -/
def wManyA (i : Nat) (Wout : WX) (D : Ends) : List ((Value → Option Bool) × (Addr → Value → Option Addr → TS)) → WX
  | [] => Wout
  | (mt, ts) :: l => fun cls d σ H => ∃ r, mt cls = some r ∧ (r = true → ∀ a, H a = none → i < σ.length → ts a cls d { nx := fun σ1 G => D.nx (σ1.set i none) G, rt := D.rt, bk := fun σ1 G => D.bk (σ1.set i none) G, ct := fun σ1 G => D.ct (σ1.set i none) G } (σ.set i (some (.ref a))) H) ∧ (r = false → wManyA i Wout D l cls d σ H)
inductive HdsA (X : Cx) (n : Str) : List ExceptHandler → List ((Value → Option Bool) × (Addr → Value → Option Addr → TS)) → Prop
  | nil : HdsA X n [] []
  | cons {t : Expr} {mt : Value → Option Bool} {ts : Addr → Value → Option Addr → TS} {b0 : Stmt} {suite : List Stmt} {pos : Pos} {hds : List ExceptHandler} {l : List ((Value → Option Bool) × (Addr → Value → Option Addr → TS))} (ht : HTest X t mt)
      (hs : ∀ (a : Addr) (oe : Obj) (cls : Value) (d : Option Addr) (pn : List (Addr × Obj)), Zc cls d oe → (∃ vs, oe.data = .fields vs) → PSs (X.suite a ((a, oe) :: pn)) (b0 :: suite) (ts a cls d)) (r : HdsA X n hds l) : HdsA X n (.ExceptHandler (some t) (some n) (b0 :: suite) pos :: hds) ((mt, ts) :: l)
/-- what flies stays so while more is laid -/
theorem flying_keep {B h h1 : Heap} {l : List Env} {e : Addr} {Z : Obj → Prop} (k : ∀ c o, h.get? c = some o → h1.get? c = some o) (f : FlyingZ B l e Z h) : FlyingZ B l e Z h1 := by
  obtain ⟨f1, f2, f3, oe, vs, T, oT, ts, he, hz, hd, a1, a2, a3, a4, a5, a6⟩ := f
  exact ⟨fun b o q => k b o (f1 b o q), f2, f3.of_keeps fun b o hb _ => ⟨o, k b o hb, rfl⟩, oe, vs, T, oT, ts, k _ _ he, hz, hd, a1, a2, a3, k _ _ a4, a5, a6⟩
section
variable {X : Cx} {n : Str} {i : Nat} {body : List Stmt} {h0 : ExceptHandler} {hds : List ExceptHandler} {l : List ((Value → Option Bool) × (Addr → Value → Option Addr → TS))} {pos : Pos} {tb : WX → TS} {Wout : WX}
theorem ps_try_manyA (hs : X.stack = X.env :: X.outer) (hf : X.env.frame = some X.env.locals) (hN : X.N.Nodup) (hi : X.N[i]? = some n) (hln : X.env.kindOf n = some .local) (tk : Takes X Wout)
    (hb : ∀ (W : WX) (pn : List (Addr × Obj)) (xe : Value → Shared → Prop), Takes (X.tr pn xe) W → PassesOwn (model X.prog X.w) X.A X.env xe → PSs (X.tr pn xe) body (tb W))
    (hh : HdsA X n (h0 :: hds) l) : PS X (.Try body (h0 :: hds) [] [] pos) (fun D σ H => tb (wManyA i Wout D l) D σ H) := by
  refine ⟨fun pins s σ H D I want => ?_⟩
  have ok := I.ok
  have frames : X.A.frames = some (X.env :: X.outer) := by rw [ok.frames, hs]
  have loc : Loc X.env.scope n := .inl hln
  refine wpAny_Try_except (wpAny_mono ((hb (wManyA i Wout D l) (X.pn ++ pins) (fun e s1 => wpAny (model X.prog X.w) X.A (noteFrame e X.env) (fun _ s2 => wpAny (model X.prog X.w) X.A (setFlight e none) (fun _ s3 => wpAny (model X.prog X.w) X.A (handleBy e X.env (h0 :: hds)) (SP X pins D) X.xe s3) X.xe s2) X.xe s1) (fun u s1 x1 => ?_) PassesOwn.looking).run [] s σ H D (I.toTry _) want) (fun fl s1 q => ?_) fun e s1 q => q)
  · obtain ⟨a, B, sI, _, σ1, H1, cls, d, rfl, J0, nb, up, sky, na, os, ag, wish⟩ := x1
    have J : Inv X pins σ1 H1 sI := J0.ofTry ok
    rw [hs] at sky
    refine Sky.land Zc.steady frames hf sky fun h3 fl3 up3 => ?_
    have out : ∀ {h : Heap} {o : Obj} {vs : Array Value}, h.FunFrames B (X.env :: X.outer) → h.get? a = some o → o.data = .fields vs → a ≠ X.env.locals ∧ a ∉ X.fs := fun {h o vs} ff e dd => by
      have nf : a ∉ frs (X.env :: X.outer) := fun hm => by
        obtain ⟨_, o2, e2, z⟩ := ff.mem hm
        rw [e] at e2
        cases e2
        exact z _ dd
      exact ⟨fun z => nf (List.mem_filterMap.mpr ⟨X.env, List.mem_cons_self, by rw [hf, z]⟩), fun hm => by
        obtain ⟨e, he, q⟩ := List.mem_filterMap.mp hm
        exact nf (List.mem_filterMap.mpr ⟨e, List.mem_cons_of_mem _ he, q⟩)⟩
    have go : ∀ {hs2 : List ExceptHandler} {l2 : List ((Value → Option Bool) × (Addr → Value → Option Addr → TS))}, HdsA X n hs2 l2 → ∀ (h : Heap) (t : Nat), FlyingZ B (X.env :: X.outer) a (Zc cls d) h → sI.heap.UpToSlots h → wManyA i Wout D l2 cls d σ1 H1 →
        wpAny (model X.prog X.w) X.A (handleBy (.ref a) X.env hs2) (SP X pins D) X.xe { s1 with heap := h, toks := t } := by
      intro hs2 l2 hk
      induction hk with
      | nil =>
        intro h t fl up wish
        refine wpAny_handleBy_nil ?_
        obtain ⟨_, _, _, oe, vs, T, oT, ts, he, hz, hd, h1, _⟩ := id fl
        unfold PySem.passOn
        refine wpAny_bind (wpAny_field he hd h1 ?_)
        rw [if_neg (by simp)]
        have last : wpAny (model X.prog X.w) X.A (setFlight (.ref a) X.env.frame) (fun _ s4 => wpAny (model X.prog X.w) X.A (throw (.ref a) : Sem Flow) (SP X pins D) X.xe s4) X.xe { s1 with heap := h, toks := t } := by
          rw [hf]
          refine setFlight_upZ fl fun h4 hh4 up4 => wpAny_throw (tk _ _ ?_)
          exact ⟨a, B, sI, pins, σ1, H1, cls, d, rfl, J, nb, up.trans up4, .inr (.inr (by rw [hs]; exact hh4)), na, os, ag, wish⟩
        first
          | exact wpAny_bind (wpAny_pure (wpAny_bind last))
          | exact wpAny_bind last
      | @cons t mt ts b0 suite pos2 hds2 l2 ht hsu r ih =>
        intro h tok fl up wish
        obtain ⟨ans, hm, yes, no⟩ := wish
        have J3 : Inv X pins σ1 H1 { s1 with heap := h, toks := tok } := J.landed (s' := { s1 with heap := h, toks := tok }) nb fl.1 up os ag
        obtain ⟨oe, vs, he, hz, hd⟩ := fl.there
        have nn := out fl.2.2.1 he hd
        have S3 := J3.suite he hd na nn.1 nn.2
        refine wpAny_handleBy_cons (codeAny_handlers_test ?_) (by intro q; cases q)
        refine ht a oe cls d (X.pn ++ pins) [] σ1 H1 { s1 with heap := h, toks := tok } ans _ _ S3 he hz hm fun h4 tok4 k4 => ?_
        have fl4 := flying_keep k4 fl
        have up4 : sI.heap.UpToSlots h4 := up.trans fun b o hb _ => ⟨o.slots, k4 b o hb⟩
        cases ans with
        | false => exact ih h4 tok4 fl4 up4 (no rfl)
        | true =>
          refine codeAny_handlers_suite_as (lands_againZ fl4 fun h5 fl5 up5 => ?_)
          have J5 : Inv X pins σ1 H1 { s1 with heap := h5, toks := tok4 } := J.landed (s' := { s1 with heap := h5, toks := tok4 }) nb fl5.1 (up4.trans up5) os ag
          obtain ⟨oe5, vs5, he5, hz5, hd5⟩ := fl5.there
          have n5 := out fl5.2.2.1 he5 hd5
          refine store_ok (X := X.suite a ((a, oe5) :: (X.pn ++ pins))) (v := .ref a) (J5.suite he5 hd5 na n5.1 n5.2) hN hi loc rfl (fun s6 S6 => ?_) (.inr hln)
          refine wpAny_mono ((hsu a oe5 cls d (X.pn ++ pins) hz5 ⟨_, hd5⟩).run [] s6 _ H1 _ S6 (yes rfl a na (by rw [J5.len]; exact (List.getElem?_eq_some_iff.mp hi).1))) (fun fl7 s7 q7 => ?_) fun _ _ z => False.elim z
          have gone : ∀ {σ7 : L2.St} {H7 : Hp} {Q : Shared → Prop}, Inv (X.suite a ((a, oe5) :: (X.pn ++ pins))) [] σ7 H7 s7 → (∀ s8, Inv X pins (σ7.set i none) H7 s8 → Q s8) → wpAny (model X.prog X.w) X.A (do bindName X.env n .none; unbindBehindTheSuite X.env n pos2) (fun _ s8 => Q s8) X.xe s7 := fun {σ7 H7 Q} S7 hq => gone_ok (S7.unsuite ok) hN hi hln hq
          cases fl7 with
          | next =>
            obtain ⟨σ7, H7, S7, q7⟩ := q7
            exact gone S7 fun s8 J8 => ⟨_, _, J8, q7⟩
          | brk =>
            obtain ⟨σ7, H7, S7, q7⟩ := q7
            exact gone S7 fun s8 J8 => ⟨_, _, J8, q7⟩
          | cont =>
            obtain ⟨σ7, H7, S7, q7⟩ := q7
            exact gone S7 fun s8 J8 => ⟨_, _, J8, q7⟩
          | ret u =>
            obtain ⟨v7, σ7, H7, S7, r7, q7⟩ := q7
            exact gone S7 fun s8 J8 => ⟨_, _, _, J8, r7, q7⟩
    exact go hh h3 s1.toks fl3 (up.trans up3) wish
  · cases fl with
    | next =>
      obtain ⟨σ1, H1, J1, q⟩ := q
      exact wpAny_execs_nil ⟨σ1, H1, J1.ofTry ok, q⟩
    | brk =>
      obtain ⟨σ1, H1, J1, q⟩ := q
      exact ⟨σ1, H1, J1.ofTry ok, q⟩
    | cont =>
      obtain ⟨σ1, H1, J1, q⟩ := q
      exact ⟨σ1, H1, J1.ofTry ok, q⟩
    | ret u =>
      obtain ⟨v, σ1, H1, J1, r, q⟩ := q
      exact ⟨v, σ1, H1, J1.ofTry ok, r, q⟩
end
end Gu
namespace Gu
open PySem PySem.Spec PyProof.Rows L2
/-! ### defs that are called where no container is being written out -/
structure FnG (P : Program) (w : World) (K : PySem.W.Frag) (mg : Str → Option Value) (base : Heap) (k : Nat) (f : Addr) (fd : FuncData) (ps : List Str) (sp : Sp) : Prop where
  len : ∀ vs H Q E, sp vs H Q E → vs.length = ps.length
  run : ∀ (A : Around) (outer : List Env) (s : Shared) (H : Hp) (args : Args) (us : List Value) (vs : List V) (Q : VK) (E : XK), Room k A → A.guards = some [] → Env0 P w K mg base A outer s H → BindsTo s fd args (ps.zip us) → Vals vs us → sp vs H Q E →
    codeAny (model P w) A (.call (.ref f) args) (CR CX0 outer P w H s Q E) s
section
variable {P : Program} {w : World} {K : PySem.W.Frag} {mg : Str → Option Value} {base : Heap}
theorem okG {x qual : Str} {st : Stmt} {f : Addr} {fd : FuncData} {N ps : List Str} {k : Nat} {sp : Sp} (F : Fun K x qual st f fd) (S : FnScope N ps (defScope st)) (len : ∀ vs H Q E, sp vs H Q E → vs.length = ps.length)
    (body : ∀ (cdv : Value) (A : Around) (outer : List Env) (s : Shared) (H : Hp) (vs : List V) (Q : VK) (E : XK), Room k (A.deeper (envOfC qual (defScope st) s.heap.objs.size f cdv)) → A.guards = some [] → sp vs H Q E →
      ∃ t, PSs (cxOf CX0 P w K mg base N qual (defScope st) f cdv A outer s H E).nox (defBody st) t ∧ t { nx := fun _ G => Q .non G, rt := Q } (start N vs) H) : FnG P w K mg base (k + 1) f fd ps sp := by
  obtain ⟨oc, od, kV, doc, pm, an, cdv, ct, osl, rfl, lk, hcd⟩ := F.ex
  refine ⟨len, fun A outer s H args us vs Q E room quiet env binds rel want => ?_⟩
  have stays : ∀ b o, base.get? b = some o → s.heap.get? b = some o := fun b o e => (env.bs b o e).1
  have inK : K.In s.heap := env.mod.kin.keeps stays
  have free : s.heap.NoLimit := env.mod.nolimit.keeps stays
  refine codeAny_call_function room.depth (inK _ _ lk) rfl S.co S.gen rfl (PySem.W.codeRec_of inK hcd) (binds _ _ _ _ ?_)
  refine wpAny_newFunctionEnv_cells S.kind (fun ⟨n, v⟩ hy => (S.par n (List.of_mem_zip hy).1).imp id fun q => ⟨q, PySem.W.cellsFrom_some _ _ _ (.inl q)⟩) fun env1 e1 s1 c1 => ?_
  subst e1
  refine ⟨free.keeps c1.toInCall.keep, codeAny_func ?_⟩
  obtain ⟨t, d, q⟩ := body cdv A outer s H vs Q E (room.deeper _) quiet want
  refine wpAny_mono (d.nox.run [] s1 (start N vs) H _ (inv_start S room.hd env (len _ _ _ _ want) rel c1) q) (fun fl s2 h2 => ?_) fun e s2 h2 => h2
  cases fl with
  | ret u =>
    obtain ⟨v, σ2, G, J, rv, r⟩ := h2
    exact ⟨v, G, J.os, J.bare, J.base, J.hok, rv, r⟩
  | next =>
    obtain ⟨σ2, G, J, r⟩ := h2
    exact ⟨V.non, G, J.os, J.bare, J.base, J.hok, rfl, r⟩
  | brk => exact (h2.choose_spec.choose_spec.2 : False).elim
  | cont => exact (h2.choose_spec.choose_spec.2 : False).elim
structure CalG (P : Program) (w : World) (K : PySem.W.Frag) (mg : Str → Option Value) (base : Heap) (k : Nat) (x : Str) (ps : List Str) (sp : Sp) : Prop where
  ex : ∃ (f : Addr) (fd : FuncData), FnG P w K mg base k f fd ps sp ∧ mg x = some (.ref f) ∧ PySem.W.keepIn K (.ref f) = true ∧ Binds K fd ps []
theorem At.calG {x : Str} {st : Stmt} {N ps : List Str} {k : Nat} {sp : Sp} (D : At K mg x st ps) (S : FnScope N ps (defScope st)) (len : ∀ vs H Q E, sp vs H Q E → vs.length = ps.length)
    (body : ∀ (f : Addr) (cdv : Value) (A : Around) (outer : List Env) (s : Shared) (H : Hp) (vs : List V) (Q : VK) (E : XK), Room k (A.deeper (envOfC x (defScope st) s.heap.objs.size f cdv)) → A.guards = some [] → sp vs H Q E →
      ∃ t, PSs (cxOf CX0 P w K mg base N x (defScope st) f cdv A outer s H E).nox (defBody st) t ∧ t { nx := fun _ G => Q .non G, rt := Q } (start N vs) H) : CalG P w K mg base (k + 1) x ps sp := by
  obtain ⟨f, fd, F, b, g⟩ := D.ex
  exact ⟨f, fd, okG F S len (body f), g, F.kp, b⟩
end
def tCallG (sp : Sp) (t : TA) : TE := fun σ H Q => t σ H fun vs G => sp vs G Q E0
section
variable {X : Cx} {k j : Nat} {x : Str} {ps : List Str} {sp : Sp} {p pos : Pos} {e : Expr} {es : List Expr} {t : TA}
theorem pe_ownG (c : CalG X.prog X.w X.K X.mg X.base k x ps sp) (hr : Room j X.A) (hk : k ≤ j) (quiet : X.A.guards = some []) (hg : Gl X x) (ha : PA X (e :: es) t)
    (hdb : (x == ("__debug__" : Str)) = false := by decide) (he : starEach (e :: es) X.env = (false, eval e X.env) :: starEach es X.env := by rfl) (hpl : (backTo pos (starEach es X.env)).any (·.1) = false := by rfl) :
    PE X (.Call (.Name x p) (e :: es) [] pos) (tCallG sp t) := by
  obtain ⟨f, fd, F, hm, kp, b⟩ := c.ex
  refine ⟨fun pins s σ H Q I h => wpAny_Call_Name_kw (ld_glob I hg hm (PySem.W.callWith_K (h₀ := X.base) I.ok.mod.kin kp (thn (ha.run pos pins s σ H _ I h) fun us s1 ⟨vs, G, I1, r, q⟩ => ⟨I1.kIn, ?_⟩) he hpl) hdb)⟩
  have ll : (us ++ []).length = ps.length := by
    rw [List.append_nil, ← r.length]
    exact F.len _ _ _ _ q
  have bt := b s1 us I1.kIn ll
  rw [List.append_nil] at bt
  refine wpAny_call (codeAny_mono (F.run X.A X.stack s1 G ⟨us, []⟩ us vs Q E0 (hr.mono hk) quiet I1.env0 bt r q) fun rr s2 h2 => ?_)
  cases rr with
  | error e => exact (h2 : False).elim
  | ok fl =>
    cases fl with
    | ret u => exact I1.after h2
    | next => exact (h2 : False).elim
    | brk => exact (h2 : False).elim
    | cont => exact (h2 : False).elim
end
end Gu
namespace Gu
open PySem PySem.Spec PyProof.Rows L2
/-- a heap in which nothing is tracked but, at most, the script at a, which stands still there -/
theorem quiet_end {P : Program} {w : World} {K : PySem.W.Frag} {mg mb : Str → Option Value} {k : Nat} {fa a : Addr} {fd : FuncData} {x : Str} {sp : Sp} {s : Shared} {us : List Value} {H : Hp} (inK : K.In s.heap) (nsG : s.heap.Ns mainGlobals mg) (nsB : s.heap.Ns builtinsNs mb)
    (bb : ∀ x : Str, x ≠ "__name__" → mb x = bootBuiltins x) (nl : s.heap.NoLimit) (ng : s.gens = #[]) (at_a : s.heap.get? a = some { cls := .type "list", data := .seq us.toArray }) (room : Room k callerA)
    (F : ∀ base : Heap, K.In base → base.Ns mainGlobals mg → FnG P w K mg base k fa fd [x] sp) (bind : ∀ (s : Shared) (u : Value), BindsTo s fd ⟨[u], []⟩ [(x, u)]) (want : sp [.ref a] H (fun v _ => v = .bl true) fun _ _ _ => False)
    (only : Only H) (ok : HOk P w H s.heap) (one : ∀ b, H b ≠ none → b = a ∧ K.lookup a = none) :
    codeAny (model P w) callerA (.call (.ref fa) ⟨[.ref a], []⟩) (fun r s2 => r = .ok (.ret (.bool true)) ∧ OldK s.heap s2.heap ∧ s2.os = s.os ∧ AllBare s2.gens) s := by
  have dictFree : ∀ (b : Addr) (o : Obj) (es : Array DictEntry) (ep : Nat), s.heap.get? b = some o → o.data = .dict es ep → H b = none := fun b o es ep e d =>
    Classical.byContradiction fun z => by
      have hb := (one b z).1
      rw [hb, at_a] at e
      cases e
      exact Data.noConfusion d
  have hiddenNs : ∀ (b : Addr) (m : Str → Option Value), s.heap.Ns b m → (hidT s.heap H).Ns b m := fun b m h => by
    obtain ⟨o, es, ep, e, d, r⟩ := h
    exact ⟨o, es, ep, hidT_get e (dictFree b o es ep e d), d, r⟩
  have hiddenK : K.In (hidT s.heap H) := fun b o e => hidT_get (inK b o e) (Classical.byContradiction fun z => by
    obtain ⟨h1, h2⟩ := one b z
    rw [h1, h2] at e
    cases e)
  have env : Env0 P w K mg (hidT s.heap H) callerA [] s H := by
    refine ⟨rfl, ⟨hiddenK, hiddenNs _ _ nsG, ⟨mb, hiddenNs _ _ nsB, bb⟩, ?_⟩, fun b o e => of_hidT e, Nat.le_of_eq (hidT_size _ _), trivial, fun b hb => absurd (show b ∈ ([] : List Addr) from hb) List.not_mem_nil, ok, .of_eq ng⟩
    obtain ⟨mc, h1, h2⟩ := nl
    exact ⟨mc, hiddenNs _ _ h1, h2⟩
  refine codeAny_mono ((F _ hiddenK (hiddenNs _ _ nsG)).run callerA [] s H ⟨[.ref a], []⟩ [.ref a] [.ref a] _ _ room rfl env (bind s (.ref a)) (.cons rfl .nil) want) fun r s2 h2 => ?_
  cases r with
  | error e => exact (h2 : False).elim
  | ok fl =>
    cases fl with
    | next => exact (h2 : False).elim
    | brk => exact (h2 : False).elim
    | cont => exact (h2 : False).elim
    | ret u =>
      obtain ⟨v, G, os, bare, un, ok2, rv, hv⟩ := h2
      cases (show v = .bl true from hv)
      cases (show u = Value.bool true from rv)
      refine ⟨rfl, OldK.of_keep fun b o e => ?_, os, bare⟩
      rcases only b with z | ⟨ob, xs, z⟩
      · exact un.keep b o e z (fun y => absurd (show b ∈ ([] : List Addr) from y) List.not_mem_nil) (by simp)
      · have e1 := (ok b _ z).1
        have e2 := (ok2 b _ (un.frzs b ob _ z)).1
        rw [e] at e1
        cases e1
        exact e2
/-- the law's call, by its promise -/
theorem quiet_call {P : Program} {w : World} {K : PySem.W.Frag} {mg mb : Str → Option Value} {k : Nat} {fa a : Addr} {fd : FuncData} {x : Str} {sp : Sp} {s : Shared} {us : List Value} {ns : List Int} (inK : K.In s.heap) (nsG : s.heap.Ns mainGlobals mg) (nsB : s.heap.Ns builtinsNs mb)
    (bb : ∀ x : Str, x ≠ "__name__" → mb x = bootBuiltins x) (nl : s.heap.NoLimit) (ng : s.gens = #[]) (at_a : s.heap.get? a = some { cls := .type "list", data := .seq us.toArray }) (nums : IntsAre us ns) (small : ns.length ≤ sizeLine) (room : Room k callerA)
    (F : ∀ base : Heap, K.In base → base.Ns mainGlobals mg → FnG P w K mg base k fa fd [x] sp) (bind : ∀ (s : Shared) (u : Value), BindsTo s fd ⟨[u], []⟩ [(x, u)])
    (want : ∀ H : Hp, SqL K H a (ns.map V.int) → sp [.ref a] H (fun v _ => v = .bl true) fun _ _ _ => False) :
    codeAny (model P w) callerA (.call (.ref fa) ⟨[.ref a], []⟩) (fun r s2 => r = .ok (.ret (.bool true)) ∧ OldK s.heap s2.heap ∧ s2.os = s.os ∧ AllBare s2.gens) s := by
  have rel := vals_ints nums
  cases hk : K.lookup a with
  | some o =>
    have e := inK a o hk
    rw [at_a] at e
    cases e
    refine quiet_end (H := fun _ => none) inK nsG nsB bb nl ng at_a room F bind (want _ (.inr ⟨_, us.toArray, _, hk, rfl, rfl, rfl, ?_, rel⟩)) (fun _ => .inl rfl) (fun b u z => nomatch (show (none : Option HO) = some u from z)) fun b z => absurd rfl z
    rw [List.size_toArray, nums.length]
    exact small
  | none =>
    refine quiet_end (H := upd (fun _ => none) a (.frz { cls := .type "list", data := .seq us.toArray } (.lst (ns.map V.int)))) inK nsG nsB bb nl ng at_a room F bind (want _ (.inl (.inr ⟨_, upd_same⟩))) (fun b => ?_) (fun b u z => ?_) fun b z => ?_
    · by_cases hb : b = a
      · exact .inr ⟨_, _, by rw [hb]; exact upd_same⟩
      · exact .inl (upd_ne hb)
    · by_cases hb : b = a
      · subst hb
        rw [upd_same] at z
        cases z
        exact ⟨at_a, by rw [List.length_map]; exact small, us, _, rel, at_a⟩
      · rw [upd_ne hb] at z
        cases z
    · by_cases hb : b = a
      · exact ⟨hb, hk⟩
      · exact absurd (upd_ne hb) z
theorem walkG {l : PySem.W.OpenLaw} {n k : Nat} {q : Program} {loose : List Str} {XP : (Str → Option Value) → Heap → Prop} {YP : World → Heap → Prop} {d : DefRec} {K : Params → PySem.W.Frag} {x : Str} {sp : PySem.W.Frag → Sp} (most : l.most = some n) (small : n ≤ sizeLine) (plain : d.params.defaults = []) (room : Room k callerA)
    (left : ∀ (w : World) (h : Heap), YP w h → (K w.params).In h)
    (F : ∀ (w : World) (mg : Str → Option Value) (fa : Addr) (h : Heap), (K w.params).In h → h.Ns mainGlobals mg → mg d.name = some (.ref fa) → ∃ fd : FuncData, (∀ (s : Shared) (u : Value), BindsTo s fd ⟨[u], []⟩ [(x, u)]) ∧
      ∀ base : Heap, (K w.params).In base → base.Ns mainGlobals mg → FnG l.prog w (K w.params) mg base k fa fd [x] (sp (K w.params)))
    (want : ∀ (w : World) (H : Hp) (a : Addr) (ns : List Int), ns.length ≤ n → SqL (K w.params) H a (ns.map V.int) → sp (K w.params) [.ref a] H (fun v _ => v = .bl true) fun _ _ _ => False) :
    PySem.W.WalkO q loose XP YP l.row.toRowW d [] (fun f vs => PySem.call f vs) := by
  refine Att.attach_call most plain fun w s0 s mg mb fa o pm cd doc a us ns G Y ho hd hcd hmg at_a nums le ng => ?_
  obtain ⟨fd, bind, fn⟩ := F w mg fa _ (left w _ Y) G.T.g hmg
  exact quiet_call (left w _ Y) G.T.g G.T.b G.T.builtins G.T.nolimit ng at_a nums (Nat.le_trans le small) room fn bind fun H hS => want w H a ns le hS
end Gu
namespace Gu
open PySem PySem.Spec PyProof.Rows L2
/-! ### what can be written out -/
structure Fine (n W : Nat) (d : PyData) : Prop where
  nd : d.hasDict = false
  sh : d.showable = true
  ls : d.leavesShort 80 = true
  dp : d.depth ≤ n
  wt : d.weight ≤ W
structure FineAll (n W : Nat) (ds : List PyData) : Prop where
  nd : PyData.hasDictAll ds = false
  sh : PyData.showableAll ds = true
  ls : PyData.leavesShortAll 80 ds = true
  dp : PyData.depthAll ds ≤ n
  wt : PyData.weightAll ds ≤ ds.length * (W + 1)
theorem FineAll.of {n W : Nat} : ∀ {ds : List PyData}, (∀ d ∈ ds, Fine n W d) → FineAll n W ds
  | [], _ => ⟨rfl, rfl, rfl, Nat.zero_le _, Nat.zero_le _⟩
  | d :: ds, h => by
    have a := h d (List.mem_cons_self ..)
    have b := FineAll.of (ds := ds) fun e he => h e (List.mem_cons_of_mem _ he)
    refine ⟨?_, ?_, ?_, Nat.max_le.mpr ⟨a.dp, b.dp⟩, ?_⟩
    · show (d.hasDict || PyData.hasDictAll ds) = false
      rw [a.nd, b.nd]
      rfl
    · show (d.showable && PyData.showableAll ds) = true
      rw [a.sh, b.sh]
      rfl
    · show (d.leavesShort 80 && PyData.leavesShortAll 80 ds) = true
      rw [a.ls, b.ls]
      rfl
    · show d.weight + 1 + PyData.weightAll ds ≤ (ds.length + 1) * (W + 1)
      have := a.wt
      have := b.wt
      rw [Nat.succ_mul]
      omega
theorem FineAll.list {n W : Nat} {ds : List PyData} (a : FineAll n W ds) : Fine (n + 1) (ds.length * (W + 1)) (.list ds) := ⟨a.nd, a.sh, a.ls, Nat.succ_le_succ a.dp, a.wt⟩
theorem FineAll.tup {n W : Nat} {ds : List PyData} (a : FineAll n W ds) : Fine (n + 1) (ds.length * (W + 1)) (.tuple ds) := ⟨a.nd, a.sh, a.ls, Nat.succ_le_succ a.dp, a.wt⟩
theorem Fine.mono {n m W Z : Nat} {d : PyData} (h : Fine n W d) (a : n ≤ m) (b : W ≤ Z) : Fine m Z d := ⟨h.nd, h.sh, h.ls, Nat.le_trans h.dp a, Nat.le_trans h.wt b⟩
theorem Fine.bool (b : Bool) : Fine 0 0 (.bool b) := ⟨rfl, rfl, rfl, Nat.le_refl _, Nat.le_refl _⟩
theorem Fine.none : Fine 0 0 .none := ⟨rfl, rfl, rfl, Nat.le_refl _, Nat.le_refl _⟩
theorem Fine.int {i : Int} (h : i.natAbs < 2 ^ 70) : Fine 0 70 (.int i) := by
  have l : i.natAbs.log2 < 70 := PySem.Flt.log2_lt_of (by decide) h
  refine ⟨rfl, decide_eq_true (by omega), decide_eq_true ?_, Nat.le_refl _, ?_⟩
  · have e := int_text_length_le (a := i) (k := 70) (by decide) l
    show (Str.ofString (toString i)).length ≤ 80
    rw [PySem.ofString_length]
    omega
  · show (if i == 0 then 0 else i.natAbs.log2 + 1) ≤ 70
    split <;> omega
theorem Fine.str {z : Str} {W : Nat} (h : ∀ c ∈ z.cps.toList, c < 16 ^ 8) (w : z.cps.toList.length ≤ W) : Fine 0 W (.str z) := by
  refine ⟨rfl, rfl, ?_, Nat.le_refl _, w⟩
  show (z.cps.toList.all fun c => decide (c < 16 ^ 8)) = true
  rw [List.all_eq_true]
  exact fun c hc => decide_eq_true (h c hc)
theorem Fine.fits {d : PyData} (h : Fine 60 100000 d) : d.shown.length ≤ sizeLine := by
  have a := PyData.shown_le 80 (by decide) d h.ls
  have b := h.wt
  have c : (80 + 2) * d.weight ≤ 82 * 100000 := Nat.mul_le_mul_left _ b
  have e : sizeLine = 16777216 := by decide
  omega
section
variable {X : Cx}
/-- repr of a list or tuple, where none is being written out -/
theorem call_reprD (quiet : X.A.guards = some []) (hu : X.A.units + 64 < cLine) : CallR X (.builtin "repr") (fun xs H Q => ∃ (a : Addr) (d : PyData), xs = [.ref a] ∧ Dp X.K H (.ref a) d ∧ Fine 60 100000 d ∧ Q (.str d.shown) H) := by
  intro pins s σ H xs us Q I r h
  obtain ⟨a, d, rfl, hd, fine, q⟩ := h
  cases r with
  | cons r rr =>
    cases rr
    cases (show _ = Value.ref a from r)
    obtain ⟨as, rd⟩ := Dp.reads I d (.ref a) (.ref a) hd rfl
    have dp := fine.dp
    exact repr_of_reads' rd fine.sh (PyData.noDict_hsm fine.nd) quiet (by omega) (fun _ _ e => e) (fun g u tk keep => ⟨.str d.shown, H, I.kept (t' := tk) keep, ⟨_, rfl⟩, q⟩) fine.fits
end
end Gu
namespace Gu
open PySem PySem.Spec PyProof.Rows L2
/-! ### things of any kind, an empty dict among them, written out -/
/-- the system's modules are known to stand -/
def Sys (H : Hp) : Prop := ∃ o u, H sysModules = some (.frz o u)
theorem Sys.same {H G : Hp} (h : Sys H) (s : Same H G) : Sys G := by
  obtain ⟨o, u, e⟩ := h
  exact ⟨o, u, s _ _ e⟩
mutual
inductive DpE (K : PySem.W.Frag) (H : Hp) : V → PyData → Prop
  | non : DpE K H .non .none
  | bl (b : Bool) : DpE K H (.bl b) (.bool b)
  | int (i : Int) : DpE K H (.int i) (.int i)
  | str (x : Str) : DpE K H (.str x) (.str x)
  | lst {a : Addr} {xs : List V} {ds : List PyData} : H a = some (.lst xs) → DpEs K H xs ds → DpE K H (.ref a) (.list ds)
  | tup {a : Addr} {xs : List V} {ds : List PyData} : SqT K H a xs → DpEs K H xs ds → DpE K H (.ref a) (.tuple ds)
  | dict {a : Addr} : H a = some (.dK []) → DpE K H (.ref a) (.dict [])
inductive DpEs (K : PySem.W.Frag) (H : Hp) : List V → List PyData → Prop
  | nil : DpEs K H [] []
  | cons {v : V} {vs : List V} {d : PyData} {ds : List PyData} : DpE K H v d → DpEs K H vs ds → DpEs K H (v :: vs) (d :: ds)
end
theorem stE {K : PySem.W.Frag} {H G : Hp} {a : Addr} {xs : List V} (s : Same H G) (h : SqT K H a xs) : SqT K G a xs := by
  rcases h with (h | ⟨o, h⟩) | h
  · exact .inl (.inl (s _ _ h))
  · exact .inl (.inr ⟨o, s _ _ h⟩)
  · exact .inr h
mutual
theorem DpE.same {K : PySem.W.Frag} {H G : Hp} (s : Same H G) : ∀ {v : V} {d : PyData}, DpE K H v d → DpE K G v d
  | _, _, .non => .non
  | _, _, .bl b => .bl b
  | _, _, .int i => .int i
  | _, _, .str x => .str x
  | _, _, .lst h a => .lst (s _ _ h) (DpEs.same s a)
  | _, _, .tup h a => .tup (stE s h) (DpEs.same s a)
  | _, _, .dict h => .dict (s _ _ h)
theorem DpEs.same {K : PySem.W.Frag} {H G : Hp} (s : Same H G) : ∀ {vs : List V} {ds : List PyData}, DpEs K H vs ds → DpEs K G vs ds
  | _, _, .nil => .nil
  | _, _, .cons a b => .cons (DpE.same s a) (DpEs.same s b)
end
section
variable {X : Cx} {pins : List (Addr × Obj)} {σ : L2.St} {H : Hp} {s : Shared}
mutual
theorem DpE.reads (I : Inv X pins σ H s) (y : Sys H) : ∀ (d : PyData) (v : V) (u : Value), DpE X.K H v d → RelV v u → ∃ as, Reads s.heap u d as ∧ sysModules ∉ as
  | .none, _, _, h, r => by
    cases h
    cases r
    exact ⟨_, Reads.none, List.not_mem_nil⟩
  | .bool b, _, _, h, r => by
    cases h
    cases r
    exact ⟨_, Reads.bool b, List.not_mem_nil⟩
  | .int i, _, _, h, r => by
    cases h
    obtain ⟨t, rfl⟩ := r
    exact ⟨_, Reads.int i t, List.not_mem_nil⟩
  | .str x, _, _, h, r => by
    cases h
    obtain ⟨t, rfl⟩ := r
    exact ⟨_, Reads.str x t, List.not_mem_nil⟩
  | .list ds, _, _, h, r => by
    cases h with
    | @lst a xs _ hs ha =>
      cases r
      obtain ⟨its, rv, ⟨o, n, ho, hc, _, hd⟩, _⟩ := I.list (.inl (.inl hs))
      obtain ⟨as, hr, na⟩ := DpEs.reads I y ds _ its ha rv
      refine ⟨_, Reads.list ho hc hd hr, fun z => ?_⟩
      rcases List.mem_cons.mp z with z | z
      · obtain ⟨o2, u2, e2⟩ := y
        rw [z, hs] at e2
        cases e2
      · exact na z
  | .tuple ds, _, _, h, r => by
    cases h with
    | tup hs ha =>
      cases r
      obtain ⟨its, rv, ⟨o, ho, hc, n, hd⟩, _⟩ := I.tuple hs
      obtain ⟨as, hr, na⟩ := DpEs.reads I y ds _ its ha rv
      exact ⟨_, Reads.tuple ho hc hd hr, na⟩
  | .dict kvs, _, _, h, r => by
    cases h with
    | @dict a hs =>
      cases r
      obtain ⟨_, ns, vs, kv, o, es, ep, ho, ex, hd, hes⟩ := (show ObjOk X.prog X.w H s.heap a (.dK []) from I.hok a _ hs)
      cases kv
      have en : es.toList = [] := by
        have q := hes.2.1
        generalize es.toList = l at q
        cases q
        rfl
      refine ⟨_, Reads.dict (kvs := []) ho ex.1 hd (by rw [en]; exact .nil) (by rw [en]; exact .nil), fun z => ?_⟩
      have z : sysModules = a := by simpa using z
      rw [← z] at ns
      simp at ns
theorem DpEs.reads (I : Inv X pins σ H s) (y : Sys H) : ∀ (ds : List PyData) (vs : List V) (us : List Value), DpEs X.K H vs ds → Vals vs us → ∃ as, ReadsAll s.heap us ds as ∧ sysModules ∉ as
  | [], _, _, h, r => by
    cases h
    cases r
    exact ⟨_, ReadsAll.nil, List.not_mem_nil⟩
  | d :: ds, _, _, h, r => by
    cases h with
    | cons h1 h2 =>
      cases r with
      | cons r1 r2 =>
        obtain ⟨as, q1, n1⟩ := DpE.reads I y d _ _ h1 r1
        obtain ⟨bs, q2, n2⟩ := DpEs.reads I y ds _ _ h2 r2
        exact ⟨_, ReadsAll.cons q1 q2, fun z => (List.mem_append.mp z).elim n1 n2⟩
end
end
/-- what can be written out -/
structure FineE (n W : Nat) (d : PyData) : Prop where
  sh : d.showable = true
  ls : d.leavesShort 80 = true
  dp : d.depth ≤ n
  wt : d.weight ≤ W
theorem Fine.e {n W : Nat} {d : PyData} (h : Fine n W d) : FineE n W d := ⟨h.sh, h.ls, h.dp, h.wt⟩
structure FineEs (n W : Nat) (ds : List PyData) : Prop where
  sh : PyData.showableAll ds = true
  ls : PyData.leavesShortAll 80 ds = true
  dp : PyData.depthAll ds ≤ n
  wt : PyData.weightAll ds ≤ ds.length * (W + 1)
theorem FineEs.of {n W : Nat} : ∀ {ds : List PyData}, (∀ d ∈ ds, FineE n W d) → FineEs n W ds
  | [], _ => ⟨rfl, rfl, Nat.zero_le _, Nat.zero_le _⟩
  | d :: ds, h => by
    have a := h d (List.mem_cons_self ..)
    have b := FineEs.of (ds := ds) fun e he => h e (List.mem_cons_of_mem _ he)
    refine ⟨?_, ?_, Nat.max_le.mpr ⟨a.dp, b.dp⟩, ?_⟩
    · show (d.showable && PyData.showableAll ds) = true
      rw [a.sh, b.sh]
      rfl
    · show (d.leavesShort 80 && PyData.leavesShortAll 80 ds) = true
      rw [a.ls, b.ls]
      rfl
    · show d.weight + 1 + PyData.weightAll ds ≤ (ds.length + 1) * (W + 1)
      have := a.wt
      have := b.wt
      rw [Nat.succ_mul]
      omega
theorem FineEs.list {n W : Nat} {ds : List PyData} (a : FineEs n W ds) : FineE (n + 1) (ds.length * (W + 1)) (.list ds) := ⟨a.sh, a.ls, Nat.succ_le_succ a.dp, a.wt⟩
theorem FineEs.tup {n W : Nat} {ds : List PyData} (a : FineEs n W ds) : FineE (n + 1) (ds.length * (W + 1)) (.tuple ds) := ⟨a.sh, a.ls, Nat.succ_le_succ a.dp, a.wt⟩
theorem FineE.mono {n m W Z : Nat} {d : PyData} (h : FineE n W d) (a : n ≤ m) (b : W ≤ Z) : FineE m Z d := ⟨h.sh, h.ls, Nat.le_trans h.dp a, Nat.le_trans h.wt b⟩
theorem FineE.dict0 : FineE 1 0 (.dict []) := ⟨rfl, rfl, Nat.le_refl _, Nat.le_refl _⟩
theorem FineE.fits {d : PyData} (h : FineE 60 100000 d) : d.shown.length ≤ sizeLine := by
  have a := PyData.shown_le 80 (by decide) d h.ls
  have b := h.wt
  have c : (80 + 2) * d.weight ≤ 82 * 100000 := Nat.mul_le_mul_left _ b
  have e : sizeLine = 16777216 := by decide
  omega
section
variable {X : Cx}
/-- repr of a list or tuple that may hold empty dicts -/
theorem call_reprE (quiet : X.A.guards = some []) (hu : X.A.units + 64 < cLine) : CallR X (.builtin "repr") (fun xs H Q => ∃ (a : Addr) (d : PyData), xs = [.ref a] ∧ Sys H ∧ DpE X.K H (.ref a) d ∧ FineE 60 100000 d ∧ Q (.str d.shown) H) := by
  intro pins s σ H xs us Q I r h
  obtain ⟨a, d, rfl, y, hd, fine, q⟩ := h
  cases r with
  | cons r rr =>
    cases rr
    cases (show _ = Value.ref a from r)
    obtain ⟨as, rd, nas⟩ := DpE.reads I y d (.ref a) (.ref a) hd rfl
    have dp := fine.dp
    exact repr_of_reads' rd fine.sh (fun _ => nas) quiet (by omega) (fun _ _ e => e) (fun g u tk keep => ⟨.str d.shown, H, I.kept (t' := tk) keep, ⟨_, rfl⟩, q⟩) fine.fits
end
end Gu
namespace Gu
open PySem PySem.Spec PyProof.Rows L2 LamX
/-! ### the law's end where defs make lambdas: their tables are tracked -/
abbrev tabNil : Obj := { cls := .none, data := .fields #[] }
theorem quiet_endT {P : Program} {w : World} {K : PySem.W.Frag} {mg mb : Str → Option Value} {k : Nat} {fa a : Addr} {cs : List (Addr × Addr)} {fd : FuncData} {x : Str} {sp : Sp} {s : Shared} {us : List Value} {H : Hp} (inK : K.In s.heap) (nsG : s.heap.Ns mainGlobals mg) (nsB : s.heap.Ns builtinsNs mb)
    (bb : ∀ x : Str, x ≠ "__name__" → mb x = bootBuiltins x) (nl : s.heap.NoLimit) (ng : s.gens = #[]) (at_a : s.heap.get? a = some { cls := .type "list", data := .seq us.toArray }) (room : Room k callerA)
    (tabs : ∀ p ∈ cs, PySem.W.CodeHd s.heap p.1 p.2 ∧ s.heap.get? p.2 = some tabNil ∧ K.lookup p.2 = none)
    (bm : ∃ (m : Addr) (ob : Obj), mg "__builtins__" = some (.ref m) ∧ m ≠ builtinsNs ∧ s.heap.get? m = some ob ∧ ob.cls = .type "module" ∧ ob.dict = some builtinsNs ∧ ob.data = .plain)
    (F : ∀ base : Heap, K.In base → base.Ns mainGlobals mg → (∀ p ∈ cs, TabB base mg p.1 p.2) → FnG P w K mg base k fa fd [x] sp) (bind : ∀ (s : Shared) (u : Value), BindsTo s fd ⟨[u], []⟩ [(x, u)]) (want : sp [.ref a] H (fun v _ => v = .bl true) fun _ _ _ => False)
    (sys : ∃ o es n, s.heap.get? sysModules = some o ∧ o.data = .dict es n) (noSys : K.lookup sysModules = none)
    (hH : ∀ p ∈ cs, H p.2 = some (.tbl #[])) (kinds : ∀ c, H c = none ∨ c ∈ cs.map (·.2) ∨ ∃ o u, H c = some (.frz o u)) (ok : HOk P w H s.heap) (one : ∀ c, H c ≠ none → (c = a ∧ K.lookup a = none) ∨ c ∈ cs.map (·.2) ∨ c = sysModules) :
    codeAny (model P w) callerA (.call (.ref fa) ⟨[.ref a], []⟩) (fun r s2 => r = .ok (.ret (.bool true)) ∧ OldK s.heap s2.heap ∧ s2.os = s.os ∧ AllBare s2.gens) s := by
  have isTab : ∀ c ∈ cs.map (·.2), s.heap.get? c = some tabNil := fun c hc => by
    obtain ⟨p, hp, rfl⟩ := List.mem_map.mp hc
    exact (tabs p hp).2.1
  have hides : ∀ (c : Addr) (o : Obj), s.heap.get? c = some o → (∀ vs n, o.data ≠ .seq vs n) → o.data ≠ .fields #[] → c ≠ sysModules → H c = none := fun c o e n1 n2 n3 => Classical.byContradiction fun z => by
    rcases one c z with ⟨rfl, _⟩ | hc | hc
    · rw [at_a] at e
      cases e
      exact n1 _ _ rfl
    · rw [isTab c hc] at e
      cases e
      exact n2 rfl
    · exact n3 hc
  have notSys : ∀ (c : Addr) (o : Obj), s.heap.get? c = some o → (∀ es n, o.data ≠ .dict es n) → c ≠ sysModules := fun c o e n1 z => by
    obtain ⟨o2, es, n, e2, d2⟩ := sys
    rw [z, e2] at e
    cases e
    exact n1 _ _ d2
  have hidNs : ∀ (c : Addr) (m : Str → Option Value), c ≠ sysModules → s.heap.Ns c m → (hidT s.heap H).Ns c m := fun c m nc h => by
    obtain ⟨o, es, ep, e, d, r⟩ := h
    exact ⟨o, es, ep, hidT_get e (hides c o e (fun vs n z => by rw [d] at z; cases z) (fun z => by rw [d] at z; cases z) nc), d, r⟩
  have hidK : K.In (hidT s.heap H) := fun c o e => hidT_get (inK c o e) (Classical.byContradiction fun z => by
    rcases one c z with ⟨h1, h2⟩ | hc | hc
    · rw [h1, h2] at e
      cases e
    · obtain ⟨p, hp, rfl⟩ := List.mem_map.mp hc
      rw [(tabs p hp).2.2] at e
      cases e
    · rw [hc, noSys] at e
      cases e)
  have g1 := hidNs mainGlobals mg (by decide) nsG
  have g2 := hidNs builtinsNs mb (by decide) nsB
  have env : Env0 P w K mg (hidT s.heap H) callerA [] s H := by
    refine ⟨rfl, ⟨hidK, g1, ⟨mb, g2, bb⟩, ?_⟩, fun c o e => of_hidT e, Nat.le_of_eq (hidT_size _ _), trivial, fun c hc => absurd (show c ∈ ([] : List Addr) from hc) List.not_mem_nil, ok, .of_eq ng⟩
    obtain ⟨mc, h1, h2⟩ := nl
    exact ⟨mc, hidNs _ _ (by decide) h1, h2⟩
  have tb : ∀ p ∈ cs, TabB (hidT s.heap H) mg p.1 p.2 := fun p hp => by
    obtain ⟨hd, hT, _⟩ := tabs p hp
    refine ⟨?_, ?_, fun z => ?_⟩
    · obtain ⟨o, vs, file, tf, fl, tg, inF, tx, tt, e1, e2, e3, e4, rest⟩ := hd
      refine ⟨o, vs, file, tf, fl, tg, inF, tx, tt, hidT_get e1 (hides _ o e1 (fun us n z => by rw [e3] at z; cases z) (fun z => ?_) (notSys _ o e1 fun es n z => by rw [e3] at z; cases z)), e2, e3, e4, rest⟩
      rw [e3] at z
      cases z
      simp at e4
    · obtain ⟨m, ob, m1, m2, m3, m4, m5, m6⟩ := bm
      refine ⟨m, ob, m1, m2, fun z => ?_, fun z => ?_, hidT_get m3 (hides _ ob m3 (fun us n z => by rw [m6] at z; cases z) (fun z => by rw [m6] at z; cases z) (notSys _ ob m3 fun es n z => by rw [m6] at z; cases z)), m4, m5, m6⟩
      · obtain ⟨o, es, ep, e, d, _⟩ := nsG
        rw [z, e] at m3
        cases m3
        rw [d] at m6
        cases m6
      · rw [z, hT] at m3
        cases m3
        cases m6
    · obtain ⟨o, es, ep, e, d, _⟩ := nsG
      rw [z, hT] at e
      cases e
      cases d
  refine codeAny_mono ((F _ hidK g1 tb).run callerA [] s H ⟨[.ref a], []⟩ [.ref a] [.ref a] _ _ room rfl env (bind s (.ref a)) (.cons rfl .nil) want) fun r s2 h2 => ?_
  cases r with
  | error e => exact (h2 : False).elim
  | ok fl =>
    cases fl with
    | next => exact (h2 : False).elim
    | brk => exact (h2 : False).elim
    | cont => exact (h2 : False).elim
    | ret u =>
      obtain ⟨v, G, os, bare, un, ok2, rv, hv⟩ := h2
      cases (show v = .bl true from hv)
      cases (show u = Value.bool true from rv)
      have stays : ∀ c o, c ∉ cs.map (·.2) → s.heap.get? c = some o → s2.heap.get? c = some o := fun c o nc e => by
        rcases kinds c with z | z | ⟨ob, xs, z⟩
        · exact un.keep c o e z (fun y => absurd (show c ∈ ([] : List Addr) from y) List.not_mem_nil) (by simp)
        · exact absurd z nc
        · have e1 := (ok c _ z).1
          have e2 := (ok2 c _ (un.frzs c ob _ z)).1
          rw [e] at e1
          cases e1
          exact e2
      have grows : ∀ p ∈ cs, ∃ more : Array Value, s2.heap.get? p.2 = some { cls := .none, data := .fields more } := fun p hp => by
        obtain ⟨more, z⟩ := un.tbls p.2 #[] (hH p hp)
        exact ⟨_, ok2 p.2 _ z⟩
      refine ⟨rfl, ⟨fun c o e => ?_, fun c o e => ?_⟩, os, bare⟩
      · by_cases hc : c ∈ cs.map (·.2)
        · obtain ⟨p, hp, rfl⟩ := List.mem_map.mp hc
          obtain ⟨more, hm⟩ := grows p hp
          rw [isTab _ hc] at e
          cases e
          exact .inr (.inl ⟨((tabs p hp).1.tab (tabs p hp).2.1).isCodeTable, rfl, #[], more, rfl, by rw [Array.empty_append]; exact hm⟩)
        · exact .inl (stays c o hc e)
      · by_cases hc : c ∈ cs.map (·.2)
        · obtain ⟨p, hp, rfl⟩ := List.mem_map.mp hc
          obtain ⟨more, hm⟩ := grows p hp
          exact ⟨_, hm⟩
        · exact ⟨o, stays c o hc e⟩
theorem quiet_callT {P : Program} {w : World} {K : PySem.W.Frag} {mg mb : Str → Option Value} {k : Nat} {fa a : Addr} {cs : List (Addr × Addr)} {fd : FuncData} {x : Str} {sp : Sp} {s : Shared} {us : List Value} {ns : List Int} (inK : K.In s.heap) (nsG : s.heap.Ns mainGlobals mg) (nsB : s.heap.Ns builtinsNs mb)
    (bb : ∀ x : Str, x ≠ "__name__" → mb x = bootBuiltins x) (nl : s.heap.NoLimit) (ng : s.gens = #[]) (at_a : s.heap.get? a = some { cls := .type "list", data := .seq us.toArray }) (nums : IntsAre us ns) (small : ns.length ≤ sizeLine) (room : Room k callerA)
    (tabs : ∀ p ∈ cs, PySem.W.CodeHd s.heap p.1 p.2 ∧ s.heap.get? p.2 = some tabNil ∧ K.lookup p.2 = none)
    (bm : ∃ (m : Addr) (ob : Obj), mg "__builtins__" = some (.ref m) ∧ m ≠ builtinsNs ∧ s.heap.get? m = some ob ∧ ob.cls = .type "module" ∧ ob.dict = some builtinsNs ∧ ob.data = .plain)
    (F : ∀ base : Heap, K.In base → base.Ns mainGlobals mg → (∀ p ∈ cs, TabB base mg p.1 p.2) → FnG P w K mg base k fa fd [x] sp) (bind : ∀ (s : Shared) (u : Value), BindsTo s fd ⟨[u], []⟩ [(x, u)])
    (sys : ∃ o es n, s.heap.get? sysModules = some o ∧ o.data = .dict es n) (noSys : K.lookup sysModules = none)
    (want : ∀ H : Hp, (∀ p ∈ cs, H p.2 = some (.tbl #[])) → Sys H → SqL K H a (ns.map V.int) → sp [.ref a] H (fun v _ => v = .bl true) fun _ _ _ => False) :
    codeAny (model P w) callerA (.call (.ref fa) ⟨[.ref a], []⟩) (fun r s2 => r = .ok (.ret (.bool true)) ∧ OldK s.heap s2.heap ∧ s2.os = s.os ∧ AllBare s2.gens) s := by
  have rel := vals_ints nums
  have isTab : ∀ c ∈ cs.map (·.2), s.heap.get? c = some tabNil := fun c hc => by
    obtain ⟨p, hp, rfl⟩ := List.mem_map.mp hc
    exact (tabs p hp).2.1
  have na : a ∉ cs.map (·.2) := fun z => by
    have q := isTab a z
    rw [at_a] at q
    cases q
  have mem : ∀ p ∈ cs, p.2 ∈ cs.map (·.2) := fun p hp => List.mem_map.mpr ⟨p, hp, rfl⟩
  obtain ⟨so, ses, sn, sg, sd⟩ := id sys
  have ns1 : sysModules ∉ cs.map (·.2) := fun z => by
    have q := isTab _ z
    rw [sg] at q
    cases q
    cases sd
  have ns2 : a ≠ sysModules := fun z => by
    rw [z, sg] at at_a
    cases at_a
    cases sd
  let T : Hp := upd (fun c => if c ∈ cs.map (·.2) then some (.tbl #[]) else none) sysModules (.frz so (.ext fun h => ∃ o, h.get? sysModules = some o))
  have tS : T sysModules = some (.frz so (.ext fun h => ∃ o, h.get? sysModules = some o)) := upd_same
  have tIn : ∀ {c}, c ∈ cs.map (·.2) → T c = some (.tbl #[]) := fun {c} hc => by
    show upd _ _ _ c = _
    rw [upd_ne fun z => ns1 (by rw [← z]; exact hc)]
    exact if_pos hc
  have tOut : ∀ {c}, c ∉ cs.map (·.2) → c ≠ sysModules → T c = none := fun {c} hc hn => by
    show upd _ _ _ c = _
    rw [upd_ne hn]
    exact if_neg hc
  have tKind : ∀ c, T c = none ∨ c ∈ cs.map (·.2) ∨ ∃ o u, T c = some (.frz o u) := fun c => by
    by_cases hc : c ∈ cs.map (·.2)
    · exact .inr (.inl hc)
    · by_cases hs : c = sysModules
      · exact .inr (.inr ⟨_, _, by rw [hs]; exact tS⟩)
      · exact .inl (tOut hc hs)
  have tOk : ∀ (H : Hp) c u, T c = some u → ObjOk P w H s.heap c u := fun H c u z => by
    by_cases hc : c ∈ cs.map (·.2)
    · rw [tIn hc] at z
      cases z
      exact isTab c hc
    · by_cases hs : c = sysModules
      · subst hs
        rw [tS] at z
        cases z
        exact ⟨sg, ⟨so, sg⟩, ⟨so, sg⟩, fun h1 h2 ⟨o, e⟩ k => ⟨o, k o e⟩⟩
      · rw [tOut hc hs] at z
        cases z
  have tOne : ∀ c, T c ≠ none → c ∈ cs.map (·.2) ∨ c = sysModules := fun c z => by
    by_cases hc : c ∈ cs.map (·.2)
    · exact .inl hc
    · by_cases hs : c = sysModules
      · exact .inr hs
      · exact absurd (tOut hc hs) z
  cases hk : K.lookup a with
  | some o =>
    have e := inK a o hk
    rw [at_a] at e
    cases e
    have hS : SqL K T a (ns.map V.int) := .inr ⟨_, us.toArray, _, hk, rfl, rfl, rfl, by rw [List.size_toArray, nums.length]; exact small, rel⟩
    exact quiet_endT (H := T) inK nsG nsB bb nl ng at_a room tabs bm F bind (want T (fun p hp => tIn (mem p hp)) ⟨_, _, tS⟩ hS) sys noSys (fun p hp => tIn (mem p hp)) tKind (fun c u z => tOk T c u z) fun c z => .inr (tOne c z)
  | none =>
    have hS : SqL K (upd T a (.frz { cls := .type "list", data := .seq us.toArray } (.lst (ns.map V.int)))) a (ns.map V.int) := .inl (.inr ⟨_, upd_same⟩)
    have up : ∀ p ∈ cs, upd T a (.frz { cls := .type "list", data := .seq us.toArray } (.lst (ns.map V.int))) p.2 = some (.tbl #[]) := fun p hp => by
      rw [upd_ne fun z => na (by rw [← z]; exact mem p hp)]
      exact tIn (mem p hp)
    refine quiet_endT (H := upd T a (.frz { cls := .type "list", data := .seq us.toArray } (.lst (ns.map V.int)))) inK nsG nsB bb nl ng at_a room tabs bm F bind (want _ up ⟨_, _, by rw [upd_ne ns2.symm]; exact tS⟩ hS) sys noSys up (fun c => ?_) (fun c u z => ?_) fun c z => ?_
    · by_cases hc : c = a
      · exact .inr (.inr ⟨_, _, by rw [hc]; exact upd_same⟩)
      · rw [upd_ne hc]
        exact tKind c
    · by_cases hc : c = a
      · subst hc
        rw [upd_same] at z
        cases z
        exact ⟨at_a, by rw [List.length_map]; exact small, us, _, rel, at_a⟩
      · rw [upd_ne hc] at z
        exact tOk _ c u z
    · by_cases hc : c = a
      · exact .inl ⟨hc, hk⟩
      · rw [upd_ne hc] at z
        exact .inr (tOne c z)
theorem sys_there {h : Heap} (n : h.NoSeer) : ∃ o es ep, h.get? sysModules = some o ∧ o.data = .dict es ep := by
  obtain ⟨mm, ⟨o, es, ep, e, d, _⟩, _⟩ := n.mods
  exact ⟨o, es, ep, e, d⟩
/-- what the head tells of the tables of the defs of q -/
def TabsOf (q : Program) (K : PySem.W.Frag) (h : Heap) : Prop := ∀ (x : Str) (d : DefRec) (c P : Addr), (recsOf q).find? (fun e => e.name == x) = some d → PySem.W.tabIn K x = some (c, P) → PySem.W.CodeHd h c P ∧ h.get? P = some tabNil
theorem walkGT {l : PySem.W.OpenLaw} {n k : Nat} {q : Program} {loose : List Str} {XP : (Str → Option Value) → Heap → Prop} {YP : World → Heap → Prop} {d : DefRec} {K : Params → PySem.W.Frag} {x : Str} (most : l.most = some n) (small : n ≤ sizeLine) (plain : d.params.defaults = []) (room : Room k callerA) (alone : importsNone q = true) (noSys : ∀ w : World, (K w.params).lookup sysModules = none)
    (left : ∀ (w : World) (h : Heap), YP w h → (K w.params).In h)
    (F : ∀ (w : World) (mg : Str → Option Value) (fa : Addr) (h : Heap), (K w.params).In h → h.Ns mainGlobals mg → TabsOf q (K w.params) h → mg d.name = some (.ref fa) → ∃ (fd : FuncData) (cs : List (Addr × Addr)) (sp : Sp), (∀ p ∈ cs, PySem.W.CodeHd h p.1 p.2 ∧ h.get? p.2 = some tabNil ∧ (K w.params).lookup p.2 = none) ∧ (∀ (s : Shared) (u : Value), BindsTo s fd ⟨[u], []⟩ [(x, u)]) ∧
      (∀ (H : Hp) (a : Addr) (ns : List Int), ns.length ≤ n → (∀ p ∈ cs, H p.2 = some (.tbl #[])) → Sys H → SqL (K w.params) H a (ns.map V.int) → sp [.ref a] H (fun v _ => v = .bl true) fun _ _ _ => False) ∧
      ∀ base : Heap, (K w.params).In base → base.Ns mainGlobals mg → (∀ p ∈ cs, TabB base mg p.1 p.2) → FnG l.prog w (K w.params) mg base k fa fd [x] sp) :
    PySem.W.WalkO q loose XP YP l.row.toRowW d [] (fun f vs => PySem.call f vs) := by
  refine Att.attach_call most plain fun w s0 s mg mb fa o pm cd doc a us ns G Y ho hd hcd hmg at_a nums le ng => ?_
  have inK := left w _ Y
  obtain ⟨fd, cs, sp, tabs, bind, want, fn⟩ := F w mg fa _ inK G.T.g (fun x d c P h1 h2 => PySem.W.tab_of G.T inK h1 h2) hmg
  exact quiet_callT inK G.T.g G.T.b G.T.builtins G.T.nolimit ng at_a nums (Nat.le_trans le small) room tabs G.T.bmain fn bind (sys_there (G.T.seer alone)) (noSys w) fun H hH hY hS => want H a ns le hH hY hS
end Gu
namespace Gu
open PySem PySem.Spec PyProof.Rows L2
section
variable {P : Program} {w : World} {K : PySem.W.Frag} {mg : Str → Option Value} {base : Heap}
/-! ### _law_draw -/
def spLadle : Sp := fun vs H Q _ => ∃ (p : Addr) (m : Int), vs = [.ref p, .int m] ∧ Pot H p ∧ 0 < m ∧ m < 1000000 ∧ ∀ d G, 0 ≤ d → d < m → Ladled p H G → Q (.int d) G
theorem cal_draw (B : Bi mg) (D : At K mg "_law_draw" s_law_draw ps_law_draw) : Cal P w K mg base 1 "_law_draw" ps_law_draw spLadle := by
  refine D.cal sc_law_draw (fun vs H Q E h => ?_) (fun f cdv A outer s H vs Q E hr h => ?_)
  · obtain ⟨p, m, rfl, _⟩ := h
    rfl
  · obtain ⟨p, m, rfl, ⟨x, y, z, hp⟩, m0, m1, k⟩ := h
    refine ⟨_, (pss_cons (ps_asg (pe_op op_add (pe_ix ix_list (pv 0) pe_int (fun _ _ => rfl)) pe_int) (pg_sub (pv 0) pe_int set_list))
      (pss_cons (ps_if (pt_cmpR op_gt (pe_ix ix_list (pv 0) pe_int (fun _ _ => rfl)) pe_int (nomark _)) (pss_cons (ps_asg (pe_callB call_divmod (by rfl) B.divmod (by decide +kernel) (pa_cons (pe_ix ix_list (pv 0) pe_int (fun _ _ => rfl)) (pa_cons (pv 1) pa_nil))) (pg_tup rfl (pgs_cons (pg_sub (pv 0) pe_int set_list) (pgs_cons (pg_name (i := 2) sc_law_draw.nd rfl (.inl rfl)) pgs_nil))))
      (pss_one (ps_ret (pv 2)))) pss_nil)
      (pss_cons (ps_set (i := 3) sc_law_draw.nd rfl (.inl rfl) (pe_callTy call_int1 (by rfl) B.int (by decide +kernel) (pa_cons (pe_ix ix_list (pv 0) pe_int (fun _ _ => rfl)) pa_nil)))
      (pss_cons (ps_set (i := 4) sc_law_draw.nd rfl (.inl rfl) (pe_op op_add (pe_op op_mod (pe_callTy call_int1 (by rfl) B.int (by decide +kernel) (pa_cons (pv 3) pa_nil)) pe_int) pe_int))
      (pss_cons (ps_asg (pe_op op_mod (pe_callTy call_int1 (by rfl) B.int (by decide +kernel) (pa_cons (pe_op op_add (pe_op op_add (pe_op op_mul (pv 3) (pv 4)) (pe_op op_mul pe_int (pe_ix ix_list (pv 0) pe_int (fun _ _ => rfl)))) pe_int) pa_nil)) pe_int) (pg_sub (pv 0) pe_int set_list))
      (pss_one (ps_ret (pe_op op_mod (pe_op op_fdiv (pe_callTy call_int1 (by rfl) B.int (by decide +kernel) (pa_cons (pe_ix ix_list (pv 0) pe_int (fun _ _ => rfl)) pa_nil)) pe_int) (pv 1))))))))), ?_⟩
    refine ⟨_, rfl, p, _, _, _, rfl, rfl, .inl (.inl hp), (rfl : atI [V.int x, V.int y, V.int z] 2 = some (V.int z)), _, _, rfl, rfl, _, rfl, p, _, _, 2, rfl, rfl, hp, rfl, ?_⟩
    have h1 : upd H p (.lst ([V.int x, V.int y, V.int z].set 2 (.int (z + 1)))) p = some (.lst [.int x, .int y, .int (z + 1)]) := upd_same
    refine ⟨_, rfl, p, _, _, _, rfl, rfl, .inl (.inl h1), (rfl : atI [V.int x, V.int y, V.int (z + 1)] 0 = some (V.int x)), _, _, rfl, rfl, _, rfl, ite2 (fun _ => ?_) (fun _ => ?_)⟩
    · refine ⟨_, rfl, p, _, _, _, rfl, rfl, .inl (.inl h1), (rfl : atI [V.int x, V.int y, V.int (z + 1)] 0 = some (V.int x)), _, rfl, _, _, rfl, ⟨m0, by omega⟩, fun q hq => ?_⟩
      have npq : p ≠ q := ne_of_none h1 hq
      refine ⟨q, _, rfl, .inl (.inl upd_same), rfl, _, _, rfl, ⟨_, rfl, p, _, _, 0, rfl, rfl, (by rw [upd_ne npq]; exact h1), rfl, _, _, rfl, rfl, ?_⟩⟩
      refine ⟨_, rfl, ?_⟩
      refine k (x % m) _ (Int.emod_nonneg _ (by omega)) (Int.emod_lt_of_pos _ m0) ⟨⟨_, _, _, upd_same⟩, fun b o e n => ?_⟩
      have hb : upd H p (.lst ([V.int x, V.int y, V.int z].set 2 (.int (z + 1)))) b = some o := by rw [upd_ne n]; exact e
      rw [upd_ne n, upd_ne (ne_of_none hb hq), upd_ne n]
      exact e
    · have f0 : 0 ≤ y % 9973 := Int.emod_nonneg _ (by decide)
      have f1 : y % 9973 < 9973 := Int.emod_lt_of_pos _ (by decide)
      refine ⟨_, rfl, p, _, _, _, rfl, rfl, .inl (.inl h1), (rfl : atI [V.int x, V.int y, V.int (z + 1)] 1 = some (V.int y)), .inl ⟨_, rfl, ?_⟩⟩
      refine ⟨_, rfl, .inl ⟨_, rfl, _, _, rfl, rfl, (by decide : (0 : Int) < 9973), _, _, rfl, rfl, ?_⟩⟩
      refine ⟨_, rfl, _, rfl, _, _, rfl, rfl, .inr ⟨by omega, by omega⟩, _, rfl, p, _, _, _, rfl, rfl, .inl (.inl h1), (rfl : atI [V.int x, V.int y, V.int (z + 1)] 2 = some (V.int (z + 1))), _, _, rfl, rfl, .inl ⟨by decide, by decide⟩, _, _, rfl, rfl, _, _, rfl, rfl, .inl ⟨_, rfl, _, _, rfl, rfl, (by decide : (0 : Int) < 2147483587), ?_⟩⟩
      refine ⟨_, rfl, p, _, _, 1, rfl, rfl, h1, rfl, ?_⟩
      refine ⟨_, rfl, p, _, _, _, rfl, rfl, .inl (.inl upd_same), rfl, .inl ⟨_, rfl, _, _, rfl, rfl, ⟨by decide, by decide⟩, _, rfl, _, _, rfl, rfl, m0, ?_⟩⟩
      refine k _ _ (Int.emod_nonneg _ (by omega)) (Int.emod_lt_of_pos _ m0) ⟨⟨_, _, _, upd_same⟩, fun b o e n => ?_⟩
      rw [upd_ne n, upd_ne n]
      exact e
/-! ### _law_one: of a list -/
def spOneOf (K : PySem.W.Frag) : Sp := fun vs H Q _ => ∃ (p : Addr), Pot H p ∧
  (∃ (l : Addr) (xs : List V), vs = [.ref p, .ref l] ∧ SqL K H l xs ∧ l ≠ p ∧ 0 < xs.length ∧ xs.length < 1000 ∧ ∀ v G, v ∈ xs → Ladled p H G → Q v G)
theorem Ladled.seq {K : PySem.W.Frag} {H G : Hp} {p l : Addr} {xs : List V} (a : Ladled p H G) (n : l ≠ p) (h : SqL K H l xs) : SqL K G l xs := by
  rcases h with (h | ⟨o, h⟩) | h
  · exact .inl (.inl (a.keep _ _ h n))
  · exact .inl (.inr ⟨o, a.keep _ _ h n⟩)
  · exact .inr h
theorem at_in {α : Type} {xs : List α} {d : Int} (h0 : 0 ≤ d) (h1 : d < (xs.length : Int)) : ∃ v, v ∈ xs ∧ atI xs d = some v := by
  obtain ⟨j, rfl⟩ := Int.eq_ofNat_of_zero_le h0
  have hj : j < xs.length := by omega
  exact ⟨xs[j], List.getElem_mem hj, atI_nat (List.getElem?_eq_getElem hj)⟩
theorem cal_one (B : Bi mg) (D : At K mg "_law_one" s_law_one ps_law_one) (C_law_draw : Cal P w K mg base 1 "_law_draw" ps_law_draw spLadle) : Cal P w K mg base 2 "_law_one" ps_law_one (spOneOf K) := by
  refine D.cal sc_law_one (fun vs H Q E h => ?_) (fun f cdv A outer s H vs Q E hr h => ?_)
  · obtain ⟨p, _, l, xs, rfl, _⟩ := h
    rfl
  · refine ⟨_, (pss_one (ps_ret (pe_ix ix_list (pv 1) (pe_own C_law_draw hr (by decide) (by rfl) (pa_cons (pv 0) (pa_cons (pe_callB call_len (by rfl) B.len (by decide +kernel) (pa_cons (pv 1) pa_nil)) pa_nil))) (fun _ _ => rfl)))), ?_⟩
    obtain ⟨p, hp, l, xs, rfl, hl, np, l0, l1, k⟩ := h
    refine ⟨_, rfl, _, rfl, _, rfl, _, _, rfl, .inl ⟨_, hl, rfl⟩, p, _, rfl, hp, by omega, by omega, fun d G d0 d1 L => ?_⟩
    obtain ⟨v, hv, ha⟩ := at_in (xs := xs) d0 d1
    exact ⟨l, xs, d, v, rfl, rfl, L.seq np hl, ha, k v G hv L⟩
/-! ### _law_source -/
theorem sq_same {K : PySem.W.Frag} {H G : Hp} {l : Addr} {xs : List V} (a : Same H G) (h : SqL K H l xs) : SqL K G l xs := by
  rcases h with (h | ⟨o, h⟩) | h
  · exact .inl (.inl (a _ _ h))
  · exact .inl (.inr ⟨o, a _ _ h⟩)
  · exact .inr h
def spPot (K : PySem.W.Frag) : Sp := fun vs H Q _ => ∃ (a : Addr) (k : Nat) (ns : List Int), vs = [.ref a, .int (k : Int)] ∧ SqL K H a (ns.map V.int) ∧ k < 1000 ∧ ∀ p G, H p = none → Pot G p → Same H G → Q (.ref p) G
theorem cal_source (B : Bi mg) (D : At K mg "_law_source" s_law_source ps_law_source) : Cal P w K mg base 1 "_law_source" ps_law_source (spPot K) := by
  refine D.cal sc_law_source (fun vs H Q E h => ?_) (fun f cdv A outer s H vs Q E hr h => ?_)
  · obtain ⟨a, k, ns, rfl, _⟩ := h
    rfl
  · obtain ⟨a, k, ns, rfl, hS, hk, q⟩ := h
    refine ⟨_, (pss_cons (ps_set (i := 2) sc_law_source.nd rfl (.inl rfl) (pe_op op_add pe_int (pe_op op_mul pe_int (pv 1))))
      (pss_cons (ps_for PassesOwn.never rfl (pi_list (pe_slice sl_list (pv 0) po_none (po_some pe_int))) (pg_name (i := 3) sc_law_source.nd rfl (.inl rfl))
      (pss_one (ps_set (i := 2) sc_law_source.nd rfl (.inl rfl) (pe_op op_mod (pe_callTy call_int1 (by rfl) B.int (by decide +kernel) (pa_cons (pe_op op_add (pe_op op_mul (pv 2) pe_int) (pv 3)) pa_nil)) pe_int))))
      (pss_cons (ps_set (i := 4) sc_law_source.nd rfl (.inl rfl) (pe_mid (pe_ifExp (pt_cmpR op_lt (pv 1) (pe_callB call_len_seq (by rfl) B.len (by decide +kernel) (pa_cons (pv 0) pa_nil)) (nomark _)) (pe_ix ix_list (pv 0) (pv 1) (fun _ _ => rfl)) (pv 2))))
      (pss_cons (ps_set (i := 2) sc_law_source.nd rfl (.inl rfl) (pe_op op_mod (pe_callTy call_int1 (by rfl) B.int (by decide +kernel) (pa_cons (pe_op op_add (pe_op op_mul (pv 2) pe_int) (pv 4)) pa_nil)) pe_int))
      (pss_one (ps_ret (pe_lst (pa_cons (pe_mid (pe_ifExp (pt_cmpR op_ge (pe_callB call_abs (by rfl) B.abs (by decide +kernel) (pa_cons (pv 4) pa_nil)) (pe_op op_pow pe_int pe_int) (nomark _)) (pe_callB call_abs (by rfl) B.abs (by decide +kernel) (pa_cons (pv 4) pa_nil)) pe_int)) (pa_cons (pv 2) (pa_cons pe_int pa_nil)))))))))), ?_⟩
    refine ⟨_, rfl, _, _, rfl, rfl, .inl ⟨by decide, by decide⟩, _, _, rfl, rfl, ?_⟩
    refine ⟨_, rfl, 6, rfl, a, _, rfl, hS, fun c nc => ?_⟩
    have sc : Same H (upd H c (.lst (cutV (ns.map V.int) none (some 6)))) := same_new nc
    have hC : cutV (ns.map V.int) none (some 6) = (ns.take 6).map V.int := by
      unfold cutV
      rw [HT.sIx_none, show HT.sIx (ns.map V.int).length (ns.map V.int).length (some 6) = min 6 (ns.map V.int).length from HT.sIx_nat _ _ 6, List.drop_zero, Nat.sub_zero, List.map_take, List.take_eq_take_iff]
      omega
    refine ⟨c, rfl, ⟨_, .inl (.inl upd_same)⟩, for_list (K := K) (a := c) (xs := (ns.take 6).map V.int) (fun i σ J => ∃ (mx : Int) (u : Option V), σ = [some (.ref a), some (.int (k : Int)), some (.int mx), u, none] ∧ Same H J ∧ J c = some (.lst ((ns.take 6).map V.int)))
      ⟨_, none, rfl, sc, by rw [upd_same, hC]⟩ (fun i σ J _ ⟨_, _, _, _, e⟩ => .inl (.inl e)) ?_ ?_⟩
    · rintro i v σ J hi ⟨mx, u, rfl, sJ, eJ⟩
      obtain ⟨t, rfl⟩ : ∃ t, v = V.int t := by
        rw [List.getElem?_map] at hi
        cases e : (ns.take 6)[i]? with
        | none =>
          rw [e] at hi
          cases hi
        | some t =>
          rw [e] at hi
          exact ⟨t, (Option.some.inj hi).symm⟩
      refine ⟨_, rfl, _, _, rfl, rfl, .inr ⟨by decide, by decide⟩, _, rfl, _, _, rfl, rfl, .inl ⟨_, rfl, _, _, rfl, rfl, (by decide : (0 : Int) < 2147483629), ?_⟩⟩
      exact ⟨_, _, rfl, sJ, eJ⟩
    · rintro σ J ⟨mx, u, rfl, sJ, eJ⟩
      refine ⟨fun v J1 => (∃ i : Int, v = .int i) ∧ J1 = J, ?_, ?_⟩
      · refine ⟨_, rfl, _, rfl, a, _, rfl, .inl (sq_same sJ hS), _, _, rfl, rfl, _, rfl, ite2 (fun e => ?_) (fun _ => ?_)⟩
        · have hlt := of_decide_eq_true e
          have hj : k < ns.length := by
            rw [List.length_map] at hlt
            omega
          refine ⟨_, rfl, _, rfl, a, _, _, _, rfl, rfl, sq_same sJ hS, atI_nat (j := k) (v := .int ns[k]) (by rw [List.getElem?_map, List.getElem?_eq_getElem hj]; rfl), ⟨_, rfl⟩, rfl⟩
        · exact ⟨_, rfl, ⟨_, rfl⟩, rfl⟩
      · rintro _ _ ⟨⟨own, rfl⟩, rfl⟩
        refine ⟨_, rfl, _, _, rfl, rfl, .inr ⟨by decide, by decide⟩, _, rfl, _, _, rfl, rfl, .inl ⟨_, rfl, _, _, rfl, rfl, (by decide : (0 : Int) < 2147483629), ?_⟩⟩
        refine ⟨fun v J1 => (∃ i : Int, v = .int i) ∧ Same H J1, ?_, ?_⟩
        · refine ⟨_, rfl, _, rfl, _, _, rfl, rfl, ⟨by decide, by decide, by decide⟩, _, _, rfl, rfl, _, rfl, ite2 (fun _ => ⟨_, rfl, _, rfl, ⟨_, rfl⟩, sJ⟩) (fun _ => ⟨⟨_, rfl⟩, sJ⟩)⟩
        · rintro _ J1 ⟨⟨x, rfl⟩, s1⟩
          exact ⟨_, rfl, by show 3 ≤ sizeLine; decide, fun p np => q p _ (s1.free np) ⟨_, _, _, upd_same⟩ (s1.trans (same_new np))⟩
end
end Gu
namespace Gu
open PySem PySem.Spec PyProof.Rows L2 LamX
/-! ### heaps with tables -/
/-- all but tables stands -/
def SameN (H G : Hp) : Prop := ∀ c o, H c = some o → (∀ ps, o ≠ .tbl ps) → G c = some o
theorem SameN.refl (H : Hp) : SameN H H := fun _ _ e _ => e
theorem SameN.trans {H G J : Hp} (a : SameN H G) (b : SameN G J) : SameN H J := fun c o e n => b c o (a c o e n) n
theorem Same.n {H G : Hp} (a : Same H G) : SameN H G := fun c o e _ => a c o e
theorem SameN.lst {H G : Hp} (s : SameN H G) {a : Addr} {xs : List V} (h : H a = some (.lst xs)) : G a = some (.lst xs) := s _ _ h fun _ z => by cases z
theorem SameN.tup {H G : Hp} (s : SameN H G) {a : Addr} {xs : List V} (h : H a = some (.tup xs)) : G a = some (.tup xs) := s _ _ h fun _ z => by cases z
theorem SameN.xd {H G : Hp} (s : SameN H G) {a : Addr} {xs : List (Str × V)} (h : H a = some (.xd xs)) : G a = some (.xd xs) := s _ _ h fun _ z => by cases z
theorem SameN.ins {H G : Hp} (s : SameN H G) {a C dx : Addr} {fs : List (Str × V)} (h : H a = some (.ins C dx fs)) : G a = some (.ins C dx fs) := s _ _ h fun _ z => by cases z
theorem SameN.sys {H G : Hp} (s : SameN H G) (h : Sys H) : Sys G := by
  obtain ⟨o, u, e⟩ := h
  exact ⟨o, u, s _ _ e fun _ z => by cases z⟩
theorem SameN.sqT {K : PySem.W.Frag} {H G : Hp} {a : Addr} {xs : List V} (s : SameN H G) (h : SqT K H a xs) : SqT K G a xs := by
  rcases h with (h | ⟨o, h⟩) | h
  · exact .inl (.inl (s.tup h))
  · exact .inl (.inr ⟨o, s _ _ h fun _ z => by cases z⟩)
  · exact .inr h
theorem SameN.sqL {K : PySem.W.Frag} {H G : Hp} {a : Addr} {xs : List V} (s : SameN H G) (h : SqL K H a xs) : SqL K G a xs := by
  rcases h with (h | ⟨o, h⟩) | h
  · exact .inl (.inl (s.lst h))
  · exact .inl (.inr ⟨o, s _ _ h fun _ z => by cases z⟩)
  · exact .inr h
mutual
theorem DpE.sameN {K : PySem.W.Frag} {H G : Hp} (s : SameN H G) : ∀ {v : V} {d : PyData}, DpE K H v d → DpE K G v d
  | _, _, .non => .non
  | _, _, .bl b => .bl b
  | _, _, .int i => .int i
  | _, _, .str x => .str x
  | _, _, .lst h a => .lst (s.lst h) (DpEs.sameN s a)
  | _, _, .tup h a => .tup (s.sqT h) (DpEs.sameN s a)
  | _, _, .dict h => .dict (s _ _ h fun _ z => by cases z)
theorem DpEs.sameN {K : PySem.W.Frag} {H G : Hp} (s : SameN H G) : ∀ {vs : List V} {ds : List PyData}, DpEs K H vs ds → DpEs K G vs ds
  | _, _, .nil => .nil
  | _, _, .cons a b => .cons (DpE.sameN s a) (DpEs.sameN s b)
end
/-- from H to G the pot at p may have changed and tables may have grown, the rest stands -/
structure LadT (T : List (Addr × Str)) (p : Addr) (H G : Hp) : Prop where
  pot : Pot G p
  keep : ∀ c o, H c = some o → c ≠ p → (∀ ps, o ≠ .tbl ps) → G c = some o
  tabs : Tabs T G
  sys : Sys G
/-! ### defs that make lambdas -/
structure AtC (K : PySem.W.Frag) (mg : Str → Option Value) (x : Str) (st : Stmt) (ps : List Str) (c : Addr) : Prop where
  ex : ∃ (f : Addr) (fd : FuncData), Fun K x x st f fd ∧ Binds K fd ps [] ∧ mg x = some (.ref f) ∧ fd.code = .ref c
section
variable {P : Program} {w : World} {K : PySem.W.Frag} {mg : Str → Option Value} {base : Heap}
theorem okGT {x qual : Str} {st : Stmt} {f c : Addr} {fd : FuncData} {N ps : List Str} {k : Nat} {sp : Sp} (F : Fun K x qual st f fd) (hc : fd.code = .ref c) (S : FnScope N ps (defScope st)) (len : ∀ vs H Q E, sp vs H Q E → vs.length = ps.length)
    (body : ∀ (A : Around) (outer : List Env) (s : Shared) (H : Hp) (vs : List V) (Q : VK) (E : XK), Room k (A.deeper (envOfC qual (defScope st) s.heap.objs.size f (.ref c))) → A.guards = some [] → sp vs H Q E →
      ∃ t, PSs (cxOf CX0 P w K mg base N qual (defScope st) f (.ref c) A outer s H E).nox (defBody st) t ∧ t { nx := fun _ G => Q .non G, rt := Q } (start N vs) H) : FnG P w K mg base (k + 1) f fd ps sp := by
  obtain ⟨oc, od, kV, doc, pm, an, cdv, ct, osl, rfl, lk, hcd⟩ := F.ex
  obtain rfl : cdv = .ref c := hc
  refine ⟨len, fun A outer s H args us vs Q E room quiet env binds rel want => ?_⟩
  have stays : ∀ b o, base.get? b = some o → s.heap.get? b = some o := fun b o e => (env.bs b o e).1
  have inK : K.In s.heap := env.mod.kin.keeps stays
  have free : s.heap.NoLimit := env.mod.nolimit.keeps stays
  refine codeAny_call_function room.depth (inK _ _ lk) rfl S.co S.gen rfl (PySem.W.codeRec_of inK hcd) (binds _ _ _ _ ?_)
  refine wpAny_newFunctionEnv_cells S.kind (fun ⟨n, v⟩ hy => (S.par n (List.of_mem_zip hy).1).imp id fun q => ⟨q, PySem.W.cellsFrom_some _ _ _ (.inl q)⟩) fun env1 e1 s1 c1 => ?_
  subst e1
  refine ⟨free.keeps c1.toInCall.keep, codeAny_func ?_⟩
  obtain ⟨t, d, q⟩ := body A outer s H vs Q E (room.deeper _) quiet want
  refine wpAny_mono (d.nox.run [] s1 (start N vs) H _ (inv_start S room.hd env (len _ _ _ _ want) rel c1) q) (fun fl s2 h2 => ?_) fun e s2 h2 => h2
  cases fl with
  | ret u =>
    obtain ⟨v, σ2, G, J, rv, r⟩ := h2
    exact ⟨v, G, J.os, J.bare, J.base, J.hok, rv, r⟩
  | next =>
    obtain ⟨σ2, G, J, r⟩ := h2
    exact ⟨V.non, G, J.os, J.bare, J.base, J.hok, rfl, r⟩
  | brk => exact (h2.choose_spec.choose_spec.2 : False).elim
  | cont => exact (h2.choose_spec.choose_spec.2 : False).elim
theorem AtC.calG {x : Str} {st : Stmt} {N ps : List Str} {k : Nat} {sp : Sp} {c : Addr} (D : AtC K mg x st ps c) (S : FnScope N ps (defScope st)) (len : ∀ vs H Q E, sp vs H Q E → vs.length = ps.length)
    (body : ∀ (f : Addr) (A : Around) (outer : List Env) (s : Shared) (H : Hp) (vs : List V) (Q : VK) (E : XK), Room k (A.deeper (envOfC x (defScope st) s.heap.objs.size f (.ref c))) → A.guards = some [] → sp vs H Q E →
      ∃ t, PSs (cxOf CX0 P w K mg base N x (defScope st) f (.ref c) A outer s H E).nox (defBody st) t ∧ t { nx := fun _ G => Q .non G, rt := Q } (start N vs) H) : CalG P w K mg base (k + 1) x ps sp := by
  obtain ⟨f, fd, F, b, g, hc⟩ := D.ex
  exact ⟨f, fd, okGT F hc S len (body f), g, F.kp, b⟩
/-! ### defs that may raise -/
structure CalX (P : Program) (w : World) (K : PySem.W.Frag) (mg : Str → Option Value) (base : Heap) (k : Nat) (x : Str) (ps : List Str) (sp : Sp) : Prop where
  ex : ∃ (f : Addr) (fd : FuncData), FnOk P w K mg base (L2.CX P w) k f fd ps sp ∧ mg x = some (.ref f) ∧ PySem.W.keepIn K (.ref f) = true ∧ Binds K fd ps [] ∧ ∃ oc od sl, K.lookup f = some ⟨oc, od, .func fd, sl⟩
theorem At.calX {x : Str} {st : Stmt} {N ps : List Str} {k : Nat} {sp : Sp} (D : At K mg x st ps) (S : FnScope N ps (defScope st)) (len : ∀ vs H Q E, sp vs H Q E → vs.length = ps.length)
    (body : ∀ (f : Addr) (cdv : Value) (A : Around) (outer : List Env) (s : Shared) (H : Hp) (vs : List V) (Q : VK) (E : XK), Room k (A.deeper (envOfC x (defScope st) s.heap.objs.size f cdv)) → sp vs H Q E →
      ∃ t, PSs (cxOf (L2.CX P w) P w K mg base N x (defScope st) f cdv A outer s H E) (defBody st) t ∧ t { nx := fun _ G => Q .non G, rt := Q } (start N vs) H) : CalX P w K mg base (k + 1) x ps sp := by
  obtain ⟨f, fd, F, b, g⟩ := D.ex
  obtain ⟨oc, od, kV, doc, pm, an, cdv, ct, osl, e, lk, hcd⟩ := F.ex
  exact ⟨f, fd, F.okX S len (body f), g, F.kp, b, oc, od, osl, lk⟩
structure MakX (P : Program) (w : World) (K : PySem.W.Frag) (mg : Str → Option Value) (base : Heap) (k : Nat) (x : Str) (C : Addr) (sp : Sp) : Prop where
  ex : ∃ (f : Addr) (fd : FuncData) (ps : List Str), Mk K C f ∧ FnOk P w K mg base (L2.CX P w) k f fd ps sp ∧ mg x = some (.ref C) ∧ Binds K fd ps []
end
section
variable {X : Cx} {k j : Nat} {x : Str} {ps : List Str} {sp : Sp} {p pos : Pos} {e : Expr} {es : List Expr} {t : TA} {E : XK} {W : WX} {C : Addr}
theorem pe_ownX (c : CalX X.prog X.w X.K X.mg X.base k x ps sp) (hr : Room j X.A) (hk : k ≤ j) (tk : Takes X W) (hW : ∀ cls d σ H, E cls d H → W cls d σ H) (hg : Gl X x) (ha : PA X (e :: es) t)
    (hdb : (x == ("__debug__" : Str)) = false := by decide) (he : starEach (e :: es) X.env = (false, eval e X.env) :: starEach es X.env := by rfl) (hpl : (backTo pos (starEach es X.env)).any (·.1) = false := by rfl) :
    PE X (.Call (.Name x p) (e :: es) [] pos) (tCall sp [] E t) := by
  obtain ⟨f, fd, F, hm, kp, b, _⟩ := c.ex
  exact pe_call F (hr.mono hk) hg hm kp b .nil (passes_call tk hW) ha hdb he hpl
theorem pe_newX (c : MakX X.prog X.w X.K X.mg X.base k x C sp) (hr : Room j X.A) (hk : k + 1 ≤ j) (tk : Takes X W) (hW : ∀ cls d σ H, E cls d H → W cls d σ H) (hg : Gl X x) (ha : PA X (e :: es) t)
    (hdb : (x == ("__debug__" : Str)) = false := by decide) (he : starEach (e :: es) X.env = (false, eval e X.env) :: starEach es X.env := by rfl) (hpl : (backTo pos (starEach es X.env)).any (·.1) = false := by rfl) :
    PE X (.Call (.Name x p) (e :: es) [] pos) (tMake C sp [] E t) := by
  obtain ⟨f, fd, ps, M, F, hm, b⟩ := c.ex
  exact pe_make M F (hr.mono hk) hg hm b .nil (passes_call tk hW) ha hdb he hpl
end
/-! ### x(lambda: body) -/
section
variable {X : Cx}
theorem pe_lamE {T : List (Addr × Str)} {TT : (XK → Hp → VK → Prop) → Hp → VK → Prop} {x a : Str} {c P : Addr} {k j : Nat} {st : Stmt} {Ng : List Str} {params : Arguments} {body : Expr} {scope : Scope} {t : XK → TE} {p lpos pos : Pos} (D : At X.K X.mg x st [a]) (S : FnScope Ng [a] (defScope st))
    (hG : ∀ (g : Addr) (cdv : Value), GivesTo X Ng x (defScope st) g cdv (defBody st) a (X.env.qual ++ "<lambda>") TT) (TB : TabB X.base X.mg c P) (hr : Room j X.A) (hk : k + 2 ≤ j) (hg : Gl X x) (hNg : Ng[0]? = some a) (hva : Vis (defScope st) a) (hcode : X.env.code = .ref c) (hmT : (P, X.env.qual ++ "<lambda>") ∈ T) (hu : ∀ p ∈ T, p.1 = P → p.2 = X.env.qual ++ "<lambda>") (L : LamS X.env.scope scope) (hdef : defaultsOf params X.env = ([], []))
    (hbind : ∀ (q : Str) (cl : List (Str × Addr)) (pm cv ctv : Value), bindArgs (PySem.W.kla_fn "<lambda>" q params body scope cl pm cv ctv) ⟨[], []⟩ = pure [])
    (hbody : ∀ (A : Around) (outer : List Env) (s : Shared) (H : Hp) (E : XK) (f c' : Addr), Room k (A.deeper (lamEnv X scope s.heap.objs.size f c')) → PE (lamCx X A outer s H E scope f c') body (t E))
    (hdb : (x == ("__debug__" : Str)) = false := by decide) (hd : (a == ("__debug__" : Str)) = false := by decide) (hcd : (a == ("__classdict__" : Str)) = false := by decide) :
    PE X (.Call (.Name x p) [.Lambda params body scope lpos] [] pos) (tLam T TT t) := by
  obtain ⟨g, fd, F, b, hm⟩ := D.ex
  obtain ⟨oc, od, kV, doc, pm, an, cdv, ct, osl, rfl, lk, hcg⟩ := F.ex
  exact pe_lamcall (k := k) hg hm F.kp lk hcg b S hNg hva (hG g cdv) TB hcode hmT hu (hr.mono hk) L hdef hbind hbody hdb hd hcd
end
end Gu
namespace Gu
open PySem PySem.Spec PyProof.Rows L2
/-! ### all the errors of the program -/
def bLE : BaseE := ⟨"LookupError", "LookupError.__new__", "LookupError.__init__", [.type "LookupError", .type "Exception", .type "BaseException", .type "object"]⟩
def bAE : BaseE := ⟨"ArithmeticError", "ArithmeticError.__new__", "ArithmeticError.__init__", [.type "ArithmeticError", .type "Exception", .type "BaseException", .type "object"]⟩
theorem bLE_ok : bLE.ok := ⟨F.excBase_LookupError, F.store_LookupError, fun D => rfl⟩
theorem bAE_ok : bAE.ok := ⟨F.excBase_ArithmeticError, F.store_ArithmeticError, fun D => rfl⟩
def eNm : Nat → Str
  | 0 => "InvalidNumber" | 1 => "InvalidMark" | 2 => "InvalidText" | 3 => "InvalidLength" | 4 => "InvalidRule" | 5 => "InvalidWidth" | 6 => "InvalidPlace" | 7 => "InvalidLine" | 8 => "NotANamer"
  | 9 => "NotAShelf" | 10 => "InvalidRow" | 11 => "InvalidViews" | 12 => "InvalidTexts" | 13 => "InvalidDeeds" | 14 => "NothingToUndo" | 15 => "Busy" | 16 => "UnknownName" | _ => "TooMany"
def eUp : Nat → Nat := fun i => if i < 14 then 0 else if i < 17 then 1 else 2
def uNm : Nat → Str
  | 0 => "InputError" | 1 => "StateError" | _ => "SizeError"
def uB : Nat → BaseE
  | 0 => bVE | 1 => bLE | _ => bAE
def uPy : Nat → String
  | 0 => "ValueError" | 1 => "LookupError" | _ => "ArithmeticError"
structure ErrAll (K : PySem.W.Frag) (mg : Str → Option Value) (c u : Nat → Addr) : Prop where
  up : ∀ i, i < 3 → UpK K mg (uB i) (uNm i) (u i)
  er : ∀ i, i < 18 → ErrK K mg (uB (eUp i)) (u (eUp i)) (eNm i) (c i)
theorem eUp_lt (i : Nat) : eUp i < 3 := by
  unfold eUp
  split
  · decide
  · split <;> decide
theorem eNm_inj : ∀ i ∈ List.range 18, ∀ j ∈ List.range 18, decide (eNm j = eNm i) = decide (i = j) := by decide +kernel
theorem uNm_ne : ∀ i ∈ List.range 3, ∀ j ∈ List.range 18, uNm i ≠ eNm j := by decide +kernel
theorem uNm_inj : ∀ i ∈ List.range 3, ∀ j ∈ List.range 3, uNm i = uNm j → i = j := by decide +kernel
theorem uB_ty : ∀ i ∈ List.range 3, ∀ j ∈ List.range 3, (uB j).tl.contains (.type (uPy i)) = decide (j = i) := by decide +kernel
theorem uPy_meta : ∀ i ∈ List.range 3, PySem.W.kitMeta (uPy i) = true := by decide +kernel
section
variable {K : PySem.W.Frag} {mg : Str → Option Value} {c u : Nat → Addr} {i j : Nat}
/-- isinstance of an error of class j, asked of class i -/
theorem ErrAll.kit (A : ErrAll K mg c u) (hi : i < 18) (hj : j < 18) : PySem.W.kitOne K (.ref (c j)) (.ref (c i)) = some (decide (i = j)) := by
  have T := A.er j hj
  have S := A.er i hi
  have ne : u (eUp j) ≠ c i := (A.up _ (eUp_lt j)).ne S (uNm_ne _ (List.mem_range.mpr (eUp_lt j)) _ (List.mem_range.mpr hi))
  have e := T.eqv S ne
  rw [eNm_inj i (List.mem_range.mpr hi) j (List.mem_range.mpr hj)] at e
  refine kit_one (kit_ref S.isC S.ty e) fun z => decide_eq_true ?_
  have z := Value.ref.inj z
  have d := eNm_inj i (List.mem_range.mpr hi) j (List.mem_range.mpr hj)
  obtain ⟨q, M, bs, sn, sub, ab, col, dd, k0, k1, k2, k3, k5, a⟩ := T.cls
  obtain ⟨q2, M2, bs2, sn2, sub2, ab2, col2, dd2, j0, j1, j2, j3, j5, b⟩ := S.cls
  exact of_decide_eq_true (by rw [← d, decide_eq_true (name_at a b z)])
/-- .. of a base of the program's own -/
theorem ErrAll.kitUp (A : ErrAll K mg c u) (hi : i < 3) (hj : j < 18) : PySem.W.kitOne K (.ref (c j)) (.ref (u i)) = some (decide (eUp j = i)) := by
  have T := A.er j hj
  have S := A.up i hi
  have ne : u i ≠ c j := S.ne T (uNm_ne _ (List.mem_range.mpr hi) _ (List.mem_range.mpr hj))
  have e : PySem.W.subIn K (.ref (c j)) (.ref (u i)) = some (decide (eUp j = i)) := by
    rw [T.sub, List.contains_cons, List.contains_cons, T.bok.plain, Bool.or_false, show (Value.ref (u i) == Value.ref (c j)) = false from beq_eq_false_iff_ne.mpr fun z => ne (Value.ref.inj z), Bool.false_or]
    by_cases h : eUp j = i
    · rw [h, beq_self_eq_true, decide_eq_true rfl]
    · rw [decide_eq_false h]
      refine congrArg some (beq_eq_false_iff_ne.mpr fun z => h ?_)
      obtain ⟨q, M, bs, sn, sub, ab, col, dd, k0, k1, k2, k3, k5, a⟩ := (A.up _ (eUp_lt j)).cls
      obtain ⟨q2, M2, bs2, sn2, sub2, ab2, col2, dd2, j0, j1, j2, j3, j5, b⟩ := S.cls
      exact (uNm_inj _ (List.mem_range.mpr hi) _ (List.mem_range.mpr (eUp_lt j)) (name_at b a (Value.ref.inj z))).symm
  exact kit_one (kit_ref S.isC S.ty e) fun z => absurd (Value.ref.inj z).symm ne
/-- .. of one of Python's -/
theorem ErrAll.kitPy (A : ErrAll K mg c u) (hi : i < 3) (hj : j < 18) : PySem.W.kitOne K (.ref (c j)) (.type (uPy i)) = some (decide (eUp j = i)) := by
  have T := A.er j hj
  unfold PySem.W.kitOne
  rw [if_neg (by simp)]
  show (if PySem.W.kitMeta (uPy i) = true then PySem.W.subIn K (.ref (c j)) (.type (uPy i)) else none) = _
  rw [if_pos (uPy_meta i (List.mem_range.mpr hi)), T.subT, uB_ty i (List.mem_range.mpr hi) _ (List.mem_range.mpr (eUp_lt j))]
theorem ErrAll.kitY (A : ErrAll K mg c u) (hj : j < 18) : PySem.W.kitOne K (.ref (c j)) (.ref (c j)) = some true := by rw [A.kit hj hj, decide_eq_true rfl]
theorem ErrAll.kitN (A : ErrAll K mg c u) (hi : i < 18) (hj : j < 18) (h : ¬ i = j) : PySem.W.kitOne K (.ref (c j)) (.ref (c i)) = some false := by rw [A.kit hi hj, decide_eq_false h]
theorem ErrAll.kitUpY (A : ErrAll K mg c u) (hj : j < 18) (hi : i < 3) (h : eUp j = i) : PySem.W.kitOne K (.ref (c j)) (.ref (u i)) = some true := by rw [A.kitUp hi hj, decide_eq_true h]
theorem ErrAll.kitUpN (A : ErrAll K mg c u) (hj : j < 18) (hi : i < 3) (h : ¬ eUp j = i) : PySem.W.kitOne K (.ref (c j)) (.ref (u i)) = some false := by rw [A.kitUp hi hj, decide_eq_false h]
theorem ErrAll.kitPyY (A : ErrAll K mg c u) {s : String} (hj : j < 18) (hi : i < 3) (e : uPy i = s) (h : eUp j = i) : PySem.W.kitOne K (.ref (c j)) (.type s) = some true := by rw [← e, A.kitPy hi hj, decide_eq_true h]
theorem ErrAll.kitPyN (A : ErrAll K mg c u) {s : String} (hj : j < 18) (hi : i < 3) (e : uPy i = s) (h : ¬ eUp j = i) : PySem.W.kitOne K (.ref (c j)) (.type s) = some false := by rw [← e, A.kitPy hi hj, decide_eq_false h]
/-- what an except clause with the three bases asks -/
theorem ErrAll.caught (A : ErrAll K mg c u) (hj : j < 18) : PySem.W.exmAny K (.ref (c j)) [.ref (u 0), .ref (u 1), .ref (u 2)] = some true := by
  have T := A.er j hj
  have one : ∀ i, i < 3 → PySem.W.exmOne K (.ref (c j)) (.ref (u i)) = some (decide (eUp j = i)) := fun i hi => by
    have S := A.up i hi
    have ok : (uB i).ok := by
      rcases (show i = 0 ∨ i = 1 ∨ i = 2 by omega) with rfl | rfl | rfl
      · exact bVE_ok
      · exact bLE_ok
      · exact bAE_ok
    unfold PySem.W.exmOne
    rw [S.exC ok, if_pos (by simp)]
    have k := A.kitUp hi hj
    have ne : u i ≠ c j := S.ne T (uNm_ne _ (List.mem_range.mpr hi) _ (List.mem_range.mpr hj))
    unfold PySem.W.kitOne at k
    rw [if_neg (by simpa using fun z => ne z.symm)] at k
    exact k
  simp only [PySem.W.exmAny, one 0 (by decide), one 1 (by decide), one 2 (by decide)]
  have l := eUp_lt j
  rcases (show eUp j = 0 ∨ eUp j = 1 ∨ eUp j = 2 by omega) with h | h | h <;> simp [h]
end
end Gu
namespace Gu
open PySem PySem.Spec PyProof.Rows L2 LamX
/-! ### a def that is handed the error that is being handled -/
structure FnE (P : Program) (w : World) (K : PySem.W.Frag) (mg : Str → Option Value) (base : Heap) (k : Nat) (f : Addr) (fd : FuncData) (ps : List Str) (sp : Addr × Obj → Sp) : Prop where
  len : ∀ e vs H Q E, sp e vs H Q E → vs.length = ps.length
  run : ∀ (e : Addr × Obj) (A : Around) (outer : List Env) (s : Shared) (H : Hp) (args : Args) (us : List Value) (vs : List V) (Q : VK) (E : XK), L2H.RoomH k A → L2H.PinOk outer H s e → Env0 P w K mg base A outer s H → BindsTo s fd args (ps.zip us) → Vals vs us → sp e vs H Q E →
    codeAny (model P w) A (.call (.ref f) args) (CR CX0 outer P w H s Q E) s
section
variable {P : Program} {w : World} {K : PySem.W.Frag} {mg : Str → Option Value} {base : Heap}
/-- where such a def's body stands -/
abbrev cxE (P : Program) (w : World) (K : PySem.W.Frag) (mg : Str → Option Value) (base : Heap) (N : List Str) (qual : Str) (scope : Scope) (f : Addr) (cd : Value) (A : Around) (outer : List Env) (s : Shared) (H : Hp) (E : XK) (e : Addr × Obj) : Cx := L2H.cxH CX0 P w K mg base N qual scope f cd A outer s H E e
theorem okE {x qual : Str} {st : Stmt} {f : Addr} {fd : FuncData} {N ps : List Str} {k : Nat} {sp : Addr × Obj → Sp} (F : Fun K x qual st f fd) (S : FnScope N ps (defScope st)) (len : ∀ e vs H Q E, sp e vs H Q E → vs.length = ps.length)
    (body : ∀ (e : Addr × Obj) (cdv : Value) (A : Around) (outer : List Env) (s : Shared) (H : Hp) (vs : List V) (Q : VK) (E : XK), L2H.RoomH k (A.deeper (envOfC qual (defScope st) s.heap.objs.size f cdv)) → sp e vs H Q E →
      ∃ t, PSs (cxE P w K mg base N qual (defScope st) f cdv A outer s H E e) (defBody st) t ∧ t { nx := fun _ G => Q .non G, rt := Q } (start N vs) H) : FnE P w K mg base (k + 1) f fd ps sp := by
  obtain ⟨oc, od, kV, doc, pm, an, cdv, ct, osl, rfl, lk, hcd⟩ := F.ex
  refine ⟨len, fun e A outer s H args us vs Q E room pin env binds rel want => ?_⟩
  have stays : ∀ b o, base.get? b = some o → s.heap.get? b = some o := fun b o e => (env.bs b o e).1
  have inK : K.In s.heap := env.mod.kin.keeps stays
  have free : s.heap.NoLimit := env.mod.nolimit.keeps stays
  refine codeAny_call_function room.depth (inK _ _ lk) rfl S.co S.gen rfl (PySem.W.codeRec_of inK hcd) (binds _ _ _ _ ?_)
  refine wpAny_newFunctionEnv_cells S.kind (fun ⟨n, v⟩ hy => (S.par n (List.of_mem_zip hy).1).imp id fun q => ⟨q, PySem.W.cellsFrom_some _ _ _ (.inl q)⟩) fun env1 e1 s1 c1 => ?_
  subst e1
  refine ⟨free.keeps c1.toInCall.keep, codeAny_func ?_⟩
  obtain ⟨t, d, q⟩ := body e cdv A outer s H vs Q E (room.deeper _) want
  refine wpAny_mono (d.run [] s1 (start N vs) H _ (L2H.inv_startH S pin env (len _ _ _ _ _ want) rel c1) q) (fun fl s2 h2 => ?_) fun e s2 h2 => h2
  cases fl with
  | ret u =>
    obtain ⟨v, σ2, G, J, rv, r⟩ := h2
    exact ⟨v, G, J.os, J.bare, J.base, J.hok, rv, r⟩
  | next =>
    obtain ⟨σ2, G, J, r⟩ := h2
    exact ⟨V.non, G, J.os, J.bare, J.base, J.hok, rfl, r⟩
  | brk => exact (h2.choose_spec.choose_spec.2 : False).elim
  | cont => exact (h2.choose_spec.choose_spec.2 : False).elim
structure CalE (P : Program) (w : World) (K : PySem.W.Frag) (mg : Str → Option Value) (base : Heap) (k : Nat) (x : Str) (ps : List Str) (sp : Addr × Obj → Sp) : Prop where
  ex : ∃ (f : Addr) (fd : FuncData), FnE P w K mg base k f fd ps sp ∧ mg x = some (.ref f) ∧ PySem.W.keepIn K (.ref f) = true ∧ Binds K fd ps [] ∧ ∃ oc od sl, K.lookup f = some ⟨oc, od, .func fd, sl⟩
theorem At.calE {x : Str} {st : Stmt} {N ps : List Str} {k : Nat} {sp : Addr × Obj → Sp} (D : At K mg x st ps) (S : FnScope N ps (defScope st)) (len : ∀ e vs H Q E, sp e vs H Q E → vs.length = ps.length)
    (body : ∀ (f : Addr) (e : Addr × Obj) (cdv : Value) (A : Around) (outer : List Env) (s : Shared) (H : Hp) (vs : List V) (Q : VK) (E : XK), L2H.RoomH k (A.deeper (envOfC x (defScope st) s.heap.objs.size f cdv)) → sp e vs H Q E →
      ∃ t, PSs (cxE P w K mg base N x (defScope st) f cdv A outer s H E e) (defBody st) t ∧ t { nx := fun _ G => Q .non G, rt := Q } (start N vs) H) : CalE P w K mg base (k + 1) x ps sp := by
  obtain ⟨f, fd, F, b, g⟩ := D.ex
  obtain ⟨oc, od, kV, doc, pm, an, cdv, ct, osl, e, lk, hcd⟩ := F.ex
  exact ⟨f, fd, okE F S len (body f), g, F.kp, b, oc, od, osl, lk⟩
/-- two promises of one def -/
theorem CalE.or {k : Nat} {x : Str} {ps : List Str} {s1 s2 : Addr × Obj → Sp} (c : CalE P w K mg base k x ps s1) (d : CalE P w K mg base k x ps s2) : CalE P w K mg base k x ps fun e vs H Q E => s1 e vs H Q E ∨ s2 e vs H Q E := by
  obtain ⟨f, fd, F, g, kp, b, oc, od, sl, lk⟩ := c.ex
  obtain ⟨f2, fd2, F2, g2, _, _, oc2, od2, sl2, lk2⟩ := d.ex
  rw [g] at g2
  cases g2
  rw [lk] at lk2
  cases lk2
  refine ⟨f, fd, ⟨fun e vs H Q E z => z.elim (F.len e vs H Q E) (F2.len e vs H Q E), fun e A outer s H args us vs Q E r p n bd v z => ?_⟩, g, kp, b, oc, od, sl, lk⟩
  rcases z with z | z
  · exact F.run e A outer s H args us vs Q E r p n bd v z
  · exact F2.run e A outer s H args us vs Q E r p n bd v z
end
def tCallE (a : Addr) (cls : Value) (d : Option Addr) (sp : Addr × Obj → Sp) (t : TA) : TE := fun σ H Q => t σ H fun vs G => ∀ oe : Obj, Zc cls d oe → (∃ vs, oe.data = .fields vs) → sp (a, oe) vs G Q E0
section
variable {X : Cx} {k j : Nat} {x : Str} {ps : List Str} {sp : Addr × Obj → Sp} {p pos : Pos} {a : Expr} {es : List Expr} {t : TA} {b : Addr} {oe : Obj} {cls : Value} {d : Option Addr}
theorem pe_ownE (c : CalE X.prog X.w X.K X.mg X.base k x ps sp) (hr : L2H.RoomH k X.A) (he : (b, oe) ∈ X.pn) (hz : Zc cls d oe) (hf : ∃ vs, oe.data = .fields vs) (hg : Gl X x) (ha : PA X (a :: es) t)
    (hdb : (x == ("__debug__" : Str)) = false := by decide) (hs : starEach (a :: es) X.env = (false, eval a X.env) :: starEach es X.env := by rfl) (hpl : (backTo pos (starEach es X.env)).any (·.1) = false := by rfl) :
    PE X (.Call (.Name x p) (a :: es) [] pos) (tCallE b cls d sp t) := by
  obtain ⟨f, fd, F, hm, kp, bd, _⟩ := c.ex
  refine ⟨fun pins s σ H Q I h => wpAny_Call_Name_kw (ld_glob I hg hm (PySem.W.callWith_K (h₀ := X.base) I.ok.mod.kin kp (thn (ha.run pos pins s σ H _ I h) fun us s1 ⟨vs, G, I1, r, q⟩ => ⟨I1.kIn, ?_⟩) hs hpl) hdb)⟩
  have ll : (us ++ []).length = ps.length := by
    rw [List.append_nil, ← r.length]
    exact F.len _ _ _ _ _ (q oe hz hf)
  have bt := bd s1 us I1.kIn ll
  rw [List.append_nil] at bt
  have P1 := I1.pin (b, oe) (List.mem_append_left _ he)
  have pin : L2H.PinOk X.stack G s1 (b, oe) := ⟨P1.1, P1.2.1, fun hm => (List.mem_cons.mp (I1.stkSub b hm)).elim P1.2.2.1 P1.2.2.2.1, P1.2.2.2.2⟩
  refine wpAny_call (codeAny_mono (F.run (b, oe) X.A X.stack s1 G ⟨us, []⟩ us vs Q E0 hr pin I1.env0 bt r (q oe hz hf)) fun rr s2 h2 => ?_)
  cases rr with
  | error e => exact (h2 : False).elim
  | ok fl =>
    cases fl with
    | ret u => exact I1.after h2
    | next => exact (h2 : False).elim
    | brk => exact (h2 : False).elim
    | cont => exact (h2 : False).elim
end
/-! ### list.count of what is flat -/
def rCntV (K : PySem.W.Frag) : V → List V → Hp → VK → Prop := fun x xs H Q => ∃ (a : Addr) (ys : List V) (y : V), x = .ref a ∧ xs = [y] ∧ SqL K H a ys ∧ flatV y = true ∧ ys.all flatV = true ∧ Q (.int (ys.countP (fun z => eqV z y) : Nat)) H
theorem cnt_vals {y : V} : ∀ {ys : List V} {its : List Value}, Vals ys its → ys.all flatV = true → its.countP (eqU y) = ys.countP fun z => eqV z y
  | [], _, r, _ => by
    cases r
    rfl
  | z :: zs, _, r, f => by
    cases r with
    | cons a r =>
      rw [List.all_cons, Bool.and_eq_true] at f
      rw [List.countP_cons, List.countP_cons, cnt_vals r f.2, eqU_of a f.1]
theorem mt_countV {X : Cx} : MtR X "list.count" (rCntV X.K) := by
  intro pins s σ H x xs v us Q I rx rxs h
  obtain ⟨p, ys, y, rfl, rfl, hs, fy, fys, q⟩ := h
  cases rx
  obtain ⟨u, rfl, ru⟩ := rxs.one
  obtain ⟨its, rv, ⟨⟨cls, dd, data, sl⟩, n, ho, hc, hdn, hd⟩, hlen⟩ := I.list hs
  simp only at hc hd
  subst hc hd
  refine call_meets PySem.F.slot_list_count ⟨_, ho, rfl⟩ PySem.F.entry_list_count (PySem.F.args_list_count_2 _ _) (SeqAt.list_countAt p its.toArray n dd sl u (eqU y)) ⟨ho, fun z hz => mem_eqAt ru fy rv fys z (by simpa using hz), ?_⟩
  have ec : its.toArray.toList.countP (eqU y) = ys.countP fun z => eqV z y := cnt_vals rv fys
  refine ⟨.int (ys.countP (fun z => eqV z y) : Nat), H, I.tok _, ⟨s.toks, ?_⟩, q⟩
  show Value.int ((its.toArray.toList.countP (eqU y) : Nat) : Int) s.toks = Value.int ((ys.countP (fun z => eqV z y) : Nat) : Int) s.toks
  rw [ec]
/-- what is not reached -/
theorem pe_never {X : Cx} {e : Expr} : PE X e (fun _ _ _ => False) := ⟨fun _ _ _ _ _ _ h => h.elim⟩
end Gu
namespace Gu
open PySem PySem.Spec PyProof.Rows L2
theorem iteBF {c : Bool} {a b : Prop} (h : c = false) (k : b) : if c = true then a else b := by
  rw [h, if_neg (by decide)]
  exact k
theorem iteB {c : Bool} {a b : Prop} (h : c = true) (k : a) : if c = true then a else b := by
  rw [if_pos h]
  exact k
theorem xd_same {H G : Hp} {d : Option Addr} (s : Same H G) (h : ∀ d2, d = some d2 → ∃ fs, H d2 = some (.xd fs)) : ∀ d2, d = some d2 → ∃ fs, G d2 = some (.xd fs) := fun d2 e => by
  obtain ⟨fs, q⟩ := h d2 e
  exact ⟨fs, s _ _ q⟩
end Gu
namespace Gu
open PySem PySem.Spec PyProof.Rows L2 LamX
theorem htest_tup3 {X : Cx} {x1 x2 x3 : Str} {c1 c2 c3 : Value} {p1 p2 p3 pos : Pos} {kk : Nat} (h1 : Names X x1 c1) (h2 : Names X x2 c2) (h3 : Names X x3 c3) : HTest X (.Tuple [.Name x1 p1, .Name x2 p2, .Name x3 p3] kk pos) (fun cls => PySem.W.exmAny X.K cls [c1, c2, c3]) := by
  intro a oe cls d pn pins σ H s r Q E I ha hz hm k
  have LT : PySem.W.Looks (model X.prog X.w) s.heap (typeOf (.ref a)) cls := fun A Q E s1 keep q => wpAny_typeOf_ref (keep _ _ ha) (by rw [hz.1]; exact q)
  have name : ∀ {x : Str} {c : Value} {p : Pos} {R : Value → Shared → Prop}, Names X x c → R c s → wpAny (model X.prog X.w) (X.A.mark (some (.ref a))) (eval (.Name x p) X.env) R E s := fun {x c p R} hc go => by
    obtain ⟨hg, hdb, hm | ⟨hm, hv, hn⟩⟩ := hc
    · exact ld_glob (X := X.suite a ((a, oe) :: pn)) I hg hm go hdb
    · exact ld_blt (X := X.suite a ((a, oe) :: pn)) I hg hm hv go hn hdb
  refine wpAny_Tuple ?_
  refine wpAny_items_cons (name h1 ?_)
  refine wpAny_items_cons (name h2 ?_)
  refine wpAny_items_cons (name h3 ?_)
  refine wpAny_items_nil ⟨by show 3 ≤ sizeLine; decide, ?_⟩
  have kp : ∀ q o, s.heap.get? q = some o → (s.heap.push { cls := .type "tuple", data := .seq [c1, c2, c3].toArray }).get? q = some o := fun _ _ z => Heap.get?_push_of_some _ z
  exact (PySem.W.exm_tup3 (I.kIn.keeps kp) (LT.keeps kp) (Heap.get?_push_size s.heap rfl) hm).here (k _ s.toks kp)
theorem roomE {A : Around} {env : Env} {o : Option Value} (hr : Room 2 A) : L2H.RoomH 1 ((A.deeper env).mark o) :=
  have r := L2H.RoomH.deeper (L2H.roomH_of hr) env
  ⟨r.dp, r.un⟩
end Gu
namespace Gu
open PySem PySem.Spec PyProof.Rows L2
/-! ### texts of the laws about names -/
def abc : Str := ".0123456789abcdefghijklmnopqrstuvwxyz~"
/-- at most n signs -/
structure Wd (n : Nat) (y : Str) : Prop where
  len : y.cps.toList.length ≤ n
  sgn : ∀ c ∈ y.cps.toList, c ∈ abc.cps.toList
theorem Wd.mono {n m : Nat} {y : Str} (h : Wd n y) (k : n ≤ m) : Wd m y := ⟨Nat.le_trans h.len k, h.sgn⟩
theorem str_app (a b : Str) : (a ++ b).cps.toList = a.cps.toList ++ b.cps.toList := by
  show (a.cps ++ b.cps).toList = _
  rw [Array.toList_append]
theorem Wd.app {n m k : Nat} {y z : Str} (a : Wd n y) (b : Wd m z) (h : n + m ≤ k) : Wd k (y ++ z) := by
  have h1 := a.len
  have h2 := b.len
  refine ⟨?_, fun c hc => ?_⟩
  · rw [str_app, List.length_append]
    omega
  · rw [str_app] at hc
    rcases List.mem_append.mp hc with hc | hc
    · exact a.sgn c hc
    · exact b.sgn c hc
theorem Wd.cut {n : Nat} {y : Str} (a : Wd n y) (lo hi : Option Int) : Wd n (cutS y lo hi) :=
  ⟨Nat.le_trans (cutS_length y lo hi) a.len, fun c hc => a.sgn c (List.mem_of_mem_drop (List.mem_of_mem_take hc))⟩
theorem cutS_head (y : Str) {h : Int} (h0 : 0 ≤ h) : (cutS y none (some h)).cps.toList = y.cps.toList.take h.toNat := by
  obtain ⟨k, rfl⟩ := Int.eq_ofNat_of_zero_le h0
  unfold cutS
  rw [HT.sIx_none, HT.sIx_nat, List.drop_zero, Nat.sub_zero, Int.toNat_natCast]
  show y.cps.toList.take (min k y.cps.toList.length) = _
  rw [List.take_eq_take_iff]
  omega
theorem wd_head {y : Str} (a : ∀ c ∈ y.cps.toList, c ∈ abc.cps.toList) {h : Int} (h0 : 0 ≤ h) {m : Nat} (hm : h ≤ m) : Wd m (cutS y none (some h)) := by
  refine ⟨?_, fun c hc => ?_⟩
  · rw [cutS_head y h0, List.length_take]
    omega
  · rw [cutS_head y h0] at hc
    exact a c (List.mem_of_mem_take hc)
theorem wd_lit {z : Str} {n : Nat} (h : decide (z.cps.toList.length ≤ n ∧ ∀ c ∈ z.cps.toList, c ∈ abc.cps.toList) = true) : Wd n z := ⟨(of_decide_eq_true h).1, (of_decide_eq_true h).2⟩
theorem wd_digit {i : Int} (h0 : 0 ≤ i) (h1 : i < 10) : Wd 1 (toString i : String) := by
  obtain ⟨k, rfl⟩ := Int.eq_ofNat_of_zero_le h0
  have a : ∀ k ∈ List.range 10, ((toString (Int.ofNat k) : String) : Str).cps.toList.length ≤ 1 ∧ ∀ c ∈ ((toString (Int.ofNat k) : String) : Str).cps.toList, c ∈ abc.cps.toList := by decide +kernel
  have b := a k (List.mem_range.mpr (by omega))
  exact ⟨b.1, b.2⟩
theorem log_small {i : Int} (h0 : 0 ≤ i) (h1 : i < 1000) : i.natAbs.log2 < 1920 := by
  by_cases e : i.natAbs = 0
  · rw [e]
    decide
  · exact (Nat.log2_lt e).mpr (Nat.lt_of_lt_of_le (by omega : i.natAbs < 2 ^ 10) (Nat.pow_le_pow_right (by decide) (by decide)))
theorem Pot.off {H : Hp} {p q : Addr} (h : Pot H p) (n : H q = none) : q ≠ p := fun e => by
  subst e
  obtain ⟨o, ho⟩ := h.some
  rw [n] at ho
  cases ho
theorem yesT {σ : L2.St} {H : Hp} {Q : Bool → Hp → Prop} (h : Q true H) : tYes σ H Q := h
/-! single signs -/
def sg (c : Nat) : Str := ⟨#[c]⟩
theorem join_sgs : ∀ cs : List Nat, (Str.join ⟨#[]⟩ (cs.map sg)).cps.toList = cs
  | [] => rfl
  | c :: r => by
    rw [List.map_cons, join_nil_cons, str_app, join_sgs r]
    rfl
theorem tjoin_sgs (cs : List Nat) : (Txt.join "" (cs.map sg)).cps.toList = cs := by
  have e : (("" : String) : Str) = ⟨#[]⟩ := by decide +kernel
  show (Builtin.Str.glued _ _).cps.toList = cs
  rw [e, StrLaws.glued_eq_join]
  exact join_sgs cs
theorem sgs_len (cs : List Nat) : ((cs.map sg).map (·.length)).sum = cs.length := by
  induction cs with
  | nil => rfl
  | cons c r ih =>
    rw [List.map_cons, List.map_cons, List.sum_cons, ih]
    show 1 + r.length = r.length + 1
    omega
/-! text * int -/
def rRepS : R2 := fun x y H Q => ∃ z k, x = .str z ∧ y = .int k ∧ 2 ≤ k ∧ k ≤ 1000 ∧ 0 < z.length ∧ z.length ≤ 1000 ∧ ∀ y : Str, y.cps.toList = (List.replicate k.toNat z.cps.toList).flatten → Q (.str y) H
theorem fold_rep (z : Array Nat) : ∀ (k : Nat) (acc : Array Nat), ((List.replicate k z).foldl (· ++ ·) acc).toList = acc.toList ++ (List.replicate k z.toList).flatten
  | 0, acc => by simp
  | k + 1, acc => by
    rw [List.replicate_succ, List.foldl_cons, fold_rep z k, List.replicate_succ, List.flatten_cons, Array.toList_append, List.append_assoc]
theorem op_mul_str {X : Cx} : OpR X (binaryOp .Mult) rRepS := by
  intro pins s σ H x y v u Q I rx ry h
  obtain ⟨z, k, rfl, rfl, k0, k1, z0, z1, q⟩ := h
  obtain ⟨t, rfl⟩ := rx
  obtain ⟨t', rfl⟩ := ry
  have n1 : ¬ k < 1 := by omega
  have n2 : (k == 1 || z.length == 0) = false := by
    rw [Bool.or_eq_false_iff]
    exact ⟨beq_eq_false_iff_ne.mpr (by omega), beq_eq_false_iff_ne.mpr (by omega)⟩
  have m1 : (z.length : Int) * k ≤ 1000 * 1000 := Int.mul_le_mul (by omega) k1 (by omega) (by omega)
  have m2 : z.length * k.toNat ≤ 1000 * 1000 := Nat.mul_le_mul z1 (by omega)
  refine PySem.P.mul_str ?_ (fun _ _ => Int.not_lt.mpr ((Int.le_ediv_iff_mul_le (by omega)).mpr (by omega))) (fun _ _ => decide_eq_false (by rw [sizeLine_eq]; omega)) ?_
  · rw [Bool.or_eq_false_iff]
    exact ⟨decide_eq_false (by omega), decide_eq_false (by omega)⟩
  · rw [if_neg n1, n2, if_neg Bool.false_ne_true]
    have e : ((List.replicate k.toNat z.cps).foldl (· ++ ·) #[]).toList = (List.replicate k.toNat z.cps.toList).flatten := by
      rw [fold_rep]
      rfl
    refine ⟨?_, .str ⟨(List.replicate k.toNat z.cps).foldl (· ++ ·) #[]⟩, H, I.tok _, ⟨_, rfl⟩, q _ e⟩
    show ((List.replicate k.toNat z.cps).foldl (· ++ ·) #[]).size ≤ _
    rw [← Array.length_toList, e, PyProof.Rows.lm_len_rep_flat]
    show k.toNat * z.length ≤ sizeLine
    rw [Nat.mul_comm, sizeLine_eq]
    omega
end Gu
namespace Gu
open PySem PySem.Spec PyProof.Rows L2
theorem Pot.ne {H : Hp} {p q : Addr} (h : Pot H p) (n : H q = none) : q ≠ p := h.off n
end Gu
namespace Gu
open PySem PySem.Spec PyProof.Rows L2
section
variable {P : Program} {w : World} {K : PySem.W.Frag} {mg : Str → Option Value} {base : Heap}
/-! ### _law_stem -/
def spStem : Sp := fun vs H Q _ => ∃ (p : Addr) (m : Int), vs = [.ref p, .int m] ∧ Pot H p ∧ 0 < m ∧ m < 100 ∧ ∀ (y : Str) (G : Hp), Ladled p H G → 0 < y.cps.toList.length → Wd m.toNat y → Q (.str y) G
theorem cal_stem (B : Bi mg) (D : At K mg "_law_stem" s_law_stem ps_law_stem) (C_law_draw : Cal P w K mg base 1 "_law_draw" ps_law_draw spLadle) : Cal P w K mg base 2 "_law_stem" ps_law_stem spStem := by
  refine D.cal sc_law_stem (fun vs H Q E h => ?_) (fun f cdv A outer s H vs Q E hr h => ?_)
  · obtain ⟨p, m, rfl, _⟩ := h
    rfl
  · obtain ⟨p, m, rfl, hp, m0, m1, k⟩ := h
    refine ⟨_, (pss_cons (ps_set (i := 2) sc_law_stem.nd rfl (.inr rfl) pe_str)
      (pss_one (ps_ret (pe_join pe_str (pe_lc (own := [("_law_k", 3)]) (by rfl) sc_law_stem.nd (pi_range1 (by rfl) B.range (pa_cons (pe_op op_add pe_int (pe_own C_law_draw hr (by decide) (by rfl) (pa_cons (pv 0) (pa_cons (pv 1) pa_nil)))) pa_nil)) (blkOk_by (own := [("_law_k", 3)]) (N := ["_law_source_here", "_law_size", "_law_abc", "_law_k"]) (sc := defScope s_law_stem) (by decide +kernel)) (fun _ _ _ _ _ => pg_name (i := 3) sc_law_stem.nd rfl (.inl rfl)) (fun _ _ _ _ _ => pts_nil) (fun _ _ _ _ _ => (pe_ix ix_str (pv 2) (pe_own C_law_draw hr (by decide) (by rfl) (pa_cons (pv 0) (pa_cons pe_int pa_nil))) (fun _ _ => rfl)))))))), ?_⟩
    refine ⟨⟨_, rfl⟩, _, rfl, _, rfl, p, m, rfl, hp, m0, by omega, fun d G1 d0 d1 L1 => ?_⟩
    refine ⟨_, _, rfl, rfl, _, rfl, by omega, by omega, fun M nM => lc_range (lo := 0) (n := (1 + d).toNat) (fun i J => ∃ cs : List Nat, cs.length = i ∧ (∀ c ∈ cs, c ∈ abc.cps.toList) ∧ J M = some (.lst ((cs.map sg).map V.str)) ∧ Ladled p H J)
      ⟨[], rfl, (fun c hc => by cases hc), upd_same, L1.mut (L1.free nM) (L1.pot.off nM)⟩ ?_ ?_⟩
    · rintro i J hi ⟨cs, rfl, hc, eM, L⟩
      have hM : H M = none := L1.free nM
      refine ⟨rfl, yesT (iteT ⟨_, rfl, _, rfl, p, 38, rfl, L.pot, by decide, by decide, fun c G c0 c1 L2 => ?_⟩)⟩
      obtain ⟨v, hv, ha⟩ := at_in (xs := abc.cps.toList) c0 c1
      have gM := L2.keep _ _ eM (hp.off hM)
      refine ⟨abc, c, v, rfl, rfl, by decide +kernel, ha, _, gM, small1000 (by rw [List.length_map, List.length_map]; omega), cs ++ [v], by rw [List.length_append]; rfl, fun x hx => ?_, ?_, (L.trans L2).mut hM (hp.off hM)⟩
      · rcases List.mem_append.mp hx with hx | hx
        · exact hc x hx
        · rw [List.mem_singleton.mp hx]
          exact hv
      · rw [upd_same, List.map_append, List.map_append]
        rfl
    · rintro J ⟨cs, el, hc, eM, L⟩
      refine ⟨_, M, _, rfl, rfl, .inl (.inl (.inl eM)), ?_, k _ J L ?_ ⟨?_, ?_⟩⟩
      · rw [sgs_len, List.length_map]
        have e0 : (("" : String) : Str).length = 0 := by decide +kernel
        rw [e0]
        omega
      · rw [tjoin_sgs]
        omega
      · rw [tjoin_sgs]
        omega
      · rw [tjoin_sgs]
        exact hc
end
end Gu
namespace Gu
open PySem PySem.Spec PyProof.Rows L2
/-! ### _law_numbered -/
def ending (n : Int) : Str := (("~" : String) : Str) ++ ((toString n : String) : Str)
def nbase (w : Int) (t : Str) : Str := cutS t none (some w)
def numbered (so : Str) (w : Int) (t : Str) (n : Int) : Str :=
  if decide (so = ("tight" : String)) && decide (w < ((nbase w t).length : Int) + ((ending n).length : Int)) then cutS (nbase w t) none (some (w - (ending n).length)) ++ ending n else nbase w t ++ ending n
theorem ending_len {n : Int} (h0 : 0 ≤ n) (h1 : n < 10) : (ending n).length ≤ 2 := by
  have a := (wd_digit h0 h1).len
  have e : (ending n).length = 1 + ((toString n : String) : Str).length := by
    show (ending n).cps.toList.length = _
    unfold ending
    rw [str_app, List.length_append]
    rfl
  rw [e]
  show 1 + ((toString n : String) : Str).cps.toList.length ≤ 2
  omega
theorem str_eq_iff {a b : Str} : decide (V.str a = V.str b) = decide (a = b) := by
  by_cases e : a = b
  · rw [decide_eq_true e, decide_eq_true (by rw [e])]
  · rw [decide_eq_false e, decide_eq_false (fun h => e (V.str.inj h))]
end Gu
namespace Gu
open PySem PySem.Spec PyProof.Rows L2
/-! ### names, as the laws tell them -/
/-- the first of f a, f (a + 1), .. that is not taken, f (a + k) at the latest -/
def seek (f : Nat → Str) (ys : List Str) : Nat → Nat → Str
  | 0, a => f a
  | k + 1, a => if f a ∈ ys then seek f ys k (a + 1) else f a
theorem seek_at {f : Nat → Str} {ys : List Str} : ∀ (d k a : Nat), d ≤ k → (∀ j, j < d → f (a + j) ∈ ys) → f (a + d) ∉ ys → seek f ys k a = f (a + d)
  | 0, 0, a, _, _, _ => rfl
  | 0, k + 1, a, _, _, n => by
    unfold seek
    rw [if_neg (show f a ∉ ys from n)]
    rfl
  | d + 1, 0, _, h, _, _ => absurd h (by omega)
  | d + 1, k + 1, a, h, t, n => by
    unfold seek
    rw [if_pos (show f a ∈ ys from t 0 (by omega)), seek_at d k (a + 1) (by omega) (fun j hj => by
      have := t (j + 1) (by omega)
      rw [show a + 1 + j = a + (j + 1) by omega]
      exact this) (by
      rw [show a + 1 + d = a + (d + 1) by omega]
      exact n), show a + 1 + d = a + (d + 1) by omega]
theorem fewer : ∀ (xs ys : List Str), xs.Nodup → (∀ x ∈ xs, x ∈ ys) → xs.length ≤ ys.length
  | [], _, _, _ => Nat.zero_le _
  | x :: xs, ys, hn, h => by
    have hx := h x (List.mem_cons_self ..)
    have hc := List.nodup_cons.mp hn
    have ne : ∀ y ∈ xs, y ≠ x := fun y hy e => by
      subst e
      exact hc.1 hy
    have := fewer xs (ys.erase x) hc.2 fun y hy => (List.mem_erase_of_ne (ne y hy)).mpr (h y (List.mem_cons_of_mem _ hy))
    rw [List.length_erase_of_mem hx] at this
    have := List.length_pos_of_mem hx
    rw [List.length_cons]
    omega
def cand (so : Str) (w : Int) (t : Str) (i : Nat) : Str := numbered so w t (2 + (i : Int))
theorem last_of (a : Str) {n : Int} (h0 : 0 ≤ n) (h1 : n < 10) : (a ++ ending n).cps.toList.getLast? = some (48 + n.toNat) := by
  obtain ⟨k, rfl⟩ := Int.eq_ofNat_of_zero_le h0
  have e : ∀ k ∈ List.range 10, (ending (Int.ofNat k)).cps.toList.getLast? = some (48 + k) := by decide +kernel
  have b := e k (List.mem_range.mpr (by omega))
  rw [str_app, List.getLast?_append, show (Int.toNat ((k : Nat) : Int)) = k from rfl, show (ending ((k : Nat) : Int)).cps.toList.getLast? = some (48 + k) from b]
  rfl
theorem cand_last (so : Str) (w : Int) (t : Str) {i : Nat} (h : i < 8) : (cand so w t i).cps.toList.getLast? = some (50 + i) := by
  have e : 48 + (2 + (i : Int)).toNat = 50 + i := by omega
  unfold cand numbered
  split
  · rw [last_of _ (by omega) (by omega), e]
  · rw [last_of _ (by omega) (by omega), e]
theorem cands_nodup (so : Str) (w : Int) (t : Str) : ∀ n, n ≤ 8 → ((List.range n).map (cand so w t)).Nodup
  | 0, _ => List.nodup_nil
  | n + 1, h => by
    rw [List.range_succ, List.map_append]
    refine List.nodup_append.mpr ⟨cands_nodup so w t n (by omega), List.nodup_cons.mpr ⟨List.not_mem_nil, List.nodup_nil⟩, fun x hx y hy e => ?_⟩
    obtain ⟨i, hi, rfl⟩ := List.mem_map.mp hx
    have hi := List.mem_range.mp hi
    rw [List.mem_singleton.mp hy] at e
    have a := cand_last so w t (i := i) (by omega)
    rw [e, cand_last so w t (i := n) (by omega)] at a
    have := Option.some.inj a
    omega
/-- not all of them are taken -/
theorem some_free {so : Str} {w : Int} {t : Str} {ys : List Str} (h : ys.length ≤ 6) (a : ∀ j, j < ys.length + 1 → cand so w t j ∈ ys) : False := by
  have := fewer _ ys (cands_nodup so w t (ys.length + 1) (by omega)) fun x hx => by
    obtain ⟨i, hi, rfl⟩ := List.mem_map.mp hx
    exact a i (List.mem_range.mp hi)
  rw [List.length_map, List.length_range] at this
  omega
def mates (w : Int) (t : Str) (ps : List (Str × Str)) : List (Str × Str) := ps.filter fun q => decide (nbase w q.1 = nbase w t)
def nameOf (so : Str) (w : Int) (t : Str) (ps : List (Str × Str)) : Str :=
  if so = ("count" : String) then (if (mates w t ps).length = 0 then nbase w t else numbered so w t (((mates w t ps).length : Int) + 1))
  else if nbase w t ∈ ps.map (·.2) then seek (cand so w t) (ps.map (·.2)) (ps.map (·.2)).length 0 else nbase w t
theorem wd_base {n : Nat} {t : Str} (h : Wd n t) (w : Int) : Wd n (nbase w t) := h.cut _ _
theorem wd_numbered {n : Nat} {t : Str} {so : Str} {w k : Int} (h : Wd n t) (h0 : 0 ≤ k) (h1 : k < 10) : Wd (n + 2) (numbered so w t k) := by
  have a : Wd 2 (ending k) := (wd_lit (z := ("~" : String)) (n := 1) (by decide +kernel)).app (wd_digit h0 h1) (by decide)
  unfold numbered
  split
  · exact ((wd_base h w).cut _ _).app a (Nat.le_refl _)
  · exact (wd_base h w).app a (Nat.le_refl _)
theorem wd_seek {n : Nat} {so : Str} {w : Int} {t : Str} {ys : List Str} (h : Wd n t) : ∀ (k a : Nat), a + k < 8 → Wd (n + 2) (seek (cand so w t) ys k a)
  | 0, a, l => wd_numbered h (by omega) (by omega)
  | k + 1, a, l => by
    unfold seek
    split
    · exact wd_seek h k (a + 1) (by omega)
    · exact wd_numbered h (by omega) (by omega)
theorem wd_name {n : Nat} {so : Str} {w : Int} {t : Str} {ps : List (Str × Str)} (h : Wd n t) (l : ps.length ≤ 6) : Wd (n + 2) (nameOf so w t ps) := by
  have m : (mates w t ps).length ≤ ps.length := List.length_filter_le ..
  unfold nameOf
  split
  · split
    · exact (wd_base h w).mono (by omega)
    · exact wd_numbered h (by omega) (by omega)
  · split
    · exact wd_seek h _ _ (by rw [List.length_map]; omega)
    · exact (wd_base h w).mono (by omega)
/-! lists that == looks into -/
theorem shaped_of {ds : List PyData} (h : ∀ d ∈ ds, d.canLay0 = true ∧ d.depth ≤ 10) : SeqAt.shaped (.list ds) = true := by
  have a : ∀ ds : List PyData, (∀ d ∈ ds, d.canLay0 = true ∧ d.depth ≤ 10) → PyData.canLayAll0 ds = true ∧ PyData.depthAll ds ≤ 10 := by
    intro ds
    induction ds with
    | nil => exact fun _ => ⟨rfl, Nat.zero_le _⟩
    | cons d ds ih =>
      intro h
      have b := ih fun e he => h e (List.mem_cons_of_mem _ he)
      have c := h d (List.mem_cons_self ..)
      refine ⟨?_, Nat.max_le.mpr ⟨c.2, b.2⟩⟩
      show (d.canLay0 && PyData.canLayAll0 ds) = true
      rw [c.1, b.1]
      rfl
  have b := a ds h
  unfold SeqAt.shaped
  rw [Bool.and_eq_true]
  refine ⟨b.1, decide_eq_true ?_⟩
  show PyData.depthAll ds + 1 ≤ 64
  omega
theorem wd_lay {n : Nat} {y : Str} (h : Wd n y) : (PyData.str y).canLay0 = true := by
  have a : ∀ c ∈ abc.cps.toList, c < 0x110000 := by decide +kernel
  show y.cps.all _ = true
  rw [← Array.all_toList, List.all_eq_true]
  exact fun c hc => decide_eq_true (a c (h.sgn c hc))
def pdat (q : Str × Str) : PyData := .tuple [.str q.1, .str q.2]
theorem pdat_ok {n : Nat} {q : Str × Str} (a : Wd n q.1) (b : Wd n q.2) : (pdat q).canLay0 = true ∧ (pdat q).depth ≤ 10 := by
  refine ⟨?_, by show 1 ≤ 10; decide⟩
  show ((PyData.str q.1).canLay0 && ((PyData.str q.2).canLay0 && true)) = true
  rw [wd_lay a, wd_lay b]
  rfl
theorem eqv_nil (ds : List PyData) : PyData.eqv (.list ds) (.list []) = decide (ds.length = 0) := by
  cases ds with
  | nil => rfl
  | cons d ds => rfl
end Gu
namespace Gu
open PySem PySem.Spec PyProof.Rows L2
/-! ### _law_name -/
/-- a list of pairs of texts -/
structure PairsAt (H : Hp) (a : Addr) (qs : List (Addr × Str × Str)) : Prop where
  ls : H a = some (.lst (qs.map fun q => V.ref q.1))
  tp : ∀ q ∈ qs, H q.1 = some (.tup [.str q.2.1, .str q.2.2])
theorem PairsAt.same {H G : Hp} {a : Addr} {qs : List (Addr × Str × Str)} (s : Same H G) (h : PairsAt H a qs) : PairsAt G a qs := ⟨s _ _ h.ls, fun q hq => s _ _ (h.tp q hq)⟩
theorem ref_at {qs : List (Addr × Str × Str)} {i : Nat} {v : V} (hi : (qs.map fun q => V.ref q.1)[i]? = some v) : ∃ q, qs[i]? = some q ∧ v = .ref q.1 ∧ q ∈ qs := by
  rw [List.getElem?_map] at hi
  cases e : qs[i]? with
  | none =>
    rw [e] at hi
    cases hi
  | some q =>
    rw [e] at hi
    exact ⟨q, rfl, (Option.some.inj hi).symm, List.mem_of_getElem? e⟩
theorem same_off {H J : Hp} {M : Addr} {o : HO} (s : Same H J) (n : H M = none) : Same H (upd J M o) := fun b x e => by
  rw [upd_ne (ne_of_none e n)]
  exact s b x e
theorem dp_pairs {K : PySem.W.Frag} {H : Hp} : ∀ {qs : List (Addr × Str × Str)}, (∀ q ∈ qs, H q.1 = some (.tup [.str q.2.1, .str q.2.2])) → DpAll K H (qs.map fun q => V.ref q.1) (qs.map fun q => pdat q.2)
  | [], _ => .nil
  | q :: qs, h => .cons (.tup (.inl (.inl (h q (List.mem_cons_self ..)))) (.cons (.str _) (.cons (.str _) .nil))) (dp_pairs fun r hr => h r (List.mem_cons_of_mem _ hr))
theorem mates_len (w : Int) (t : Str) (qs : List (Addr × Str × Str)) : (mates w t (qs.map (·.2))).length = (qs.filter fun q => decide (nbase w q.2.1 = nbase w t)).length := by
  unfold mates
  rw [List.filter_map, List.length_map]
  rfl
theorem in_strs (x : Str) (ys : List Str) : inV (.str x) (ys.map V.str) = decide (x ∈ ys) := by
  unfold inV
  rw [List.any_map]
  by_cases e : x ∈ ys
  · rw [decide_eq_true e, List.any_eq_true]
    exact ⟨x, e, beq_self_eq_true x⟩
  · rw [decide_eq_false e, List.any_eq_false]
    intro y hy h
    have h := eq_of_beq (show (y == x) = true from h)
    exact e (h ▸ hy)
theorem flat_strs (ys : List Str) : (ys.map V.str).all flatV = true := by
  rw [List.all_map, List.all_eq_true]
  exact fun _ _ => rfl
theorem take_next {α : Type} {qs : List α} {i : Nat} {q : α} (h : qs[i]? = some q) : qs.take (i + 1) = qs.take i ++ [q] := by
  rw [List.take_add_one, h]
  rfl
end Gu
namespace Gu
open PySem PySem.Spec PyProof.Rows L2
/-! ### _law_names -/
def pairsOf (so : Str) (w : Int) (ts : List Str) : List (Str × Str) := ts.foldl (fun ps t => ps ++ [(t, nameOf so w t ps)]) []
def namesOf (so : Str) (w : Int) (ts : List Str) : List Str := (pairsOf so w ts).map (·.2)
theorem pairsOf_snoc (so : Str) (w : Int) (ts : List Str) (t : Str) : pairsOf so w (ts ++ [t]) = pairsOf so w ts ++ [(t, nameOf so w t (pairsOf so w ts))] := by
  unfold pairsOf
  rw [List.foldl_append]
  rfl
theorem pairsOf_len (so : Str) (w : Int) (ts : List Str) : (pairsOf so w ts).length = ts.length := by
  have a : ∀ (ts : List Str) (acc : List (Str × Str)), (ts.foldl (fun ps t => ps ++ [(t, nameOf so w t ps)]) acc).length = acc.length + ts.length := by
    intro ts
    induction ts with
    | nil => exact fun _ => rfl
    | cons t ts ih =>
      intro acc
      rw [List.foldl_cons, ih, List.length_append, List.length_cons]
      show acc.length + 1 + ts.length = acc.length + (ts.length + 1)
      omega
  have b := a ts []
  rw [List.length_nil, Nat.zero_add] at b
  exact b
theorem st_same {K : PySem.W.Frag} {H G : Hp} {l : Addr} {xs : List V} (a : Same H G) (h : SqT K H l xs) : SqT K G l xs := by
  rcases h with (h | ⟨o, h⟩) | h
  · exact .inl (.inl (a _ _ h))
  · exact .inl (.inr ⟨o, a _ _ h⟩)
  · exact .inr h
theorem pairs_wd {so : Str} {w : Int} (ts : List Str) (l : ts.length ≤ 7) (h : ∀ t ∈ ts, Wd 200 t) : ∀ q ∈ pairsOf so w ts, Wd 200 q.1 ∧ Wd 202 q.2 := by
  have a : ∀ (ts : List Str) (acc : List (Str × Str)), acc.length + ts.length ≤ 7 → (∀ t ∈ ts, Wd 200 t) → (∀ q ∈ acc, Wd 200 q.1 ∧ Wd 202 q.2) → ∀ q ∈ ts.foldl (fun ps t => ps ++ [(t, nameOf so w t ps)]) acc, Wd 200 q.1 ∧ Wd 202 q.2 := by
    intro ts
    induction ts with
    | nil => exact fun _ _ _ h => h
    | cons t ts ih =>
      intro acc l ht ha
      rw [List.length_cons] at l
      rw [List.foldl_cons]
      refine ih _ (by rw [List.length_append, List.length_singleton]; omega) (fun x hx => ht x (List.mem_cons_of_mem _ hx)) fun q hq => ?_
      rcases List.mem_append.mp hq with hq | hq
      · exact ha q hq
      · rw [List.mem_singleton.mp hq]
        exact ⟨ht t (List.mem_cons_self ..), wd_name (ht t (List.mem_cons_self ..)) (by omega)⟩
  exact a ts [] (by rw [List.length_nil]; omega) h fun q hq => by cases hq
end Gu
namespace Gu
open PySem PySem.Spec PyProof.Rows L2
/-! ### things made by their class -/
structure Mak (P : Program) (w : World) (K : PySem.W.Frag) (mg : Str → Option Value) (base : Heap) (k : Nat) (x : Str) (C : Addr) (sp : Sp) : Prop where
  ex : ∃ (f : Addr) (fd : FuncData) (ps : List Str), Mk K C f ∧ FnOk P w K mg base CX0 k f fd ps sp ∧ mg x = some (.ref C) ∧ Binds K fd ps []
section
variable {X : Cx} {k j : Nat} {x : Str} {C : Addr} {sp : Sp} {p pos : Pos} {e : Expr} {es : List Expr} {t : TA}
theorem pe_new (c : Mak X.prog X.w X.K X.mg X.base k x C sp) (hr : Room j X.A) (hk : k + 1 ≤ j) (hg : Gl X x) (ha : PA X (e :: es) t)
    (hdb : (x == ("__debug__" : Str)) = false := by decide) (he : starEach (e :: es) X.env = (false, eval e X.env) :: starEach es X.env := by rfl) (hpl : (backTo pos (starEach es X.env)).any (·.1) = false := by rfl) :
    PE X (.Call (.Name x p) (e :: es) [] pos) (tMake C sp [] E0 t) := by
  obtain ⟨f, fd, ps, M, F, hm, b⟩ := c.ex
  exact pe_make M F (hr.mono hk) hg hm b .nil pass0 ha hdb he hpl
end
end Gu
namespace Gu
open PySem PySem.Spec PyProof.Rows L2
/-! ### calls by keywords alone -/
structure CalK (P : Program) (w : World) (K : PySem.W.Frag) (mg : Str → Option Value) (base : Heap) (k : Nat) (x : Str) (ks : List Str) (gV : List V → List V) (sp : Sp) : Prop where
  ex : ∃ (f : Addr) (fd : FuncData) (ps : List Str) (g : List Value → List Value), FnOk P w K mg base CX0 k f fd ps sp ∧ mg x = some (.ref f) ∧ PySem.W.keepIn K (.ref f) = true ∧ KBn K fd ps 0 ks (fun _ ws => g ws) (fun _ zs => gV zs)
theorem Cal.kw {P : Program} {w : World} {K : PySem.W.Frag} {mg : Str → Option Value} {base : Heap} {k : Nat} {x : Str} {st : Stmt} {ps ks : List Str} {sp : Sp} (g : {α : Type} → List α → List α) (c : Cal P w K mg base k x ps sp) (D : At K mg x st ps)
    (hv : ∀ {zs : List V} {ws : List Value}, Vals zs ws → Vals (g zs) (g ws))
    (hb : ∀ (kV doc pm : Value) (an : Option Addr) (cdv ct : Value) (ws : List Value), ws.length = ks.length → bindArgs (PySem.W.fnOf x x (defArgs st) (defBody st) (defScope st) .none kV doc pm an cdv ct) ⟨[], ks.zip ws⟩ = pure (ps.zip (g ws))) : CalK P w K mg base k x ks g sp := by
  obtain ⟨f, fd, F, hm, kp, b, oc, od, sl, lk⟩ := c.ex
  obtain ⟨f2, fd2, F2, b2, hm2⟩ := D.ex
  cases hm.symm.trans hm2
  obtain ⟨oc2, od2, kV, doc, pm, an, cdv, ct, sl2, e, lk2, hcd⟩ := F2.ex
  cases lk.symm.trans lk2
  refine ⟨f, fd, ps, g, F, hm, kp, ⟨fun s us ws I l1 l2 => ?_, fun _ r => hv r⟩⟩
  cases us with
  | nil =>
    rw [e]
    exact BindsTo.of_eq (hb kV doc pm an cdv ct ws l2)
  | cons u r => cases l1
def tKw (m : Nat) (gV : List V → List V) (sp : Sp) (tk : TA) : TE := fun σ H Q => tk σ H fun zs G => zs.length = m ∧ sp (gV zs) G Q E0
section
variable {X : Cx} {k j : Nat} {x : Str} {ks : List Str} {gV : List V → List V} {sp : Sp} {p pos : Pos} {kws : List Keyword} {tk : TA}
theorem pe_kw (c : CalK X.prog X.w X.K X.mg X.base k x ks gV sp) (hr : Room j X.A) (hk : k ≤ j) (hg : Gl X x) (hkw : PK X kws tk) (hall : (backToKw pos (keywordEach kws X.env)).all (·.1.isSome) = true := by rfl)
    (hks : (backToKw pos (keywordEach kws X.env)).filterMap (·.1) = ks := by rfl) (hdb : (x == ("__debug__" : Str)) = false := by decide)
    (hpl : ((backTo pos (starEach [] X.env)).any (·.1) || (backToKw pos (keywordEach kws X.env)).any (·.1.isNone)) = false := by rfl) : PE X (.Call (.Name x p) [] kws pos) (tKw ks.length gV sp tk) := by
  obtain ⟨f, fd, ps, g, F, hm, kp, b⟩ := c.ex
  refine ⟨fun pins s σ H Q I h => ?_⟩
  refine wpAny_Call_Name_kw (ld_glob I hg hm ?_ hdb)
  refine PySem.W.callWith_KW0 (h₀ := X.base) I.ok.mod.kin kp hall ?_ hpl
  refine thn (hkw.run pos pins s σ H _ I h) fun ws s2 ⟨zs, G, I2, rz, l2, q2⟩ => ⟨I2.kIn, ?_⟩
  rw [hks]
  exact run_fnN (us := []) (vs := []) F (hr.mono hk) b pass0 I2 .nil rz rfl l2 q2
end
def swap2 {α : Type} : List α → List α
  | [a, b] => [b, a]
  | l => l
theorem swap2_vals {zs : List V} {ws : List Value} (r : Vals zs ws) : Vals (swap2 zs) (swap2 ws) := by
  cases r with
  | nil => exact .nil
  | cons a r =>
    cases r with
    | nil => exact .cons a .nil
    | cons b r =>
      cases r with
      | nil => exact .cons b (.cons a .nil)
      | cons c r => exact .cons a (.cons b (.cons c r))
theorem str_ext {a b : Str} (h : a.cps.toList = b.cps.toList) : a = b := by
  cases a
  cases b
  exact congrArg Str.mk (Array.ext' h)
end Gu
namespace Gu
open PySem PySem.Spec PyProof.Rows L2
def spRight : Sp := fun vs H Q _ => ∃ (p : Addr), vs = [.ref p] ∧ Pot H p ∧ ∀ G, Ladled p H G → Q (.bl true) G
end Gu
namespace Gu
open PySem PySem.Spec PyProof.Rows L2
def sorts : List Str := ["count", "free", "tight"]
section
variable {P : Program} {w : World} {K : PySem.W.Frag} {mg : Str → Option Value} {base : Heap} {C : Addr}
/-- Namer.__init__, Nm: what stands at a namer -/
def spNInit (C : Addr) (Nm : Hp → Addr → Str → Int → Prop) : Sp := fun vs H Q _ => ∃ (x dx : Addr) (so : Str) (w : Int), vs = [.ref x, .str so, .int w] ∧ H x = some (.ins C dx []) ∧ so ∈ sorts ∧ 6 ≤ w ∧ w ≤ 40 ∧
  ∀ (G : Hp), Nm G x so w → (∀ c o, H c = some o → c ≠ x → G c = some o) → Q .non G
def spNamesP (K : PySem.W.Frag) (Nm : Hp → Addr → Str → Int → Prop) : Sp := fun vs H Q _ => ∃ (x l : Addr) (so : Str) (w : Int) (ts : List Str), vs = [.ref x, .ref l] ∧ Nm H x so w ∧ so ∈ sorts ∧ 6 ≤ w ∧ w ≤ 40 ∧ SqT K H l (ts.map V.str) ∧ ts.length ≤ 6 ∧ (∀ t ∈ ts, Wd 200 t) ∧
  ∀ (p : Addr) (G : Hp), SqT K G p ((namesOf so w ts).map V.str) → Same H G → Q (.ref p) G
theorem names_wd {so : Str} {w : Int} {ts : List Str} (l : ts.length ≤ 6) (h : ∀ t ∈ ts, Wd 200 t) : ∀ y ∈ namesOf so w ts, Wd 202 y := fun y hy => by
  obtain ⟨q, hq, rfl⟩ := List.mem_map.mp hy
  exact (pairs_wd ts (by omega) h q hq).2
theorem names_len (so : Str) (w : Int) (ts : List Str) : (namesOf so w ts).length = ts.length := by
  unfold namesOf
  rw [List.length_map, pairsOf_len]
theorem dp_strs {K : PySem.W.Frag} {H : Hp} : ∀ ys : List Str, DpAll K H (ys.map V.str) (ys.map PyData.str)
  | [] => .nil
  | y :: ys => .cons (.str y) (dp_strs ys)
theorem fine_strs {ys : List Str} (l : ys.length ≤ 100) (h : ∀ y ∈ ys, Wd 300 y) : Fine 60 100000 (.tuple (ys.map PyData.str)) := by
  have a : ∀ c ∈ abc.cps.toList, c < 16 ^ 8 := by decide +kernel
  have b : FineAll 0 300 (ys.map PyData.str) := FineAll.of fun d hd => by
    obtain ⟨y, hy, rfl⟩ := List.mem_map.mp hd
    exact Fine.str (fun c hc => a c ((h y hy).sgn c hc)) (h y hy).len
  refine b.tup.mono (by decide) ?_
  rw [List.length_map]
  have := Nat.mul_le_mul_right (300 + 1) l
  omega
/-! names are short -/
theorem wd_num {m : Nat} {so t : Str} {w k : Int} (h : Wd m (nbase w t)) (h0 : 0 ≤ k) (h1 : k < 10) : Wd (m + 2) (numbered so w t k) := by
  have a : Wd 2 (ending k) := (wd_lit (z := ("~" : String)) (n := 1) (by decide +kernel)).app (wd_digit h0 h1) (by decide)
  unfold numbered
  split
  · exact (h.cut _ _).app a (Nat.le_refl _)
  · exact h.app a (Nat.le_refl _)
theorem short_seek {m : Nat} {so t : Str} {w : Int} {ys : List Str} (h : Wd m (nbase w t)) : ∀ (k a : Nat), a + k < 8 → Wd (m + 2) (seek (cand so w t) ys k a)
  | 0, a, l => wd_num h (by omega) (by omega)
  | k + 1, a, l => by
    unfold seek
    split
    · exact short_seek h k (a + 1) (by omega)
    · exact wd_num h (by omega) (by omega)
theorem short_name {n : Nat} {so t : Str} {w : Int} {ps : List (Str × Str)} (h : Wd n t) (w0 : 0 ≤ w) (w1 : w ≤ 40) (l : ps.length ≤ 6) : Wd 42 (nameOf so w t ps) := by
  have b : Wd 40 (nbase w t) := wd_head h.sgn w0 (by omega)
  have m : (mates w t ps).length ≤ ps.length := List.length_filter_le ..
  unfold nameOf
  split
  · split
    · exact b.mono (by decide)
    · exact wd_num b (by omega) (by omega)
  · split
    · exact short_seek b _ _ (by rw [List.length_map]; omega)
    · exact b.mono (by decide)
theorem pairs_are {so : Str} {w : Int} (ts : List Str) (l : ts.length ≤ 7) : ∀ q ∈ pairsOf so w ts, ∃ ps : List (Str × Str), q.1 ∈ ts ∧ ps.length ≤ 6 ∧ q.2 = nameOf so w q.1 ps := by
  have a : ∀ (ts : List Str) (acc : List (Str × Str)) (all : List Str), acc.length + ts.length ≤ 7 → (∀ t ∈ ts, t ∈ all) → (∀ q ∈ acc, ∃ ps : List (Str × Str), q.1 ∈ all ∧ ps.length ≤ 6 ∧ q.2 = nameOf so w q.1 ps) → ∀ q ∈ ts.foldl (fun ps t => ps ++ [(t, nameOf so w t ps)]) acc, ∃ ps : List (Str × Str), q.1 ∈ all ∧ ps.length ≤ 6 ∧ q.2 = nameOf so w q.1 ps := by
    intro ts
    induction ts with
    | nil => exact fun _ _ _ _ h => h
    | cons t ts ih =>
      intro acc all l ht ha
      rw [List.length_cons] at l
      rw [List.foldl_cons]
      refine ih _ all (by rw [List.length_append, List.length_singleton]; omega) (fun x hx => ht x (List.mem_cons_of_mem _ hx)) fun q hq => ?_
      rcases List.mem_append.mp hq with hq | hq
      · exact ha q hq
      · rw [List.mem_singleton.mp hq]
        exact ⟨acc, ht t (List.mem_cons_self ..), by omega, rfl⟩
  exact a ts [] ts (by rw [List.length_nil]; omega) (fun _ h => h) fun q hq => by cases hq
theorem names_short {so : Str} {w : Int} {ts : List Str} (l : ts.length ≤ 6) (h : ∀ t ∈ ts, Wd 200 t) (w0 : 0 ≤ w) (w1 : w ≤ 40) : ∀ y ∈ namesOf so w ts, Wd 42 y := fun y hy => by
  obtain ⟨q, hq, rfl⟩ := List.mem_map.mp hy
  obtain ⟨ps, h1, h2, h3⟩ := pairs_are ts (by omega) q hq
  rw [h3]
  exact short_name (h _ h1) w0 w1 h2
end
end Gu
namespace Gu
open PySem PySem.Spec PyProof.Rows L2
theorem yes {σ : L2.St} {H : Hp} {Q : Bool → Hp → Prop} (h : Q true H) : tYes σ H Q := h
end Gu
namespace Gu
open PySem PySem.Spec PyProof.Rows L2
/-! ### is_integer, is_text -/
/-- isinstance(x, T) is b -/
def Isa (K : PySem.W.Frag) (H : Hp) (x : V) (T : String) (b : Bool) : Prop := ∃ t, TyX K H x t ∧ PySem.W.kitOne K t (.type T) = some b
def signs : Str := ".0123456789abcdefghijklmnopqrstuvwxyz~"
def isTxt (z : Str) (m : Int) : Bool := decide ((z.length : Int) ≤ m) && z.cps.toList.all fun c => decide (c ∈ signs.cps.toList)
section
variable {P : Program} {w : World} {K : PySem.W.Frag} {mg : Str → Option Value} {base : Heap}
theorem Isa.int_int {H : Hp} {i : Int} : Isa K H (.int i) "int" true := ⟨_, .base (.int i), kit_ty (by decide +kernel)⟩
theorem Isa.int_bool {H : Hp} {i : Int} : Isa K H (.int i) "bool" false := ⟨_, .base (.int i), kit_ty (by decide +kernel)⟩
theorem Isa.str_str {H : Hp} {z : Str} : Isa K H (.str z) "str" true := ⟨_, .base (.str z), kit_ty (by decide +kernel)⟩
def spIsInteger (K : PySem.W.Frag) : Sp := fun vs H Q _ => ∃ (x : V) (a b : Int), vs = [x, .int a, .int b] ∧
  ((∃ v, x = .int v ∧ Q (.bl (decide (a ≤ v ∧ v ≤ b))) H) ∨ (Isa K H x "int" false ∧ Q (.bl false) H) ∨ (Isa K H x "int" true ∧ Isa K H x "bool" true ∧ Q (.bl false) H))
theorem cal_isInteger (B : Bi mg) (D : At K mg "is_integer" s_is_integer ps_is_integer) : Cal P w K mg base 1 "is_integer" ps_is_integer (spIsInteger K) := by
  refine D.cal sc_is_integer (fun vs H Q E h => ?_) (fun f cdv A outer s H vs Q E hr h => ?_)
  · obtain ⟨x, a, b, rfl, _⟩ := h
    rfl
  · obtain ⟨x, a, b, rfl, h⟩ := h
    refine ⟨_, (pss_cons (ps_if (PW.pt (pw_or (pt_not (pt_val (pe_callB call_isi (by rfl) B.isinstance (by decide +kernel) (pa_cons (pv 0) (pa_cons (pe_bltn (v := .ty "int") (by rfl) B.int (by decide +kernel) rfl) pa_nil))))) (pw_or1 (pt_val (pe_callB call_isi (by rfl) B.isinstance (by decide +kernel) (pa_cons (pv 0) (pa_cons (pe_bltn (v := .ty "bool") (by rfl) B.bool (by decide +kernel) rfl) pa_nil))))))) (pss_one (ps_ret pe_bl)) pss_nil)
      (pss_one (ps_ret (pe_chain op_le op_le (pv 1) (pv 0) (pv 2))))), ?_⟩
    rcases h with ⟨v, rfl, k⟩ | ⟨⟨t, i1, i2⟩, k⟩ | ⟨⟨t, i1, i2⟩, ⟨t', j1, j2⟩, k⟩
    · obtain ⟨t, i1, i2⟩ := Isa.int_int (K := K) (H := H) (i := v)
      obtain ⟨t', j1, j2⟩ := Isa.int_bool (K := K) (H := H) (i := v)
      refine ⟨_, rfl, _, _, t, _, true, rfl, .ty _, i1, i2, _, rfl, iteF ⟨_, rfl, _, _, t', _, false, rfl, .ty _, j1, j2, _, rfl, iteF ?_⟩⟩
      refine ⟨_, rfl, _, rfl, _, _, rfl, rfl, _, rfl, ?_⟩
      by_cases e1 : a ≤ v
      · rw [decide_eq_true e1]
        refine iteT ⟨_, rfl, _, _, rfl, rfl, ?_⟩
        have e : decide (a ≤ v ∧ v ≤ b) = decide (v ≤ b) := by simp only [e1, true_and]
        rw [e] at k
        exact k
      · rw [decide_eq_false e1]
        refine iteF ?_
        have e : decide (a ≤ v ∧ v ≤ b) = false := by simp only [e1, false_and, decide_false]
        rw [e] at k
        exact k
    · refine ⟨_, rfl, _, _, t, _, false, rfl, .ty _, i1, i2, _, rfl, iteT (iteT k)⟩
    · refine ⟨_, rfl, _, _, t, _, true, rfl, .ty _, i1, i2, _, rfl, iteF ⟨_, rfl, _, _, t', _, true, rfl, .ty _, j1, j2, _, rfl, iteT k⟩⟩
def spIsText (K : PySem.W.Frag) : Sp := fun vs H Q _ => ∃ (x : V) (m : Int), vs = [x, .int m] ∧
  ((∃ z : Str, x = .str z ∧ z.length ≤ 1000 ∧ ∀ G, Same H G → Q (.bl (isTxt z m)) G) ∨ (Isa K H x "str" false ∧ Q (.bl false) H))
theorem cal_isText (B : Bi mg) (D : At K mg "is_text" s_is_text ps_is_text) : Cal P w K mg base 1 "is_text" ps_is_text (spIsText K) := by
  refine D.cal sc_is_text (fun vs H Q E h => ?_) (fun f cdv A outer s H vs Q E hr h => ?_)
  · obtain ⟨x, m, rfl, _⟩ := h
    rfl
  · obtain ⟨x, m, rfl, h⟩ := h
    refine ⟨_, (pss_cons (ps_if (PW.pt (pw_or (pt_not (pt_val (pe_callB call_isi (by rfl) B.isinstance (by decide +kernel) (pa_cons (pv 0) (pa_cons (pe_bltn (v := .ty "str") (by rfl) B.str (by decide +kernel) rfl) pa_nil))))) (pw_or1 (pt_cmpR op_gt (pe_callB call_len (by rfl) B.len (by decide +kernel) (pa_cons (pv 0) pa_nil)) (pv 1) (nomark _))))) (pss_one (ps_ret pe_bl)) pss_nil)
      (pss_one (ps_ret (pe_callB (cr_all rfl) (by rfl) B.all (by decide +kernel) (pa_cons (pe_lc (own := [("character", 2)]) (by rfl) sc_is_text.nd (pi_str (pv 0)) (blkOk_by (own := [("character", 2)]) (N := ["value", "most", "character"]) (sc := defScope s_is_text) (by decide +kernel)) (fun _ _ _ _ _ => pg_name (i := 2) sc_is_text.nd rfl (.inl rfl)) (fun _ _ _ _ _ => pts_nil) (fun _ _ _ _ _ => (pe_cmpR op_in_sign (pv 2) (pe_cst B.SIGNS (by rfl)) (by rfl)))) pa_nil))))), ?_⟩
    rcases h with ⟨z, rfl, zl, k⟩ | ⟨⟨t, i1, i2⟩, k⟩
    · obtain ⟨t, i1, i2⟩ := Isa.str_str (K := K) (H := H) (z := z)
      refine ⟨_, rfl, _, _, t, _, true, rfl, .ty _, i1, i2, _, rfl, iteF ⟨_, rfl, _, _, rfl, ⟨Nat.le_of_lt (small1000 zl), rfl⟩, _, rfl, _, _, rfl, rfl, _, rfl, ite2 (fun e => ?_) (fun e => ?_)⟩⟩
      · have e1 : ¬ (z.length : Int) ≤ m := by
          have := of_decide_eq_true e
          omega
        have e2 : isTxt z m = false := by
          unfold isTxt
          rw [decide_eq_false e1, Bool.false_and]
        rw [e2] at k
        exact k H (Same.refl H)
      · have e1 : (z.length : Int) ≤ m := by
          have h2 : ¬ m < (z.length : Int) := fun h3 => e (decide_eq_true h3)
          omega
        refine ⟨_, rfl, z, rfl, fun D nD => lc_it walk_str (fun i J => Same H J ∧ J D = some (.lst (((z.cps.toList.take i).map fun c => decide (c ∈ signs.cps.toList)).map V.bl)))
          ⟨same_new nD, by rw [upd_same]; rfl⟩ (fun _ _ _ _ => trivial) ?_ ?_⟩
        · rintro i v J _ hi ⟨sJ, eJ⟩ ⟨rfl, c, hc, rfl⟩
          refine ⟨rfl, yes (iteT ?_)⟩
          refine ⟨_, rfl, c, signs, rfl, rfl, _, eJ, small1000 ?_, ?_, ?_⟩
          · rw [List.length_map, List.length_map, List.length_take]
            have : z.length = z.cps.toList.length := rfl
            omega
          · exact fun b o e => by
              rw [upd_ne (ne_of_none e nD)]
              exact sJ b o e
          · rw [upd_same]
            have hc' : z.cps.toList[i]? = some c := by
              rw [← Array.getElem?_toList] at hc
              exact hc
            rw [List.take_add_one, hc', List.map_append, List.map_append]
            rfl
        · rintro J ⟨sJ, eJ⟩
          refine ⟨D, ((z.cps.toList.take z.cps.size).map fun c => decide (c ∈ signs.cps.toList)), rfl, .inl (.inl eJ), ?_⟩
          have e2 : ((z.cps.toList.take z.cps.size).map fun c => decide (c ∈ signs.cps.toList)).all id = isTxt z m := by
            unfold isTxt
            rw [decide_eq_true e1, Bool.true_and, List.take_of_length_le (show z.cps.toList.length ≤ z.cps.size from Nat.le_refl _), List.all_map]
            rfl
          rw [e2]
          exact k J sJ
    · refine ⟨_, rfl, _, _, t, _, false, rfl, .ty _, i1, i2, _, rfl, iteT (iteT k)⟩
end
end Gu
namespace Gu
open PySem PySem.Spec PyProof.Rows L2
/-! ### is_tuple -/
theorem isaTupP {K : PySem.W.Frag} {H : Hp} {l : Addr} {xs : List V} (h : SqT K H l xs) : Isa K H (.ref l) "tuple" true := by
  rcases h with (h | ⟨o, h⟩) | ⟨o, its, n, e, c, _⟩
  · exact ⟨_, .base (.tup h), kit_ty (by decide +kernel)⟩
  · exact ⟨_, .fTuple h, kit_ty (by decide +kernel)⟩
  · exact ⟨_, .kTuple e c, kit_ty (by decide +kernel)⟩
section
variable {P : Program} {w : World} {K : PySem.W.Frag} {mg : Str → Option Value} {base : Heap} {C : Addr}
def spIsTuple (K : PySem.W.Frag) : Sp := fun vs H Q _ => ∃ (x : V) (a b : Int), vs = [x, .int a, .int b] ∧
  ((∃ (l : Addr) (xs : List V), x = .ref l ∧ SqT K H l xs ∧ Q (.bl (decide (a ≤ (xs.length : Int) ∧ (xs.length : Int) ≤ b))) H) ∨ (Isa K H x "tuple" false ∧ Q (.bl false) H))
theorem cal_isTuple (B : Bi mg) (D : At K mg "is_tuple" s_is_tuple ps_is_tuple) : Cal P w K mg base 1 "is_tuple" ps_is_tuple (spIsTuple K) := by
  refine D.cal sc_is_tuple (fun vs H Q E h => ?_) (fun f cdv A outer s H vs Q E hr h => ?_)
  · obtain ⟨x, a, b, rfl, _⟩ := h
    rfl
  · obtain ⟨x, a, b, rfl, h⟩ := h
    refine ⟨_, (pss_one (ps_ret (pe_and (pe_callB call_isi (by rfl) B.isinstance (by decide +kernel) (pa_cons (pv 0) (pa_cons (pe_bltn (v := .ty "tuple") (by rfl) B.tuple (by decide +kernel) rfl) pa_nil))) (pe_one (pe_chain op_le op_le (pv 1) (pe_callB call_len (by rfl) B.len (by decide +kernel) (pa_cons (pv 0) pa_nil)) (pv 2)))))), ?_⟩
    rcases h with ⟨l, xs, rfl, hT, k⟩ | ⟨⟨t, i1, i2⟩, k⟩
    · obtain ⟨t, i1, i2⟩ := isaTupP hT
      refine ⟨_, rfl, _, _, t, _, true, rfl, .ty _, i1, i2, _, rfl, iteT ?_⟩
      refine ⟨_, rfl, _, rfl, _, _, rfl, .inr ⟨_, hT, rfl⟩, _, _, rfl, rfl, _, rfl, ?_⟩
      by_cases e1 : a ≤ (xs.length : Int)
      · rw [decide_eq_true e1]
        refine iteT ⟨_, rfl, _, _, rfl, rfl, ?_⟩
        have e : decide (a ≤ (xs.length : Int) ∧ (xs.length : Int) ≤ b) = decide ((xs.length : Int) ≤ b) := by simp only [e1, true_and]
        rw [e] at k
        exact k
      · rw [decide_eq_false e1]
        refine iteF ?_
        have e : decide (a ≤ (xs.length : Int) ∧ (xs.length : Int) ≤ b) = false := by simp only [e1, false_and, decide_false]
        rw [e] at k
        exact k
    · exact ⟨_, rfl, _, _, t, _, false, rfl, .ty _, i1, i2, _, rfl, iteF k⟩
end
end Gu
namespace PySem
open Sem (wp)
open AutoSeq1 (wpAny_loadPart')
theorem gu_new_enum (a : Addr) (vs : Array Value) (n : Nat) (dt : Option Addr) (sl : Array (Option Value)) : Meets (Builtin.«enumerate.__new__» ⟨[.type "enumerate", .ref a], []⟩) (fun _ R s =>
    s.heap.get? a = some ⟨.type "tuple", dt, .seq vs n, sl⟩ ∧ R (.ok (.ret (.ref (s.heap.push { cls := .type "tuple_iterator", data := .fields #[.ref a, .int 0 0] }).objs.size))) { s with heap := (s.heap.push { cls := .type "tuple_iterator", data := .fields #[.ref a, .int 0 0] }).push { cls := .type "enumerate", data := .fields #[.none, .bool false, .ref s.heap.objs.size, rawInt 0, .none, .none] } }) :=
  .of_wp fun prog w A R s h => by
    obtain ⟨s1, s2, s3, s4, s5⟩ := s
    obtain ⟨ha, h⟩ := h
    have sb := sub_enumerate
    have hT : Heap.IsTuple (Shared.heap ⟨s1, s2, s3, s4, s5⟩) a vs := ⟨_, ha, rfl, n, rfl⟩
    wp_walk using wpAny_loadPart' ha
    refine wpAny_stack_any fun fr => wpAny_pure ?_
    split
    · next c _ _ _ _ _ =>
      cases (c == Value.type "enumerate") <;> (wp_walk using wpAny_loadPart' ha, wpAny_pyIter_tuple hT; exact ⟨_, rfl, h⟩)
    · wp_walk using wpAny_loadPart' ha, wpAny_pyIter_tuple hT
      exact ⟨_, rfl, h⟩
section
variable {prog : Program} {w : World} {A : Around} {E : Value → Shared → Prop} {s : Shared}
theorem gu_call_enum {a : Addr} {vs : Array Value} {Q : Value → Shared → Prop} (hT : s.heap.IsTuple a vs)
    (h : ∀ g, IsEnum g (s.heap.objs.size + 1) s.heap.objs.size 0 .none → g.IsTupleIter s.heap.objs.size a 0 → (∀ b o, s.heap.get? b = some o → g.get? b = some o) → Q (.ref (s.heap.objs.size + 1)) { s with heap := g }) :
    wpAny (model prog w) A (call (.type "enumerate") [.ref a]) Q E s := by
  obtain ⟨⟨oc, od, dd, sl⟩, ha, hc, n, hd⟩ := hT
  cases (show oc = .type "tuple" from hc)
  cases (show dd = .seq vs n from hd)
  refine callType_new F.called_enumerate (by decide) (F.typeCall_enumerate_1 _) (F.newCall_enumerate_1 _) (fun o => F.args_object_init_2 o _) F.entry_enumerate_new (gu_new_enum a vs n od sl) ⟨ha, ?_⟩
  have z1 : (s.heap.push { cls := .type "tuple_iterator", data := .fields #[.ref a, .int 0 0] }).objs.size = s.heap.objs.size + 1 := Heap.size_push ..
  show _ ∧ _
  rw [z1]
  have en : IsEnum ((s.heap.push { cls := .type "tuple_iterator", data := .fields #[.ref a, .int 0 0] }).push { cls := .type "enumerate", data := .fields #[.none, .bool false, .ref s.heap.objs.size, rawInt 0, .none, .none] }) (s.heap.objs.size + 1) s.heap.objs.size 0 .none := by
    have q := Heap.get?_push_size (s.heap.push { cls := .type "tuple_iterator", data := .fields #[.ref a, .int 0 0] }) (o := { cls := .type "enumerate", data := .fields #[.none, .bool false, .ref s.heap.objs.size, rawInt 0, .none, .none] }) rfl
    rw [z1] at q
    exact q
  exact ⟨⟨_, en, rfl⟩, h _ en ⟨_, Heap.get?_push_of_some _ (Heap.get?_push_size _ rfl), rfl, rfl⟩ fun b o x => Heap.get?_push_of_some _ (Heap.get?_push_of_some _ x)⟩
end
end PySem
namespace Gu
open PySem PySem.Spec PyProof.Rows L2
/-- the tuple at a, each item in a new pair with its place -/
def EnT (K : PySem.W.Frag) (a : Addr) : It where
  go := fun i H => ∃ (xs : List V) (x : V), SqT K H a xs ∧ xs[i]? = some x
  yld := fun i H v G => ∃ T x, v = .ref T ∧ H T = none ∧ G = upd H T (.tup [.int (i : Nat), x]) ∧ ∀ xs, SqT K H a xs → xs[i]? = some x
  stop := fun i H => ∃ xs : List V, SqT K H a xs ∧ xs.length = i
theorem turn_enT {P : Program} {w : World} {K : PySem.W.Frag} {es : List Expr} {kk : Nat} {tp : Pos} (a e it : Addr) :
    Turn P w K (.Tuple es kk tp) (EnT K a) [e, it] e (fun i h => (∃ old, IsEnum h e it ((i : Nat) : Int) old) ∧ h.IsTupleIter it a i ∧ e ≠ it) where
  mem := List.mem_cons_self ..
  obj := fun i h st b hb => by
    obtain ⟨⟨old, he⟩, ⟨o, ho, hc, hd⟩, _⟩ := st
    simp only [List.mem_cons, List.not_mem_nil, or_false] at hb
    rcases hb with rfl | rfl
    · exact ⟨_, he, fun v q => nomatch q⟩
    · exact ⟨o, ho, fun v q => by rw [hd] at q; cases q⟩
  keep := fun i h g st k => by
    obtain ⟨⟨old, he⟩, hi, ne⟩ := st
    exact ⟨⟨old, k e (by simp) _ he⟩, hi.at fun o q => k it (by simp) o q, ne⟩
  item := by
    intro X hP hw hK hc i pins s σ H E I hf st hg
    subst hP hw hK
    obtain ⟨⟨old, he⟩, hit, ne⟩ := st
    obtain ⟨xs, x, hq, hx⟩ := hg
    obtain ⟨its, rv, tp, hz⟩ := I.tuple hq
    obtain ⟨u, hu, ru⟩ := rv.get hx
    have el : e < s.heap.objs.size := Heap.lt_size he
    have il : it < s.heap.objs.size := by
      obtain ⟨_, q, _⟩ := hit
      exact Heap.lt_size q
    have tp' : s.heap.IsTuple a its.toArray := tp
    have nai : a ≠ it := fun z => by
      obtain ⟨o1, g1, c1, _⟩ := tp'
      obtain ⟨o2, g2, c2, _⟩ := hit
      rw [z] at g1
      cases g1.symm.trans g2
      exact absurd (Value.type.inj (c1.symm.trans c2)) (by decide)
    have nea : e ≠ a := fun z => by
      obtain ⟨o1, g1, c1, _⟩ := tp'
      have g2 := he
      rw [z] at g2
      cases g1.symm.trans g2
      exact absurd (Value.type.inj c1) (by decide)
    have hd : X.A.in1.handled = none := I.ok.hd hc
    refine wpAny_pyNext_enum_itemD (Draws.tuple hd it a nai its.toArray) he ⟨hit, tp'⟩ (i := i) (by
      have := (List.getElem?_eq_some_iff.mp hu).1
      simpa using this) ne (by simp [ne, nea]) fun y g tk hy ho st' hT hsz hk => ?_
    have ey : y = u := by
      have : its[i]? = some y := by simpa using hy
      rw [hu] at this
      exact (Option.some.inj this).symm
    subst ey
    refine ⟨_, rfl, wpAny_letOwnedTupleGo_enum (s := { s with heap := g, toks := tk + 1 }) ho fun g2 he' sb => ?_⟩
    have hT2 : g2.get? s.heap.objs.size = some { cls := .type "tuple", data := .seq #[.int i tk, y] } := (sb.2 _ (Nat.ne_of_gt el)).trans hT
    have nw : ObjOk X.prog X.w (upd H s.heap.objs.size (.tup [.int (i : Nat), x])) g2 s.heap.objs.size (.tup [.int (i : Nat), x]) := ⟨by show 2 ≤ sizeLine; decide, [.int i tk, y], .cons ⟨_, rfl⟩ (.cons ru .nil), ⟨_, hT2, rfl, _, rfl⟩⟩
    have I1 : Inv X pins σ (upd H s.heap.objs.size (.tup [.int (i : Nat), x])) { s with heap := g2, toks := tk + 1 } :=
      I.turnedNew (ch := [e, it]) (fun b ob hb q => (sb.2 b (fun z => hb (by simp [z]))).trans (hk b ob (fun z => hb (by simp [z])) (fun z => hb (by simp [z])) q)) hf (Nat.le_refl _) nw
    refine ⟨.ref s.heap.objs.size, _, I1, rfl, ⟨_, x, rfl, I.hok.fresh (Nat.le_refl _), rfl, fun ys hy => by rw [I.tuple_inj hy hq]; exact hx⟩, ⟨⟨y, ?_⟩, st'.1.at fun o q => (sb.2 it (Ne.symm ne)).trans q, ne⟩, fun b hb => ?_⟩
    · rw [show ((i + 1 : Nat) : Int) = (i : Int) + 1 by omega]
      exact he'
    · have hb' : b < s.heap.objs.size := by
        simp only [List.mem_cons, List.not_mem_nil, or_false] at hb
        rcases hb with rfl | rfl
        · exact el
        · exact il
      rw [upd_ne (Nat.ne_of_lt hb')]
      exact (hf b hb).1
  done := by
    intro X hP hw hK hc i pins s σ H E I hf st hg
    subst hP hw hK
    obtain ⟨⟨old, he⟩, hit, ne⟩ := st
    obtain ⟨xs, hq, hx⟩ := hg
    obtain ⟨its, rv, tp, hz⟩ := I.tuple hq
    have tp' : s.heap.IsTuple a its.toArray := tp
    have nai : a ≠ it := fun z => by
      obtain ⟨o1, g1, c1, _⟩ := tp'
      obtain ⟨o2, g2, c2, _⟩ := hit
      rw [z] at g1
      cases g1.symm.trans g2
      exact absurd (Value.type.inj (c1.symm.trans c2)) (by decide)
    have hd : X.A.in1.handled = none := I.ok.hd hc
    have en : its.toArray.size = i := by
      have := rv.length
      simp only [List.size_toArray]
      omega
    obtain ⟨f0, f1, f2, f3, f4, f5⟩ := hf it (by simp)
    exact wpAny_pyNext_enum_endD (Draws.tuple hd it a nai its.toArray) he ⟨by rw [en]; exact hit, tp'⟩ fun g eb => ⟨rfl, I.turned (t' := s.toks) (fun b o hb q => eb b o hb q) f0 f1 f3 f4 f5⟩
  self := fun A i s Q E st h => by
    obtain ⟨⟨_, he⟩, _⟩ := st
    exact wpAny_pyIter_enum he h
def iEnT (K : PySem.W.Frag) (ta : TA) : TI := fun σ H R => ta σ H fun vs G => ∃ a xs, vs = [.ref a] ∧ SqT K G a xs ∧ R (EnT K a) G
theorem pi_enT {X : Cx} {e : Expr} {ta : TA} {p pos tp : Pos} {es : List Expr} {kk : Nat} (hg : Gl X "enumerate") (hm : X.mg "enumerate" = none) (ha : PA X [e] ta) (hs : starEach [e] X.env = [(false, eval e X.env)] := by rfl) :
    PI X (.Tuple es kk tp) (.Call (.Name "enumerate" p) [e] [] pos) (iEnT X.K ta) := by
  refine ⟨fun pins s σ H R I h => ?_⟩
  refine Call_ (ld_blt I hg hm boot_enumerate (PyProof.Rows.callWith_type1 (thn (ha.run pos pins s σ H _ I h) fun us s1 ⟨vs, G, I1, r1, q1⟩ => ?_) hs rfl))
  obtain ⟨a, xs, ex, hq, q⟩ := q1
  subst ex
  cases r1 with
  | cons r rr =>
    cases rr
    cases r
    obtain ⟨its, rv, tq, hz⟩ := I1.tuple hq
    refine gu_call_enum (show s1.heap.IsTuple a its.toArray from tq) fun g he hit hk => wpAny_pyIter_enum he ?_
    have I2 : Inv X pins σ G { s1 with heap := g } := I1.kept (t' := s1.toks) hk
    refine ⟨s1.heap.objs.size + 1, [s1.heap.objs.size + 1, s1.heap.objs.size], _, _, G, rfl, I2, turn_enT a (s1.heap.objs.size + 1) s1.heap.objs.size, ⟨⟨.none, he⟩, hit, Nat.succ_ne_self _⟩, fun b hb => ?_, q⟩
    have le : s1.heap.objs.size ≤ b := by
      simp only [List.mem_cons, List.not_mem_nil, or_false] at hb
      rcases hb with rfl | rfl
      · exact Nat.le_add_right _ _
      · exact Nat.le_refl _
    exact I1.fpOk le (I1.hok.fresh le)
/-- the walk of such a loop: a new pair each turn -/
theorem walk_enT {K : PySem.W.Frag} {a : Addr} {xs : List V} : Walk (EnT K a) xs.length (fun H => SqT K H a xs) (fun i H v G => ∃ T x, xs[i]? = some x ∧ v = .ref T ∧ H T = none ∧ G = upd H T (.tup [.int (i : Nat), x])) where
  goes := fun i H hi h => ⟨xs, xs[i], h, List.getElem?_eq_getElem hi⟩
  stops := fun H h => ⟨xs, h, rfl⟩
  yields := fun i H v G hi h ⟨T, x, e1, e2, e3, e4⟩ => ⟨T, x, e4 xs h, e1, e2, e3⟩
end Gu
namespace Gu
open PySem PySem.Spec PyProof.Rows L2
/-! ### the class Namer, its __init__ -/
def nflds (so : Str) (w : Int) : List (Str × V) := putF "width" (.int w) (putF "rule" (.str so) [])
theorem nflds_rule (so : Str) (w : Int) : (nflds so w).lookup ("rule" : Str) = some (.str so) := by
  unfold nflds
  rw [lookup_putF, if_neg (by decide +kernel), lookup_putF, if_pos rfl]
theorem nflds_width (so : Str) (w : Int) : (nflds so w).lookup ("width" : Str) = some (.int w) := by
  unfold nflds
  rw [lookup_putF, if_pos rfl]
/-- what stands at a namer -/
def NmAt (C : Addr) (H : Hp) (x : Addr) (so : Str) (w : Int) : Prop := ∃ dx, H x = some (.ins C dx (nflds so w))
theorem NmAt.same {C : Addr} {H G : Hp} {x : Addr} {so : Str} {w : Int} (s : Same H G) (h : NmAt C H x so w) : NmAt C G x so w := by
  obtain ⟨dx, e⟩ := h
  exact ⟨dx, s _ _ e⟩
structure NmC (K : PySem.W.Frag) (mg : Str → Option Value) (C : Addr) : Prop where
  cl : Cls K C
  nR : NoAttr K C "rule"
  nW : NoAttr K C "width"
  g : mg "Namer" = some (.ref C)
  ha : PySem.W.findIn K (.ref C) "__class__" = some (some (.builtin "object.__class__"))
  hn : PySem.W.specialIn K (.builtin "object.__class__") "__get__" = some (some (.builtin "getset_descriptor.__get__"))
  ht : PySem.W.takesIn K (.builtin "object.__class__") = some true
  hm : PySem.W.mroIn K C (.type "object") = some true
  kk : PySem.W.kitOne K (.ref C) (.ref C) = some true
  rules : ∃ T, mg "RULES" = some (.ref T) ∧ ∀ H : Hp, SqT K H T (sorts.map V.str)
structure NInitAt (K : PySem.W.Frag) (C : Addr) : Prop where
  ex : ∃ (f : Addr) (fd : FuncData), Mk K C f ∧ Fun K "__init__" "Namer.__init__" s_Namer_init f fd ∧ Binds K fd ps_Namer_init []
section
variable {P : Program} {w : World} {K : PySem.W.Frag} {mg : Str → Option Value} {base : Heap} {C : Addr}
theorem ok_ninit {f : Addr} {fd : FuncData} (B : Bi mg) (S : NmC K mg C) (F : Fun K "__init__" "Namer.__init__" s_Namer_init f fd) (C_is_integer : Cal P w K mg base 1 "is_integer" ps_is_integer (spIsInteger K)) : FnOk P w K mg base CX0 2 f fd ps_Namer_init (spNInit C (NmAt C)) := by
  refine F.ok sc_Namer_init (fun vs H Q E h => ?_) (fun cdv A outer s H vs Q E hr h => ?_)
  · obtain ⟨x, dx, so, w, rfl, _⟩ := h
    rfl
  · obtain ⟨x, dx, so, w, rfl, hx, hso, w0, w1, k⟩ := h
    obtain ⟨T, gT, hT⟩ := S.rules
    refine ⟨_, (pss_cons (ps_if (PW.pt (pw_or (pt_not (pt_val (pe_callB call_isi (by rfl) B.isinstance (by decide +kernel) (pa_cons (pv 1) (pa_cons (pe_bltn (v := .ty "str") (by rfl) B.str (by decide +kernel) rfl) pa_nil))))) (pw_or1 (pt_cmpR op_notIn_seq (pv 1) (pe_glob (v := .ref T) (by rfl) gT rfl) (by rfl))))) pss_never pss_nil)
      (pss_cons (ps_if (pt_not (pt_val (pe_own C_is_integer hr (by decide) (by rfl) (pa_cons (pv 2) (pa_cons (pe_cst B.LEAST_WIDTH (by rfl)) (pa_cons (pe_cst B.MOST_SIGNS (by rfl)) pa_nil)))))) pss_never pss_nil)
      (pss_cons (ps_fld (pv 0) (pv 1) rfl)
      (pss_one (ps_fld (pv 0) (pv 2) rfl))))), ?_⟩
    obtain ⟨t, i1, i2⟩ := Isa.str_str (K := K) (H := H) (z := so)
    refine ⟨_, rfl, _, _, t, _, true, rfl, .ty _, i1, i2, _, rfl, iteF ?_⟩
    refine ⟨_, rfl, T, _, rfl, .inr (hT H), rfl, flat_strs sorts, _, rfl, ?_⟩
    rw [in_strs so sorts, decide_eq_true hso]
    refine iteF ?_
    refine ⟨_, rfl, _, _, _, rfl, .inl ⟨_, rfl, _, rfl, ?_⟩⟩
    rw [decide_eq_true ⟨w0, w1⟩]
    refine iteF ?_
    refine ⟨_, rfl, _, rfl, x, C, dx, [], rfl, hx, S.cl, S.nR, by decide, ?_⟩
    refine ⟨_, rfl, _, rfl, x, C, dx, _, rfl, upd_same, S.cl, S.nW, by exact Nat.lt_of_le_of_lt (length_putF _ _ _) (by decide), ?_⟩
    rw [upd_upd]
    refine k _ ⟨dx, upd_same⟩ fun c o e nc => ?_
    rw [upd_ne nc]
    exact e
theorem mak_nm (B : Bi mg) (S : NmC K mg C) (D : NInitAt K C) (C_is_integer : Cal P w K mg base 1 "is_integer" ps_is_integer (spIsInteger K)) : Mak P w K mg base 2 "Namer" C (spNInit C (NmAt C)) := by
  obtain ⟨f, fd, M, F, b⟩ := D.ex
  exact ⟨f, fd, ps_Namer_init, M, ok_ninit B S F C_is_integer, S.g, b⟩
end
end Gu
namespace Gu
open PySem PySem.Spec PyProof.Rows L2
/-! ### the program: names -/
section
variable {P : Program} {w : World} {K : PySem.W.Frag} {mg : Str → Option Value} {base : Heap} {C : Addr}
/-! texts that are as they should be -/
theorem wd_isTxt {n : Nat} {z : Str} (h : Wd n z) : isTxt z n = true := by
  have e : z.length = z.cps.toList.length := rfl
  have l := h.len
  unfold isTxt
  rw [decide_eq_true (by omega), Bool.true_and, List.all_eq_true]
  exact fun c hc => decide_eq_true (h.sgn c hc)
theorem atP_strs {ts : List Str} {i : Nat} {v : V} (hi : (ts.map V.str)[i]? = some v) : ∃ t, ts[i]? = some t ∧ v = .str t ∧ t ∈ ts := by
  rw [List.getElem?_map] at hi
  cases e : ts[i]? with
  | none =>
    rw [e] at hi
    cases hi
  | some t =>
    rw [e] at hi
    exact ⟨t, rfl, (Option.some.inj hi).symm, List.mem_of_getElem? e⟩
def spCheckTexts (K : PySem.W.Frag) : Sp := fun vs H Q _ => ∃ (l : Addr) (ts : List Str) (m : Int), vs = [.ref l, .int m] ∧ SqT K H l (ts.map V.str) ∧ (ts.length : Int) ≤ m ∧ (∀ t ∈ ts, Wd 200 t) ∧ ∀ G, Same H G → Q .non G
theorem cal_checkTexts (B : Bi mg) (D : At K mg "check_texts" s_check_texts ps_check_texts) (C_is_tuple : Cal P w K mg base 1 "is_tuple" ps_is_tuple (spIsTuple K)) (C_is_text : Cal P w K mg base 1 "is_text" ps_is_text (spIsText K)) : Cal P w K mg base 2 "check_texts" ps_check_texts (spCheckTexts K) := by
  refine D.cal sc_check_texts (fun vs H Q E h => ?_) (fun f cdv A outer s H vs Q E hr h => ?_)
  · obtain ⟨l, ts, m, rfl, _⟩ := h
    rfl
  · obtain ⟨l, ts, m, rfl, hl, tm, wt, k⟩ := h
    refine ⟨_, (pss_cons (ps_if (pt_not (pt_val (pe_own C_is_tuple hr (by decide) (by rfl) (pa_cons (pv 0) (pa_cons pe_int (pa_cons (pv 1) pa_nil)))))) pss_never pss_nil)
      (pss_one (ps_for PassesOwn.never rfl (pi_enT (by rfl) B.enumerate (pa_cons (pv 0) pa_nil)) (pg_tup rfl (pgs_cons (pg_name (i := 2) sc_check_texts.nd rfl (.inl rfl)) (pgs_cons (pg_name (i := 3) sc_check_texts.nd rfl (.inl rfl)) pgs_nil)))
      (pss_one (ps_if (pt_not (pt_val (pe_own C_is_text hr (by decide) (by rfl) (pa_cons (pv 3) (pa_cons (pe_cst B.MOST_TEXT (by rfl)) pa_nil))))) pss_never pss_nil))))), ?_⟩
    refine ⟨_, rfl, _, rfl, _, _, _, rfl, .inl ⟨l, _, rfl, hl, _, rfl, ?_⟩⟩
    rw [decide_eq_true (show (0 : Int) ≤ ((ts.map V.str).length : Int) ∧ ((ts.map V.str).length : Int) ≤ m by rw [List.length_map]; omega)]
    refine iteF ⟨_, rfl, l, _, rfl, hl, for_it walk_enT (fun i σ J => ∃ u v, σ = [some (.ref l), some (.int m), u, v] ∧ Same H J) ⟨none, none, rfl, Same.refl H⟩ (fun i σ J _ ⟨_, _, _, sJ⟩ => st_same sJ hl) ?_ ?_⟩
    · rintro i v σ J J1 hi ⟨u, v2, rfl, sJ⟩ ⟨T, x, hx, rfl, nT, rfl⟩
      obtain ⟨t, ht, rfl, mt⟩ := atP_strs hx
      have sT : Same H (upd J T (.tup [.int (i : Nat), .str t])) := sJ.trans (same_new nT)
      have tl : t.length ≤ 200 := (wt t mt).len
      refine ⟨T, _, rfl, .inl (.inl upd_same), rfl, _, _, rfl, _, _, rfl, rfl, ?_⟩
      refine ⟨_, rfl, _, _, rfl, .inl ⟨t, rfl, by omega, fun G sG => ⟨_, rfl, ?_⟩⟩⟩
      rw [show isTxt t 200 = true from wd_isTxt (wt t mt)]
      exact iteF ⟨_, _, rfl, sT.trans sG⟩
    · rintro σ J ⟨u, v, rfl, sJ⟩
      exact k J sJ
def spCheckNamer (C : Addr) : Sp := fun vs H Q _ => ∃ (x : Addr) (so : Str) (w : Int), vs = [.ref x] ∧ NmAt C H x so w ∧ Q .non H
theorem cal_checkNamer (B : Bi mg) (S : NmC K mg C) (D : At K mg "check_namer" s_check_namer ps_check_namer) : Cal P w K mg base 1 "check_namer" ps_check_namer (spCheckNamer C) := by
  refine D.cal sc_check_namer (fun vs H Q E h => ?_) (fun f cdv A outer s H vs Q E hr h => ?_)
  · obtain ⟨x, so, w, rfl, _⟩ := h
    rfl
  · obtain ⟨x, so, w, rfl, ⟨dx, e1⟩, k⟩ := h
    refine ⟨_, (pss_one (ps_if (pt_not (pt_val (pe_callB call_isi (by rfl) B.isinstance (by decide +kernel) (pa_cons (pv 0) (pa_cons (pe_glob (v := .ref C) (by rfl) S.g rfl) pa_nil))))) pss_never pss_nil)), ?_⟩
    exact ⟨_, rfl, _, _, _, _, true, rfl, .own C, .base (.ins e1 S.cl S.ha S.hn S.ht S.hm), S.kk, _, rfl, iteF k⟩
def spBaseOf (C : Addr) : Sp := fun vs H Q _ => ∃ (x : Addr) (so : Str) (w : Int) (t : Str), vs = [.ref x, .str t] ∧ NmAt C H x so w ∧ t.length ≤ 1000 ∧ Q (.str (nbase w t)) H
theorem cal_baseOf (B : Bi mg) (S : NmC K mg C) (D : At K mg "base_of" s_base_of ps_base_of) : Cal P w K mg base 1 "base_of" ps_base_of (spBaseOf C) := by
  refine D.cal sc_base_of (fun vs H Q E h => ?_) (fun f cdv A outer s H vs Q E hr h => ?_)
  · obtain ⟨x, so, w, t, rfl, _⟩ := h
    rfl
  · obtain ⟨x, so, w, t, rfl, ⟨dx, e1⟩, tl, k⟩ := h
    refine ⟨_, (pss_one (ps_ret (pe_slice sl_str (pv 1) po_none (po_some (pe_fld (pv 0) rfl))))), ?_⟩
    exact ⟨_, rfl, _, rfl, x, C, dx, _, _, rfl, e1, S.cl, S.nW, nflds_width _ _, w, rfl, t, rfl, Nat.le_of_lt (small1000 tl), k⟩
theorem cutS_allP {y : Str} {h : Int} (l : (y.length : Int) ≤ h) : cutS y none (some h) = y := by
  refine str_ext ?_
  have e : y.length = y.cps.toList.length := rfl
  rw [cutS_head y (by omega), List.take_of_length_le (by omega)]
/-- the program's way to cut the base -/
theorem numbered_tight {so : Str} {w : Int} {t : Str} {n : Int} (h : so = ("tight" : String)) : numbered so w t n = cutS (nbase w t) none (some (w - (ending n).length)) ++ ending n := by
  unfold numbered
  rw [decide_eq_true h, Bool.true_and]
  split
  · rfl
  · next e =>
    have e := of_decide_eq_false (Bool.eq_false_iff.mpr e)
    rw [cutS_allP (y := nbase w t) (by omega)]
theorem numbered_other {so : Str} {w : Int} {t : Str} {n : Int} (h : ¬ so = ("tight" : String)) : numbered so w t n = nbase w t ++ ending n := by
  unfold numbered
  rw [decide_eq_false h, Bool.false_and]
  rfl
theorem ending_is (n : Int) : Str.empty ++ (("~" : String) : Str) ++ ((toString n : String) : Str) = ending n := by
  have e : Str.empty ++ (("~" : String) : Str) = (("~" : String) : Str) := by decide +kernel
  rw [e]
  rfl
end
end Gu
namespace Gu
open PySem PySem.Spec PyProof.Rows L2
/-! ### names beside up to twenty texts -/
theorem wd_digit2 {i : Int} (h0 : 0 ≤ i) (h1 : i < 40) : Wd 2 (toString i : String) := by
  obtain ⟨k, rfl⟩ := Int.eq_ofNat_of_zero_le h0
  have a : ∀ k ∈ List.range 40, ((toString (Int.ofNat k) : String) : Str).cps.toList.length ≤ 2 ∧ ∀ c ∈ ((toString (Int.ofNat k) : String) : Str).cps.toList, c ∈ abc.cps.toList := by decide +kernel
  have b := a k (List.mem_range.mpr (by omega))
  exact ⟨b.1, b.2⟩
theorem ending_lenQ {n : Int} (h0 : 0 ≤ n) (h1 : n < 40) : (ending n).length ≤ 3 := by
  have a := (wd_digit2 h0 h1).len
  have e : (ending n).length = 1 + ((toString n : String) : Str).length := by
    show (ending n).cps.toList.length = _
    unfold ending
    rw [str_app, List.length_append]
    rfl
  rw [e]
  show 1 + ((toString n : String) : Str).cps.toList.length ≤ 3
  omega
/-- what stands behind the last ~, from the end -/
def tailQ (z : Str) : List Nat := z.cps.toList.reverse.takeWhile fun c => c != 126
theorem tail_ending (a : Str) {n : Int} (h0 : 0 ≤ n) (h1 : n < 40) : tailQ (a ++ ending n) = tailQ (ending n) := by
  obtain ⟨k, rfl⟩ := Int.eq_ofNat_of_zero_le h0
  have e : ∀ k ∈ List.range 40, ∃ d, (ending (Int.ofNat k)).cps.toList.reverse = d ++ [126] ∧ (∀ c ∈ d, (c != 126) = true) := fun k hk => by
    have x : ∀ k ∈ List.range 40, (ending (Int.ofNat k)).cps.toList.reverse = (ending (Int.ofNat k)).cps.toList.reverse.dropLast ++ [126] ∧ (∀ c ∈ (ending (Int.ofNat k)).cps.toList.reverse.dropLast, (c != 126) = true) := by decide +kernel
    exact ⟨_, x k hk⟩
  obtain ⟨d, e1, e2⟩ := e k (List.mem_range.mpr (by omega))
  have go : ∀ (d r : List Nat), (∀ c ∈ d, (c != 126) = true) → (d ++ 126 :: r).takeWhile (fun c => c != 126) = d := by
    intro d
    induction d with
    | nil => exact fun r _ => rfl
    | cons c d ih =>
      intro r h
      rw [List.cons_append, List.takeWhile_cons, h c (List.mem_cons_self ..), if_pos rfl, ih r fun x hx => h x (List.mem_cons_of_mem _ hx)]
  have e1 : (ending ((k : Nat) : Int)).cps.toList.reverse = d ++ [126] := e1
  unfold tailQ
  rw [str_app, List.reverse_append, e1, List.append_assoc]
  show (d ++ 126 :: a.cps.toList.reverse).takeWhile _ = _
  rw [go _ _ e2, go d [] e2]
theorem tail_inj : ∀ i ∈ List.range 36, ∀ j ∈ List.range 36, tailQ (ending (2 + (i : Int))) = tailQ (ending (2 + (j : Int))) → i = j := by decide +kernel
theorem cand_tail (so : Str) (w : Int) (t : Str) {i : Nat} (h : i < 36) : tailQ (cand so w t i) = tailQ (ending (2 + (i : Int))) := by
  unfold cand numbered
  split
  · exact tail_ending _ (by omega) (by omega)
  · exact tail_ending _ (by omega) (by omega)
theorem cands_nodupQ (so : Str) (w : Int) (t : Str) : ∀ n, n ≤ 36 → ((List.range n).map (cand so w t)).Nodup
  | 0, _ => List.nodup_nil
  | n + 1, h => by
    rw [List.range_succ, List.map_append]
    refine List.nodup_append.mpr ⟨cands_nodupQ so w t n (by omega), List.nodup_cons.mpr ⟨List.not_mem_nil, List.nodup_nil⟩, fun x hx y hy e => ?_⟩
    obtain ⟨i, hi, rfl⟩ := List.mem_map.mp hx
    have hi := List.mem_range.mp hi
    rw [List.mem_singleton.mp hy] at e
    have a := cand_tail so w t (i := i) (by omega)
    rw [e, cand_tail so w t (i := n) (by omega)] at a
    have := tail_inj n (List.mem_range.mpr (by omega)) i (List.mem_range.mpr (by omega)) a
    omega
theorem some_freeQ {so : Str} {w : Int} {t : Str} {ys : List Str} (h : ys.length ≤ 24) (a : ∀ j, j < ys.length + 1 → cand so w t j ∈ ys) : False := by
  have := fewer _ ys (cands_nodupQ so w t (ys.length + 1) (by omega)) fun x hx => by
    obtain ⟨i, hi, rfl⟩ := List.mem_map.mp hx
    exact a i (List.mem_range.mp hi)
  rw [List.length_map, List.length_range] at this
  omega
theorem wd_numberedQ {n : Nat} {t : Str} {so : Str} {w k : Int} (h : Wd n t) (h0 : 0 ≤ k) (h1 : k < 40) : Wd (n + 3) (numbered so w t k) := by
  have a : Wd 3 (ending k) := (wd_lit (z := ("~" : String)) (n := 1) (by decide +kernel)).app (wd_digit2 h0 h1) (by decide)
  unfold numbered
  split
  · exact ((wd_base h w).cut _ _).app a (Nat.le_refl _)
  · exact (wd_base h w).app a (Nat.le_refl _)
theorem wd_seekQ {n : Nat} {so : Str} {w : Int} {t : Str} {ys : List Str} (h : Wd n t) : ∀ (k a : Nat), a + k < 36 → Wd (n + 3) (seek (cand so w t) ys k a)
  | 0, a, l => wd_numberedQ h (by omega) (by omega)
  | k + 1, a, l => by
    unfold seek
    split
    · exact wd_seekQ h k (a + 1) (by omega)
    · exact wd_numberedQ h (by omega) (by omega)
theorem wd_nameQ {n : Nat} {so : Str} {w : Int} {t : Str} {ps : List (Str × Str)} (h : Wd n t) (l : ps.length ≤ 24) : Wd (n + 3) (nameOf so w t ps) := by
  have m : (mates w t ps).length ≤ ps.length := List.length_filter_le ..
  unfold nameOf
  split
  · split
    · exact (wd_base h w).mono (by omega)
    · exact wd_numberedQ h (by omega) (by omega)
  · split
    · exact wd_seekQ h _ _ (by rw [List.length_map]; omega)
    · exact (wd_base h w).mono (by omega)
end Gu
namespace Gu
open PySem PySem.Spec PyProof.Rows L2
section
variable {P : Program} {w : World} {K : PySem.W.Frag} {mg : Str → Option Value} {base : Heap} {C : Addr}
def spNumQ (C : Addr) : Sp := fun vs H Q _ => ∃ (x : Addr) (so : Str) (w n : Int) (t : Str), vs = [.ref x, .str (nbase w t), .int n] ∧ NmAt C H x so w ∧ 0 ≤ n ∧ n < 40 ∧ t.length ≤ 1000 ∧ Q (.str (numbered so w t n)) H
theorem cal_numQ (B : Bi mg) (S : NmC K mg C) (D : At K mg "numbered" s_numbered ps_numbered) : Cal P w K mg base 1 "numbered" ps_numbered (spNumQ C) := by
  refine D.cal sc_numbered (fun vs H Q E h => ?_) (fun f cdv A outer s H vs Q E hr h => ?_)
  · obtain ⟨x, so, w, n, t, rfl, _⟩ := h
    rfl
  · obtain ⟨x, so, w, n, t, rfl, ⟨dx, e1⟩, n0, n1, tl, k⟩ := h
    have el := ending_lenQ n0 n1
    have bl : (nbase w t).length ≤ t.length := cutS_length t none (some w)
    have s1 : (Str.empty ++ (("~" : String) : Str)).length = 1 := by decide +kernel
    refine ⟨_, (pss_cons (ps_set (i := 3) sc_numbered.nd rfl (.inl rfl) (pe_joined (.cons pe_str (.cons (pe_fmt (pv 2)) .nil))))
      (pss_cons (ps_if (pt_cmpR op_eq (pe_fld (pv 0) rfl) pe_str (nomark _)) (pss_one (ps_ret (pe_op op_add_str (pe_slice sl_str (pv 1) po_none (po_some (pe_op op_sub (pe_fld (pv 0) rfl) (pe_callB call_len (by rfl) B.len (by decide +kernel) (pa_cons (pv 3) pa_nil))))) (pv 3)))) pss_nil)
      (pss_one (ps_ret (pe_op op_add_str (pv 1) (pv 3)))))), ?_⟩
    refine ⟨_, rfl, by rw [s1]; decide, _, rfl, .inr ⟨n, rfl, log_small n0 (by omega), _, rfl, ?_, ?_⟩⟩
    · rw [ending_is]
      exact Nat.le_of_lt (small1000 (by omega))
    rw [ending_is]
    refine ⟨_, rfl, x, C, dx, _, _, rfl, e1, S.cl, S.nR, nflds_rule _ _, rfl, _, rfl, ite2 (fun h1 => ?_) (fun h1 => ?_)⟩
    · rw [str_eq_iff] at h1
      rw [numbered_tight (of_decide_eq_true h1)] at k
      refine ⟨_, rfl, _, rfl, x, C, dx, _, _, rfl, e1, S.cl, S.nW, nflds_width _ _, _, rfl, _, _, rfl, ⟨Nat.le_of_lt (small1000 (by omega)), rfl⟩, _, _, rfl, rfl, _, rfl, _, rfl, Nat.le_of_lt (small1000 (by omega)), _, rfl, _, _, rfl, rfl, ?_, k⟩
      have a := cutS_length (nbase w t) none (some (w - ((ending n).length : Int)))
      exact Nat.le_of_lt (Nat.lt_of_le_of_lt (show _ ≤ 2000 by omega) (by decide))
    · rw [str_eq_iff] at h1
      rw [numbered_other (of_decide_eq_false (Bool.eq_false_iff.mpr h1))] at k
      refine ⟨_, rfl, _, rfl, _, _, rfl, rfl, ?_, k⟩
      exact Nat.le_of_lt (Nat.lt_of_le_of_lt (show _ ≤ 2000 by omega) (by decide))
/-- how many of us have the base of t -/
def alike (w : Int) (t : Str) (us : List Str) : List Str := us.filter fun u => decide (nbase w u = nbase w t)
def countedOf (so : Str) (w : Int) (t : Str) (us : List Str) : Str := if (alike w t us).length = 0 then nbase w t else numbered so w t (((alike w t us).length : Int) + 1)
def spCountedQ (K : PySem.W.Frag) (C : Addr) : Sp := fun vs H Q _ => ∃ (x l : Addr) (so : Str) (w : Int) (t : Str) (us : List Str), vs = [.ref x, .str (nbase w t), .ref l] ∧ NmAt C H x so w ∧ t.length ≤ 1000 ∧ SqT K H l (us.map V.str) ∧ us.length ≤ 24 ∧ (∀ u ∈ us, Wd 200 u) ∧ ∀ G, Same H G → Q (.str (countedOf so w t us)) G
theorem cal_countedQ (B : Bi mg) (S : NmC K mg C) (D : At K mg "counted_name" s_counted_name ps_counted_name) (C_base_of : Cal P w K mg base 1 "base_of" ps_base_of (spBaseOf C)) (C_numbered : Cal P w K mg base 1 "numbered" ps_numbered (spNumQ C)) : Cal P w K mg base 2 "counted_name" ps_counted_name (spCountedQ K C) := by
  refine D.cal sc_counted_name (fun vs H Q E h => ?_) (fun f cdv A outer s H vs Q E hr h => ?_)
  · obtain ⟨x, l, so, w, t, us, rfl, _⟩ := h
    rfl
  · obtain ⟨x, l, so, w, t, us, rfl, hN, tl, hl, u6, wu, k⟩ := h
    refine ⟨_, (pss_cons (ps_set (i := 3) sc_counted_name.nd rfl (.inl rfl) (pe_op op_add pe_int (pe_callB call_len (by rfl) B.len (by decide +kernel) (pa_cons (pe_lc (own := [("text", 4)]) (by rfl) sc_counted_name.nd (pi_tup (pv 2)) (blkOk_by (own := [("text", 4)]) (N := ["namer", "base", "texts", "number", "text"]) (sc := defScope s_counted_name) (by decide +kernel)) (fun _ _ _ _ _ => pg_name (i := 4) sc_counted_name.nd rfl (.inl rfl)) (fun _ _ _ _ _ => (pts_one (pt_cmpR op_eq (pe_own C_base_of hr (by decide) (by rfl) (pa_cons (pv 0) (pa_cons (pv 4) pa_nil))) (pv 1) (nomark _)))) (fun _ _ _ _ _ => (pv 4))) pa_nil))))
      (pss_one (ps_ret (pe_mid (pe_ifExp (pt_cmpR op_eq (pv 3) pe_int (nomark _)) (pv 1) (pe_own C_numbered hr (by decide) (by rfl) (pa_cons (pv 0) (pa_cons (pv 1) (pa_cons (pv 3) pa_nil))))))))), ?_⟩
    refine ⟨_, rfl, l, rfl, ⟨_, hl⟩, fun M nM => lc_tup (K := K) (a := l) (xs := us.map V.str) (fun i J => J M = some (.lst ((alike w t (us.take i)).map V.str)) ∧ Same H J)
      ⟨upd_same, same_new nM⟩ (fun i J _ ⟨_, sJ⟩ => st_same sJ hl) ?_ ?_⟩
    · rintro i v J hi ⟨eM, sJ⟩
      obtain ⟨u, hu, rfl, mu⟩ := atP_strs hi
      have ul : u.length ≤ 200 := (wu u mu).len
      refine ⟨rfl, _, rfl, _, rfl, x, so, w, u, rfl, hN.same sJ, by omega, _, rfl, rfl, _, rfl, ?_⟩
      rw [str_eq_iff]
      refine ite2 (fun hb => ?_) (fun hb => ?_)
      · refine ⟨_, rfl, _, eM, small1000 ?_, ?_, same_off sJ nM⟩
        · rw [List.length_map]
          refine Nat.le_trans (List.length_filter_le ..) ?_
          rw [List.length_take]
          omega
        · unfold alike
          rw [upd_same, take_next hu, List.filter_append, List.map_append, List.filter_cons, hb]
          rfl
      · refine ⟨?_, sJ⟩
        unfold alike at eM ⊢
        rw [eM, take_next hu, List.filter_append, List.filter_cons, Bool.eq_false_iff.mpr hb]
        simp only [Bool.false_eq_true, if_false, List.filter_nil, List.append_nil]
    · rintro J ⟨eM, sJ⟩
      rw [List.length_map, List.take_length] at eM
      have a6 : (alike w t us).length ≤ us.length := List.length_filter_le ..
      refine ⟨_, _, rfl, .inl ⟨_, .inl (.inl eM), rfl⟩, _, _, rfl, rfl, ?_⟩
      rw [List.length_map]
      refine ⟨fun v J1 => v = .str (countedOf so w t us) ∧ Same H J1, ?_, ?_⟩
      · refine ⟨_, rfl, rfl, _, rfl, ite2 (fun h1 => ?_) (fun h1 => ?_)⟩
        · have h1 : (alike w t us).length = 0 := by
            have := V.int.inj (of_decide_eq_true h1)
            omega
          refine ⟨_, rfl, ?_, sJ⟩
          unfold countedOf
          rw [if_pos h1]
        · have h1 : ¬ (alike w t us).length = 0 := fun h => h1 (decide_eq_true (by rw [h]; rfl))
          refine ⟨_, rfl, _, rfl, _, rfl, x, so, w, _, t, rfl, hN.same sJ, by omega, by omega, tl, ?_, sJ⟩
          unfold countedOf
          rw [if_neg h1, Int.add_comm]
      · rintro _ J1 ⟨rfl, s1⟩
        exact k J1 s1
/-- the names that are triedP -/
def triedP (so : Str) (w : Int) (t : Str) : Nat → Str
  | 0 => nbase w t
  | i + 1 => cand so w t i
def freeP (so : Str) (w : Int) (t : Str) (ys : List Str) : Str := if nbase w t ∈ ys then seek (cand so w t) ys ys.length 0 else nbase w t
theorem triedQ_free {so : Str} {w : Int} {t : Str} {ys : List Str} (l : ys.length ≤ 24) {i : Nat} (a : ∀ j, j < i → triedP so w t j ∈ ys) : i ≤ ys.length + 1 := by
  refine Decidable.byContradiction fun h => some_freeQ (so := so) (w := w) (t := t) l fun j hj => ?_
  exact a (j + 1) (by omega)
theorem triedQ_is {so : Str} {w : Int} {t : Str} {ys : List Str} (l : ys.length ≤ 24) {i : Nat} (a : ∀ j, j < i → triedP so w t j ∈ ys) (b : triedP so w t i ∉ ys) : freeP so w t ys = triedP so w t i := by
  have h := triedQ_free l a
  unfold freeP
  cases i with
  | zero => rw [if_neg (show nbase w t ∉ ys from b)]; rfl
  | succ i =>
    rw [if_pos (show nbase w t ∈ ys from a 0 (by omega))]
    have e := seek_at (f := cand so w t) (ys := ys) i ys.length 0 (by omega) (fun j hj => by
      rw [Nat.zero_add]
      exact a (j + 1) (by omega)) (by
      rw [Nat.zero_add]
      exact b)
    rw [Nat.zero_add] at e
    exact e
def spFreeQ (K : PySem.W.Frag) (C : Addr) : Sp := fun vs H Q _ => ∃ (x l : Addr) (so : Str) (w : Int) (t : Str) (ys : List Str), vs = [.ref x, .str (nbase w t), .ref l] ∧ NmAt C H x so w ∧ t.length ≤ 1000 ∧ SqT K H l (ys.map V.str) ∧ ys.length ≤ 24 ∧ Q (.str (freeP so w t ys)) H
theorem cal_freeQ (B : Bi mg) (D : At K mg "free_name" s_free_name ps_free_name) (C_numbered : Cal P w K mg base 1 "numbered" ps_numbered (spNumQ C)) : Cal P w K mg base 2 "free_name" ps_free_name (spFreeQ K C) := by
  refine D.cal sc_free_name (fun vs H Q E h => ?_) (fun f cdv A outer s H vs Q E hr h => ?_)
  · obtain ⟨x, l, so, w, t, ys, rfl, _⟩ := h
    rfl
  · obtain ⟨x, l, so, w, t, ys, rfl, hN, tl, hl, y6, k⟩ := h
    refine ⟨_, (pss_cons (ps_set (i := 3) sc_free_name.nd rfl (.inl rfl) (pv 1))
      (pss_cons (ps_set (i := 4) sc_free_name.nd rfl (.inl rfl) pe_int)
      (pss_cons (ps_while PassesOwn.never (pt_cmpR op_in_seq (pv 3) (pv 2) (by rfl))
      (pss_cons (ps_aug (i := 4) sc_free_name.nd rfl (.inl rfl) pe_int ip_add)
      (pss_one (ps_set (i := 3) sc_free_name.nd rfl (.inl rfl) (pe_own C_numbered hr (by decide) (by rfl) (pa_cons (pv 0) (pa_cons (pv 1) (pa_cons (pv 4) pa_nil))))))))
      (pss_one (ps_ret (pv 3)))))), ?_⟩
    refine ⟨_, rfl, ?_⟩
    refine ⟨fun m σ J => ∃ i : Nat, m = 40 - i ∧ σ = [some (.ref x), some (.str (nbase w t)), some (.ref l), some (.str (triedP so w t i)), some (.int (1 + (i : Int)))] ∧ J = H ∧ ∀ j, j < i → triedP so w t j ∈ ys, ⟨40, 0, rfl, rfl, rfl, fun j hj => absurd hj (by omega)⟩, ?_⟩
    rintro m σ J ⟨i, rfl, rfl, rfl, hj⟩
    have hi := triedQ_free y6 hj
    refine ⟨_, rfl, _, rfl, l, _, rfl, .inr hl, rfl, flat_strs ys, _, rfl, ?_⟩
    rw [in_strs]
    refine ite2 (fun h1 => ?_) (fun h1 => ?_)
    · have h1 : triedP so w t i ∈ ys := of_decide_eq_true h1
      have hj2 : ∀ j, j < i + 1 → triedP so w t j ∈ ys := fun j hj3 => by
        rcases Nat.lt_or_ge j i with h | h
        · exact hj j h
        · rw [show j = i by omega]
          exact h1
      have hi2 := triedQ_free y6 hj2
      refine ⟨_, fun σ' H' h => h, _, rfl, _, _, rfl, rfl, ?_⟩
      refine ⟨_, rfl, _, rfl, _, rfl, x, so, w, _, t, rfl, hN, by show (0 : Int) ≤ 1 + (i : Int) + 1; omega, by show 1 + (i : Int) + 1 < 40; omega, tl, ?_⟩
      refine ⟨40 - (i + 1), by omega, i + 1, rfl, ?_, rfl, hj2⟩
      have e : (1 + (i : Int) + 1) = 2 + (i : Int) := by omega
      have e2 : (1 + ((i + 1 : Nat) : Int)) = 2 + (i : Int) := by omega
      rw [e2]
      show [_, _, _, some (V.str (numbered so w t (1 + (i : Int) + 1))), some (V.int (1 + (i : Int) + 1))] = _
      rw [e]
      rfl
    · have h1 : triedP so w t i ∉ ys := fun h => h1 (decide_eq_true h)
      rw [triedQ_is y6 hj h1] at k
      exact ⟨_, rfl, k⟩
/-- a name by what is there -/
def nextOf (so : Str) (w : Int) (t : Str) (us ys : List Str) : Str := if so = ("count" : String) then countedOf so w t us else freeP so w t ys
def spNextQ (K : PySem.W.Frag) (C : Addr) : Sp := fun vs H Q _ => ∃ (x a l : Addr) (so : Str) (w : Int) (t : Str) (us ys : List Str), vs = [.ref x, .str t, .ref a, .ref l] ∧ NmAt C H x so w ∧ t.length ≤ 1000 ∧ SqT K H a (us.map V.str) ∧ us.length ≤ 24 ∧ (∀ u ∈ us, Wd 200 u) ∧ SqT K H l (ys.map V.str) ∧ ys.length ≤ 24 ∧ ∀ G, Same H G → Q (.str (nextOf so w t us ys)) G
theorem cal_nextQ (B : Bi mg) (S : NmC K mg C) (D : At K mg "name_of_next" s_name_of_next ps_name_of_next) (C_base_of : Cal P w K mg base 1 "base_of" ps_base_of (spBaseOf C)) (C_counted_name : Cal P w K mg base 2 "counted_name" ps_counted_name (spCountedQ K C)) (C_free_name : Cal P w K mg base 2 "free_name" ps_free_name (spFreeQ K C)) : Cal P w K mg base 3 "name_of_next" ps_name_of_next (spNextQ K C) := by
  refine D.cal sc_name_of_next (fun vs H Q E h => ?_) (fun f cdv A outer s H vs Q E hr h => ?_)
  · obtain ⟨x, a, l, so, w, t, us, ys, rfl, _⟩ := h
    rfl
  · obtain ⟨x, a, l, so, w, t, us, ys, rfl, hN, tl, ha, u6, wu, hl, y6, k⟩ := h
    obtain ⟨dx, e1⟩ := id hN
    refine ⟨_, (pss_cons (ps_set (i := 4) sc_name_of_next.nd rfl (.inl rfl) (pe_own C_base_of hr (by decide) (by rfl) (pa_cons (pv 0) (pa_cons (pv 1) pa_nil))))
      (pss_cons (ps_if (pt_cmpR op_eq (pe_fld (pv 0) rfl) pe_str (nomark _)) (pss_one (ps_ret (pe_own C_counted_name hr (by decide) (by rfl) (pa_cons (pv 0) (pa_cons (pv 4) (pa_cons (pv 2) pa_nil)))))) pss_nil)
      (pss_one (ps_ret (pe_own C_free_name hr (by decide) (by rfl) (pa_cons (pv 0) (pa_cons (pv 4) (pa_cons (pv 3) pa_nil)))))))), ?_⟩
    refine ⟨_, rfl, _, rfl, x, so, w, t, rfl, hN, tl, ?_⟩
    refine ⟨_, rfl, x, C, dx, _, _, rfl, e1, S.cl, S.nR, nflds_rule _ _, rfl, _, rfl, ite2 (fun h1 => ?_) (fun h1 => ?_)⟩
    · rw [str_eq_iff] at h1
      unfold nextOf at k
      rw [if_pos (of_decide_eq_true h1)] at k
      exact ⟨_, rfl, _, rfl, _, rfl, x, a, so, w, t, us, rfl, hN, tl, ha, u6, wu, k⟩
    · rw [str_eq_iff] at h1
      unfold nextOf at k
      rw [if_neg (of_decide_eq_false (Bool.eq_false_iff.mpr h1))] at k
      exact ⟨_, rfl, _, rfl, _, rfl, x, l, so, w, t, ys, rfl, hN, tl, hl, y6, k H (Same.refl H)⟩
end
end Gu
namespace Gu
open PySem PySem.Spec PyProof.Rows L2
/-! ### the program: named, names, behind nq -/
section
variable {P : Program} {w : World} {K : PySem.W.Frag} {mg : Str → Option Value} {base : Heap} {C : Addr}
def spFreeL (K : PySem.W.Frag) (C : Addr) : Sp := fun vs H Q _ => ∃ (x l : Addr) (so : Str) (w : Int) (t : Str) (ys : List Str), vs = [.ref x, .str (nbase w t), .ref l] ∧ NmAt C H x so w ∧ t.length ≤ 1000 ∧ SqL K H l (ys.map V.str) ∧ ys.length ≤ 24 ∧ Q (.str (freeP so w t ys)) H
theorem cal_freeL (B : Bi mg) (D : At K mg "free_name" s_free_name ps_free_name) (C_numbered : Cal P w K mg base 1 "numbered" ps_numbered (spNumQ C)) : Cal P w K mg base 2 "free_name" ps_free_name (spFreeL K C) := by
  refine D.cal sc_free_name (fun vs H Q E h => ?_) (fun f cdv A outer s H vs Q E hr h => ?_)
  · obtain ⟨x, l, so, w, t, ys, rfl, _⟩ := h
    rfl
  · obtain ⟨x, l, so, w, t, ys, rfl, hN, tl, hl, y6, k⟩ := h
    refine ⟨_, (pss_cons (ps_set (i := 3) sc_free_name.nd rfl (.inl rfl) (pv 1))
      (pss_cons (ps_set (i := 4) sc_free_name.nd rfl (.inl rfl) pe_int)
      (pss_cons (ps_while PassesOwn.never (pt_cmpR op_in_seq (pv 3) (pv 2) (by rfl))
      (pss_cons (ps_aug (i := 4) sc_free_name.nd rfl (.inl rfl) pe_int ip_add)
      (pss_one (ps_set (i := 3) sc_free_name.nd rfl (.inl rfl) (pe_own C_numbered hr (by decide) (by rfl) (pa_cons (pv 0) (pa_cons (pv 1) (pa_cons (pv 4) pa_nil))))))))
      (pss_one (ps_ret (pv 3)))))), ?_⟩
    refine ⟨_, rfl, ?_⟩
    refine ⟨fun m σ J => ∃ i : Nat, m = 40 - i ∧ σ = [some (.ref x), some (.str (nbase w t)), some (.ref l), some (.str (triedP so w t i)), some (.int (1 + (i : Int)))] ∧ J = H ∧ ∀ j, j < i → triedP so w t j ∈ ys, ⟨40, 0, rfl, rfl, rfl, fun j hj => absurd hj (by omega)⟩, ?_⟩
    rintro m σ J ⟨i, rfl, rfl, rfl, hj⟩
    have hi := triedQ_free y6 hj
    refine ⟨_, rfl, _, rfl, l, _, rfl, .inl hl, rfl, flat_strs ys, _, rfl, ?_⟩
    rw [in_strs]
    refine ite2 (fun h1 => ?_) (fun h1 => ?_)
    · have h1 : triedP so w t i ∈ ys := of_decide_eq_true h1
      have hj2 : ∀ j, j < i + 1 → triedP so w t j ∈ ys := fun j hj3 => by
        rcases Nat.lt_or_ge j i with h | h
        · exact hj j h
        · rw [show j = i by omega]
          exact h1
      have hi2 := triedQ_free y6 hj2
      refine ⟨_, fun σ' H' h => h, _, rfl, _, _, rfl, rfl, ?_⟩
      refine ⟨_, rfl, _, rfl, _, rfl, x, so, w, _, t, rfl, hN, by show (0 : Int) ≤ 1 + (i : Int) + 1; omega, by show 1 + (i : Int) + 1 < 40; omega, tl, ?_⟩
      refine ⟨40 - (i + 1), by omega, i + 1, rfl, ?_, rfl, hj2⟩
      have e : (1 + (i : Int) + 1) = 2 + (i : Int) := by omega
      have e2 : (1 + ((i + 1 : Nat) : Int)) = 2 + (i : Int) := by omega
      rw [e2]
      show [_, _, _, some (V.str (numbered so w t (1 + (i : Int) + 1))), some (V.int (1 + (i : Int) + 1))] = _
      rw [e]
      rfl
    · have h1 : triedP so w t i ∉ ys := fun h => h1 (decide_eq_true h)
      rw [triedQ_is y6 hj h1] at k
      exact ⟨_, rfl, k⟩
def spNextL (K : PySem.W.Frag) (C : Addr) : Sp := fun vs H Q _ => ∃ (x a l : Addr) (so : Str) (w : Int) (t : Str) (us ys : List Str), vs = [.ref x, .str t, .ref a, .ref l] ∧ NmAt C H x so w ∧ t.length ≤ 1000 ∧ SqT K H a (us.map V.str) ∧ us.length ≤ 24 ∧ (∀ u ∈ us, Wd 200 u) ∧ SqL K H l (ys.map V.str) ∧ ys.length ≤ 24 ∧ ∀ G, Same H G → Q (.str (nextOf so w t us ys)) G
theorem cal_nextL (B : Bi mg) (S : NmC K mg C) (D : At K mg "name_of_next" s_name_of_next ps_name_of_next) (C_base_of : Cal P w K mg base 1 "base_of" ps_base_of (spBaseOf C)) (C_counted_name : Cal P w K mg base 2 "counted_name" ps_counted_name (spCountedQ K C)) (C_free_name : Cal P w K mg base 2 "free_name" ps_free_name (spFreeL K C)) : Cal P w K mg base 3 "name_of_next" ps_name_of_next (spNextL K C) := by
  refine D.cal sc_name_of_next (fun vs H Q E h => ?_) (fun f cdv A outer s H vs Q E hr h => ?_)
  · obtain ⟨x, a, l, so, w, t, us, ys, rfl, _⟩ := h
    rfl
  · obtain ⟨x, a, l, so, w, t, us, ys, rfl, hN, tl, ha, u6, wu, hl, y6, k⟩ := h
    obtain ⟨dx, e1⟩ := id hN
    refine ⟨_, (pss_cons (ps_set (i := 4) sc_name_of_next.nd rfl (.inl rfl) (pe_own C_base_of hr (by decide) (by rfl) (pa_cons (pv 0) (pa_cons (pv 1) pa_nil))))
      (pss_cons (ps_if (pt_cmpR op_eq (pe_fld (pv 0) rfl) pe_str (nomark _)) (pss_one (ps_ret (pe_own C_counted_name hr (by decide) (by rfl) (pa_cons (pv 0) (pa_cons (pv 4) (pa_cons (pv 2) pa_nil)))))) pss_nil)
      (pss_one (ps_ret (pe_own C_free_name hr (by decide) (by rfl) (pa_cons (pv 0) (pa_cons (pv 4) (pa_cons (pv 3) pa_nil)))))))), ?_⟩
    refine ⟨_, rfl, _, rfl, x, so, w, t, rfl, hN, tl, ?_⟩
    refine ⟨_, rfl, x, C, dx, _, _, rfl, e1, S.cl, S.nR, nflds_rule _ _, rfl, _, rfl, ite2 (fun h1 => ?_) (fun h1 => ?_)⟩
    · rw [str_eq_iff] at h1
      unfold nextOf at k
      rw [if_pos (of_decide_eq_true h1)] at k
      exact ⟨_, rfl, _, rfl, _, rfl, x, a, so, w, t, us, rfl, hN, tl, ha, u6, wu, k⟩
    · rw [str_eq_iff] at h1
      unfold nextOf at k
      rw [if_neg (of_decide_eq_false (Bool.eq_false_iff.mpr h1))] at k
      exact ⟨_, rfl, _, rfl, _, rfl, x, l, so, w, t, ys, rfl, hN, tl, hl, y6, k H (Same.refl H)⟩
theorem pairsOf_fst (so : Str) (w : Int) : ∀ (n : Nat) (ts : List Str), ts.length = n → (pairsOf so w ts).map (·.1) = ts
  | 0, ts, h => by
    cases ts with
    | nil => rfl
    | cons t ts => cases h
  | n + 1, ts, h => by
    rcases List.eq_nil_or_concat ts with rfl | ⟨us, t, rfl⟩
    · rfl
    · rw [List.concat_eq_append] at h ⊢
      rw [List.length_append] at h
      rw [pairsOf_snoc, List.map_append, pairsOf_fst so w n us (by simp only [List.length_singleton] at h; omega)]
      rfl
theorem nextOf_pairs (so : Str) (w : Int) (t : Str) (us : List Str) : nextOf so w t us (namesOf so w us) = nameOf so w t (pairsOf so w us) := by
  have e : (alike w t us).length = (mates w t (pairsOf so w us)).length := by
    unfold mates alike
    rw [← List.length_map (f := fun q : Str × Str => q.1), ← List.countP_eq_length_filter, List.length_map, ← List.countP_eq_length_filter]
    conv => lhs; rw [← pairsOf_fst so w us.length us rfl]
    rw [List.countP_map]
    rfl
  unfold nextOf nameOf countedOf freeP namesOf
  rw [e]
theorem namesOf_snoc (so : Str) (w : Int) (ts : List Str) (t : Str) : namesOf so w (ts ++ [t]) = namesOf so w ts ++ [nextOf so w t ts (namesOf so w ts)] := by
  rw [nextOf_pairs]
  unfold namesOf
  rw [pairsOf_snoc, List.map_append]
  rfl
theorem slTP_ok {H : Hp} {a : Addr} {xs : List V} {Q : VK} {lo hi : Option Int} (ha : SqT K H a xs) (q : ∀ U G, Same H G → SqT K G U (cutV xs lo hi) → Q (.ref U) G) : rSlA K (.ref a) lo hi H Q := by
  refine ⟨a, xs, rfl, ha, fun ⟨e1, e2⟩ => q a H (Same.refl H) ?_, fun _ p np => q p _ (same_new np) (.inl (.inl upd_same))⟩
  unfold cutV
  rw [e1, e2, List.drop_zero, Nat.sub_zero, List.take_length]
  exact ha
theorem cutV_headP (xs : List V) (i : Nat) : cutV xs none (some (i : Int)) = xs.take i := by
  unfold cutV
  rw [HT.sIx_none, HT.sIx_nat, List.drop_zero, Nat.sub_zero, List.take_eq_take_iff]
  omega
theorem cal_named (B : Bi mg) (D : At K mg "named" s_named ps_named) (C_name_of_next : Cal P w K mg base 3 "name_of_next" ps_name_of_next (spNextL K C)) : Cal P w K mg base 4 "named" ps_named (spNamesP K (NmAt C)) := by
  refine D.cal sc_named (fun vs H Q E h => ?_) (fun f cdv A outer s H vs Q E hr h => ?_)
  · obtain ⟨x, l, so, w, ts, rfl, _⟩ := h
    rfl
  · obtain ⟨x, l, so, w, ts, rfl, hN, hso, w0, w1, hl, t6, wt, k⟩ := h
    refine ⟨_, (pss_cons (ps_set (i := 2) sc_named.nd rfl (.inl rfl) (pe_lst pa_nil))
      (pss_cons (ps_for PassesOwn.never rfl (pi_enT (by rfl) B.enumerate (pa_cons (pv 1) pa_nil)) (pg_tup rfl (pgs_cons (pg_name (i := 3) sc_named.nd rfl (.inl rfl)) (pgs_cons (pg_name (i := 4) sc_named.nd rfl (.inl rfl)) pgs_nil)))
      (pss_one (ps_expr (pe_bm PySem.F.plainAttrs_list PySem.F.slot_list_append PySem.F.type_list_append mt_append (pv 2) (pa_cons (pe_own C_name_of_next hr (by decide) (by rfl) (pa_cons (pv 0) (pa_cons (pv 4) (pa_cons (pe_slice sl_tupA (pv 1) po_none (po_some (pv 3))) (pa_cons (pv 2) pa_nil))))) pa_nil)))))
      (pss_one (ps_ret (pe_callTy call_tuple_of (by rfl) B.tuple (by decide +kernel) (pa_cons (pv 2) pa_nil)))))), ?_⟩
    refine ⟨Nat.zero_le _, fun g ng => ?_⟩
    have s0 : Same H (upd H g (.lst [])) := same_new ng
    refine ⟨_, rfl, l, _, rfl, st_same s0 hl, for_it walk_enT (fun i σ J => ∃ u v, σ = [some (.ref x), some (.ref l), some (.ref g), u, v] ∧ Same H J ∧ J g = some (.lst ((namesOf so w (ts.take i)).map V.str)))
      ⟨none, none, rfl, s0, upd_same⟩ (fun i σ J _ ⟨_, _, _, sJ, _⟩ => st_same sJ hl) ?_ ?_⟩
    · rintro i v σ J J1 hi ⟨u, v2, rfl, sJ, eg⟩ ⟨T, z, hx, rfl, nT, rfl⟩
      obtain ⟨t, ht, rfl, mt⟩ := atP_strs hx
      have il : i < ts.length := (List.getElem?_eq_some_iff.mp ht).1
      have sT : Same J (upd J T (.tup [.int (i : Nat), .str t])) := same_new nT
      have tl : t.length ≤ 200 := (wt t mt).len
      refine ⟨T, _, rfl, .inl (.inl upd_same), rfl, _, _, rfl, _, _, rfl, rfl, ?_⟩
      have nl : (namesOf so w (ts.take i)).length = i := by
        rw [names_len, List.length_take]
        omega
      refine ⟨_, rfl, .inl ⟨rfl, _, .inl (.inl (sT _ _ eg))⟩, ?_⟩
      refine ⟨_, rfl, _, rfl, _, rfl, _, rfl, _, rfl, slTP_ok (st_same (sJ.trans sT) hl) fun U G sU eU => ?_⟩
      rw [cutV_headP, ← List.map_take] at eU
      refine ⟨_, rfl, x, U, g, so, w, t, ts.take i, namesOf so w (ts.take i), rfl, hN.same (sJ.trans (sT.trans sU)), by omega, eU, ?_, fun y hy => wt y (List.mem_of_mem_take hy), .inl (.inl (sU _ _ (sT _ _ eg))), by omega, fun G2 s2 => ?_⟩
      · rw [List.length_take]
        omega
      · have sA : Same H G2 := sJ.trans (sT.trans (sU.trans s2))
        refine ⟨g, _, _, rfl, rfl, s2 _ _ (sU _ _ (sT _ _ eg)), ?_, ?_⟩
        · rw [List.length_map]
          exact small1000 (by omega)
        · refine ⟨_, _, rfl, same_off sA ng, ?_⟩
          rw [upd_same, take_next ht, namesOf_snoc, List.map_append]
          rfl
    · rintro σ J ⟨u, v, rfl, sJ, eg⟩
      rw [List.length_map, List.take_length] at eg
      exact ⟨_, rfl, g, _, rfl, .inl ⟨.inl (.inl eg), fun p np => k p _ (.inl (.inl upd_same)) (sJ.trans (same_new np))⟩⟩
theorem cal_namesP (B : Bi mg) (D : At K mg "names" s_names ps_names) (C_check_namer : Cal P w K mg base 1 "check_namer" ps_check_namer (spCheckNamer C)) (C_check_texts : Cal P w K mg base 2 "check_texts" ps_check_texts (spCheckTexts K)) (C_named : Cal P w K mg base 4 "named" ps_named (spNamesP K (NmAt C))) : Cal P w K mg base 5 "names" ps_names (spNamesP K (NmAt C)) := by
  refine D.cal sc_names (fun vs H Q E h => ?_) (fun f cdv A outer s H vs Q E hr h => ?_)
  · obtain ⟨x, l, so, w, ts, rfl, _⟩ := h
    rfl
  · obtain ⟨x, l, so, w, ts, rfl, hN, hso, w0, w1, hl, t6, wt, k⟩ := h
    refine ⟨_, (pss_cons (ps_expr (pe_own C_check_namer hr (by decide) (by rfl) (pa_cons (pv 0) pa_nil)))
      (pss_cons (ps_expr (pe_own C_check_texts hr (by decide) (by rfl) (pa_cons (pv 1) (pa_cons (pe_cst B.MOST_LISTED (by rfl)) pa_nil))))
      (pss_one (ps_ret (pe_own C_named hr (by decide) (by rfl) (pa_cons (pv 0) (pa_cons (pv 1) pa_nil))))))), ?_⟩
    refine ⟨_, rfl, x, so, w, rfl, hN, ?_⟩
    refine ⟨_, rfl, l, ts, _, rfl, hl, by omega, wt, fun G sG => ?_⟩
    exact ⟨_, rfl, _, rfl, x, l, so, w, ts, rfl, hN.same sG, hso, w0, w1, st_same sG hl, t6, wt, fun p G2 e2 s2 => k p G2 e2 (sG.trans s2)⟩
end
end Gu
namespace Gu
open PySem PySem.Spec PyProof.Rows L2
/-! ### sets made of a list or a tuple of keys -/
/-- each once, in the order of their first coming -/
def dds {α : Type} [DecidableEq α] (ks : List α) : List α := ks.foldl (fun acc k => if k ∈ acc then acc else acc ++ [k]) []
/-- j is among ks -/
def isIn {α : Type} [DecidableEq α] (ks : List α) (j : α) : Bool := decide (j ∈ ks)
theorem dds_snoc {α : Type} [DecidableEq α] (ks : List α) (k : α) : dds (ks ++ [k]) = if k ∈ dds ks then dds ks else dds ks ++ [k] := by
  unfold dds
  rw [List.foldl_append]
  rfl
theorem mem_dds {α : Type} [DecidableEq α] {j : α} (ks : List α) : j ∈ dds ks ↔ j ∈ ks := by
  have main : ∀ (ks acc : List α), j ∈ ks.foldl (fun acc k => if k ∈ acc then acc else acc ++ [k]) acc ↔ j ∈ acc ∨ j ∈ ks := by
    intro ks
    induction ks with
    | nil =>
      intro acc
      show j ∈ acc ↔ _
      simp
    | cons k ks ih =>
      intro acc
      show j ∈ ks.foldl _ (if k ∈ acc then acc else acc ++ [k]) ↔ _
      rw [ih]
      by_cases h : k ∈ acc
      · rw [if_pos h, List.mem_cons]
        constructor
        · rintro (h1 | h1)
          · exact .inl h1
          · exact .inr (.inr h1)
        · rintro (h1 | h1 | h1)
          · exact .inl h1
          · exact .inl (h1 ▸ h)
          · exact .inr h1
      · rw [if_neg h, List.mem_append, List.mem_singleton, List.mem_cons, or_assoc]
  have := main ks []
  unfold dds
  rw [this]
  simp
theorem dds_nodup {α : Type} [DecidableEq α] (ks : List α) : (dds ks).Nodup := by
  have main : ∀ (ks acc : List α), acc.Nodup → (ks.foldl (fun acc k => if k ∈ acc then acc else acc ++ [k]) acc).Nodup := by
    intro ks
    induction ks with
    | nil => exact fun acc h => h
    | cons k ks ih =>
      intro acc h
      show (ks.foldl _ (if k ∈ acc then acc else acc ++ [k])).Nodup
      apply ih
      by_cases e : k ∈ acc
      · rw [if_pos e]
        exact h
      · rw [if_neg e, List.nodup_append]
        refine ⟨h, by simp, fun a ha b hb => ?_⟩
        rw [List.mem_singleton.mp hb]
        exact fun q => e (q ▸ ha)
  exact main ks [] List.nodup_nil
theorem dds_len {α : Type} [DecidableEq α] (ks : List α) : (dds ks).length ≤ ks.length := by
  have main : ∀ (ks acc : List α), (ks.foldl (fun acc k => if k ∈ acc then acc else acc ++ [k]) acc).length ≤ acc.length + ks.length := by
    intro ks
    induction ks with
    | nil => exact fun acc => Nat.le_refl _
    | cons k ks ih =>
      intro acc
      refine Nat.le_trans (ih _) ?_
      show (if k ∈ acc then acc else acc ++ [k]).length + _ ≤ _
      split
      · simp only [List.length_cons]
        omega
      · simp only [List.length_cons, List.length_append, List.length_nil]
        omega
  have e := main ks []
  rw [List.length_nil, Nat.zero_add] at e
  exact e
section
variable {prog : Program} {w : World} {A : Around} {R : Result → Shared → Prop} {I : Addr} {fp wr : List Addr} {G : Array GenState → Array GenState → Prop} {n : Nat} {Py : Nat → Value → Prop} {St : Nat → Shared → Prop} {α : Type} [DecidableEq α] {knd : KeyKind prog w α}
theorem fill_set (W : WalksS prog w A.in1 I fp wr G n Py St) (T : Addr) (away : T ∉ fp) (ks : List α) (many : n = ks.length) (few : ks.length + 1 < scanBound)
    (drawn : ∀ i v, Py i v → ∃ k, ks[i]? = some k ∧ knd.is k v = true ∧ v.scannable = true) :
    ∀ (left i : Nat) (s : Shared), n - i = left → i ≤ n → St i s → s.heap.SetOf knd T (isIn (ks.take i)) (dds (ks.take i)).length →
      (∀ t, Moved (T :: wr) G s t → t.heap.SetOf knd T (isIn ks) (dds ks).length → R (.ok (.ret .none)) t) →
      codeAny (model prog w) A (.builtin "set.update.loop" ⟨[.ref T, .ref I], []⟩) R s := by
  have awayW : T ∉ wr := fun h => away (W.sub _ h)
  have wider : ∀ b ∈ wr, b ∈ T :: wr := fun b q => List.mem_cons_of_mem _ q
  intro left
  induction left with
  | zero =>
    intro i s el il st so goal
    have ei : i = n := by omega
    subst ei
    refine codeAny_builtin F.entry_set_update_loop ?_
    rw [Around.under_plainId F.plain_set_update_loop _]
    show wpAny _ A.in1 (pyNext (.ref I) >>= _) _ _ s
    refine wpAny_bind (W.done s _ _ st fun t mv => ?_)
    show wpAny _ A.in1 (ret Value.none) _ _ t
    have full : ks.take i = ks := List.take_of_length_le (by omega)
    rw [full] at so
    refine wpAny_pure (goal t (mv.mono wider) ?_)
    obtain ⟨o, es, ep, tb, ho, more⟩ := so
    exact ⟨o, es, ep, tb, mv.heap T _ awayW ho, more⟩
  | succ left ih =>
    intro i s el il st so goal
    have less : i < n := by omega
    refine codeAny_builtin F.entry_set_update_loop ?_
    rw [Around.under_plainId F.plain_set_update_loop _]
    show wpAny _ A.in1 (pyNext (.ref I) >>= _) _ _ s
    refine wpAny_bind (W.item i s _ _ less st fun v t py st1 mv => ?_)
    obtain ⟨k, ek, isk, sc⟩ := drawn i v py
    have so1 : t.heap.SetOf knd T (isIn (ks.take i)) (dds (ks.take i)).length := by
      obtain ⟨o, es, ep, tb, ho, more⟩ := so
      exact ⟨o, es, ep, tb, mv.heap T _ awayW ho, more⟩
    show wpAny _ A.in1 (holding [v] (setAdd T v) >>= _) _ _ t
    refine wpAny_bind (wpAny_holding ?_)
    unfold setAdd
    refine wpAny_holding ?_
    refine wpAny_bind (knd.pyHash isk ?_)
    have room1 : (dds (ks.take i)).length + 1 < scanBound := by
      have a := dds_len (ks.take i)
      rw [List.length_take] at a
      omega
    refine wpAny_setAddHashed_of (knd := knd) (s := { t with toks := t.toks + 1 }) isk sc so1 room1 fun h2 sb so2 => ?_
    have snoc : ks.take (i + 1) = ks.take i ++ [k] := by
      rw [List.take_add_one, ek]
      rfl
    have so3 : h2.SetOf knd T (isIn (ks.take (i + 1))) (dds (ks.take (i + 1))).length := by
      have e1 : (fun j => isIn (ks.take i) j || decide (j = k)) = isIn (ks.take (i + 1)) := by
        funext j
        unfold isIn
        rw [snoc]
        simp [List.mem_append]
      have e2 : (if isIn (ks.take i) k = true then (dds (ks.take i)).length else (dds (ks.take i)).length + 1) = (dds (ks.take (i + 1))).length := by
        rw [snoc, dds_snoc]
        unfold isIn
        by_cases q : k ∈ ks.take i
        · rw [if_pos (decide_eq_true q), if_pos ((mem_dds _).mpr q)]
        · rw [if_neg (fun z => q (of_decide_eq_true z)), if_neg (fun z => q ((mem_dds _).mp z)), List.length_append]
          rfl
      rw [← e1, ← e2]
      exact so2
    refine wpAny_pure ⟨plainId_quiet F.plain_set_update_loop _, ih (i + 1) _ (by omega) less (W.frame _ t _ _ st1 (Nat.le_succ _) fun b q o e => ?_) so3 fun t2 mv2 so4 => ?_⟩
    · rw [sb.2 b (fun z : b = T => away (z ▸ q))]
      exact e
    · refine goal t2 (Moved.trans W.gtrans ((mv.mono wider).then_heap (Nat.le_succ _) fun b o q e => ?_) mv2) so4
      rw [sb.2 b (fun z : b = T => q (by rw [z]; exact List.mem_cons_self))]
      exact e
end
section
variable {prog : Program} {w : World} {A : Around} {E : Value → Shared → Prop} {s : Shared}
/-- the empty set's object, by its way of order -/
abbrev noneIn (b : Bool) : Obj := { cls := .type "set", dict := none, data := .set #[] 0 (.fresh 0 0 b) }
set_option maxHeartbeats 3200000 in
theorem init_goes {T l : Addr} {b : Bool} {Q : PySem.Fin → Shared → Prop} {TY : String} {od : Option Addr} {dt : Data} {sl : Array (Option Value)} (at_T : s.heap.get? T = some (noneIn b)) (at_l : s.heap.get? l = some { cls := .type TY, dict := od, data := dt, slots := sl })
    (notS : isSubtype (.type TY) (.type "set") = pure false) (notF : isSubtype (.type TY) (.type "frozenset") = pure false) (notD : (Value.type TY == Value.type "dict") = false)
    (h : wpAny (model prog w) A (pyIter (.ref l)) (fun a t => wpAny (model prog w) A (do let _ ← runValue (Code.builtin "set.update.loop" { pos := [Value.ref T, a] }); pure ()) (fun _ t2 => wpAny (model prog w) A (ret Value.none) Q E t2) E t) E s) :
    wpAny (model prog w) A (Builtin.«set.__init__» ⟨[.ref T, .ref l], []⟩) Q E s := by
  have isS : Shared.TypeIs s (.ref T) "set" := ⟨_, at_T, rfl⟩
  unfold Builtin.«set.__init__» noKeywords Builtin.Frozenset.updateFrom
  revert h
  generalize pyIter = PI
  intro h
  wp_walk
  exact h
end
section
variable {prog : Program} {w : World} {A : Around} {E : Value → Shared → Prop} {s : Shared} {α : Type} [DecidableEq α] {knd : KeyKind prog w α}
set_option maxHeartbeats 3200000 in
theorem call_setOfL {l : Addr} {items : Array Value} (ks : List α) {Q : Value → Shared → Prop} (calm : A.handled = none) (at_l : s.heap.IsList l items) (size : items.size = ks.length) (few : ks.length + 1 < scanBound)
    (keys : ∀ (i : Nat) (v : Value), items[i]? = some v → ∃ k : α, ks[i]? = some k ∧ knd.is k v = true ∧ v.scannable = true)
    (h : ∀ (g : Heap) (tk : Nat), g.SetOf knd s.heap.objs.size (isIn ks) (dds ks).length → (∀ b o, s.heap.get? b = some o → g.get? b = some o) → Q (.ref s.heap.objs.size) { s with heap := g, toks := tk }) :
    wpAny (model prog w) A (call (.type "set") [.ref l]) Q E s := by
  obtain ⟨c0, tl0, mro0⟩ := F.called_set.mro
  have made0 := F.called_set.made
  have sub0 := F.called_set.sub
  refine wpAny_call (codeAny_of_tree ?_)
  show wpAny _ _ (callAny (.type "set") _) _ _ _
  refine wpAny_pure ⟨Code.quiet_builtin _ (by decide +kernel), codeAny_builtin F.entry_type_call ?_⟩
  rw [Around.under_plain (weight_type_call_type "set" [.ref l] []) rfl]
  have nt0 := F.called_set.notType
  have cc0 := F.called_set.canCreate
  have tc0 := F.typeCall_set_1 (.ref l)
  repeat (any_goals (first | assumption | wp_step))
  refine codeAny_mono (code_set_new_1 (.ref l) (E := E) (Q₁ := fun x t => ∃ b : Bool, x = .ref s.heap.objs.size ∧ t = { s with heap := s.heap.push (noneIn b) }) fun b => ⟨b, rfl, rfl⟩) fun r t hr => ?_
  cases r with
  | error e => exact hr
  | ok fl =>
    cases fl with
    | next => exact (hr : False).elim
    | brk => exact (hr : False).elim
    | cont => exact (hr : False).elim
    | ret x =>
      obtain ⟨b0, rfl, rfl⟩ := hr
      have new0 : (s.heap.push (noneIn b0)).get? s.heap.objs.size = some (noneIn b0) := Heap.get?_push_size _ rfl
      have isS : Shared.TypeIs { s with heap := s.heap.push (noneIn b0) } (.ref s.heap.objs.size) "set" := ⟨_, new0, rfl⟩
      have li0 := F.called_set.init.lookup
      have bi0 := F.called_set.init.bind (.ref s.heap.objs.size)
      repeat (any_goals (first | assumption | wp_step))
      refine codeAny_mono (codeAny_call_builtin (R := wants (fun y t2 => y = .none ∧ ∃ (g : Heap) (tk : Nat), t2 = { s with heap := g, toks := tk } ∧ g.SetOf knd s.heap.objs.size (isIn ks) (dds ks).length ∧ (∀ b o, s.heap.get? b = some o → g.get? b = some o)) E)
        F.called_set.init.plain F.entry_set_init (check_set_init_1 isS ?_)) fun r2 t2 hr2 => ?_
      · obtain ⟨ol, hol, cl0, nl, dl0⟩ := at_l
        obtain ⟨ocls, odict, odata, oslots⟩ := ol
        simp only at cl0 dl0
        subst cl0
        subst dl0
        have hol1 : (s.heap.push (noneIn b0)).get? l = some { cls := .type "list", dict := odict, data := .seq items nl, slots := oslots } := Heap.get?_push_of_some _ hol
        have notS := F.sub_list_set
        have notF := F.sub_list_frozenset
        have notD : (Value.type "list" == Value.type "dict") = false := by decide
        have at1 : (s.heap.push (noneIn b0)).IsList l items := ⟨_, hol1, rfl, nl, rfl⟩
        refine init_goes (b := b0) new0 hol1 notS notF notD ?_
        refine wpAny_pyIter_list at1 ?_
        refine wpAny_bind (wpAny_runValue ?_)
        have lt0 : l < s.heap.objs.size := Heap.lt_size hol
        have calm3 : A.in1.in1.in1.handled = none := by simp [calm]
        have z1 : (s.heap.push (noneIn b0)).objs.size = s.heap.objs.size + 1 := Heap.size_push ..
        have apart : l ≠ (s.heap.push (noneIn b0)).objs.size := by
          rw [z1]
          exact Nat.ne_of_lt (Nat.lt_succ_of_lt lt0)
        have off : s.heap.objs.size ∉ [(s.heap.push (noneIn b0)).objs.size, l] := by
          rw [z1]
          intro q
          rcases List.mem_cons.mp q with q | q
          · exact absurd q (Nat.ne_of_lt (Nat.lt_succ_self _))
          · exact absurd (List.mem_singleton.mp q) (Nat.ne_of_gt lt0)
        refine fill_set ((Walks.list calm3 _ l apart items).toS) s.heap.objs.size off ks size few keys (items.size - 0) 0 _ (by omega) (Nat.zero_le _) ⟨⟨_, Heap.get?_push_size _ rfl, rfl, rfl⟩, (at1.push _)⟩ ?first ?last
        case first =>
          have got : ((s.heap.push (noneIn b0)).push { cls := .type "list_iterator", data := .fields #[.ref l, .int 0 0] }).get? s.heap.objs.size = some (noneIn b0) := Heap.get?_push_of_some _ new0
          refine ⟨_, #[], 0, _, got, ⟨rfl, rfl, rfl⟩, rfl, (fun e he => by simp at he), (fun k => by simp [isIn]), (by decide), (by rfl), rfl⟩
        case last =>
          intro t3 mv so
          obtain ⟨g, gn, dr, tk, os⟩ := t3
          have e1 : gn = s.gens := mv.gens
          have e2 : dr = s.drawn := mv.drawn
          have e3 : os = s.os := mv.os
          subst e1
          subst e2
          subst e3
          show wpAny _ _ _ _ _ _
          refine wpAny_pure ?_
          show wpAny _ _ (ret Value.none) _ _ _
          refine wpAny_pure ⟨rfl, g, tk, rfl, so, fun b o e => ?_⟩
          have below : b < s.heap.objs.size := Heap.lt_size e
          refine mv.heap b o (fun q => ?_) (Heap.get?_push_of_some _ (Heap.get?_push_of_some _ e))
          rcases List.mem_cons.mp q with q | q
          · exact absurd q (Nat.ne_of_lt below)
          · have q2 := List.mem_singleton.mp q
            rw [z1] at q2
            exact absurd q2 (Nat.ne_of_lt (Nat.lt_succ_of_lt below))
      · cases r2 with
        | error e => exact hr2
        | ok fl2 =>
          cases fl2 with
          | next => exact (hr2 : False).elim
          | brk => exact (hr2 : False).elim
          | cont => exact (hr2 : False).elim
          | ret y =>
            obtain ⟨rfl, g, tk, rfl, so, keep⟩ := hr2
            repeat (any_goals (first | assumption | wp_step))
            exact h _ _ so keep
end
section
variable {prog : Program} {w : World} {A : Around} {E : Value → Shared → Prop} {s : Shared} {α : Type} [DecidableEq α] {knd : KeyKind prog w α}
set_option maxHeartbeats 3200000 in
theorem call_setOfT {l : Addr} {items : Array Value} (ks : List α) {Q : Value → Shared → Prop} (calm : A.handled = none) (at_l : s.heap.IsTuple l items) (size : items.size = ks.length) (few : ks.length + 1 < scanBound)
    (keys : ∀ (i : Nat) (v : Value), items[i]? = some v → ∃ k : α, ks[i]? = some k ∧ knd.is k v = true ∧ v.scannable = true)
    (h : ∀ (g : Heap) (tk : Nat), g.SetOf knd s.heap.objs.size (isIn ks) (dds ks).length → (∀ b o, s.heap.get? b = some o → g.get? b = some o) → Q (.ref s.heap.objs.size) { s with heap := g, toks := tk }) :
    wpAny (model prog w) A (call (.type "set") [.ref l]) Q E s := by
  obtain ⟨c0, tl0, mro0⟩ := F.called_set.mro
  have made0 := F.called_set.made
  have sub0 := F.called_set.sub
  refine wpAny_call (codeAny_of_tree ?_)
  show wpAny _ _ (callAny (.type "set") _) _ _ _
  refine wpAny_pure ⟨Code.quiet_builtin _ (by decide +kernel), codeAny_builtin F.entry_type_call ?_⟩
  rw [Around.under_plain (weight_type_call_type "set" [.ref l] []) rfl]
  have nt0 := F.called_set.notType
  have cc0 := F.called_set.canCreate
  have tc0 := F.typeCall_set_1 (.ref l)
  repeat (any_goals (first | assumption | wp_step))
  refine codeAny_mono (code_set_new_1 (.ref l) (E := E) (Q₁ := fun x t => ∃ b : Bool, x = .ref s.heap.objs.size ∧ t = { s with heap := s.heap.push (noneIn b) }) fun b => ⟨b, rfl, rfl⟩) fun r t hr => ?_
  cases r with
  | error e => exact hr
  | ok fl =>
    cases fl with
    | next => exact (hr : False).elim
    | brk => exact (hr : False).elim
    | cont => exact (hr : False).elim
    | ret x =>
      obtain ⟨b0, rfl, rfl⟩ := hr
      have new0 : (s.heap.push (noneIn b0)).get? s.heap.objs.size = some (noneIn b0) := Heap.get?_push_size _ rfl
      have isS : Shared.TypeIs { s with heap := s.heap.push (noneIn b0) } (.ref s.heap.objs.size) "set" := ⟨_, new0, rfl⟩
      have li0 := F.called_set.init.lookup
      have bi0 := F.called_set.init.bind (.ref s.heap.objs.size)
      repeat (any_goals (first | assumption | wp_step))
      refine codeAny_mono (codeAny_call_builtin (R := wants (fun y t2 => y = .none ∧ ∃ (g : Heap) (tk : Nat), t2 = { s with heap := g, toks := tk } ∧ g.SetOf knd s.heap.objs.size (isIn ks) (dds ks).length ∧ (∀ b o, s.heap.get? b = some o → g.get? b = some o)) E)
        F.called_set.init.plain F.entry_set_init (check_set_init_1 isS ?_)) fun r2 t2 hr2 => ?_
      · obtain ⟨ol, hol, cl0, nl, dl0⟩ := at_l
        obtain ⟨ocls, odict, odata, oslots⟩ := ol
        simp only at cl0 dl0
        subst cl0
        subst dl0
        have hol1 : (s.heap.push (noneIn b0)).get? l = some { cls := .type "tuple", dict := odict, data := .seq items nl, slots := oslots } := Heap.get?_push_of_some _ hol
        have notS := F.sub_tuple_set
        have notF := F.sub_tuple_frozenset
        have notD : (Value.type "tuple" == Value.type "dict") = false := by decide
        have at1 : (s.heap.push (noneIn b0)).IsTuple l items := ⟨_, hol1, rfl, nl, rfl⟩
        refine init_goes (b := b0) new0 hol1 notS notF notD ?_
        refine wpAny_pyIter_tuple at1 ?_
        refine wpAny_bind (wpAny_runValue ?_)
        have lt0 : l < s.heap.objs.size := Heap.lt_size hol
        have calm3 : A.in1.in1.in1.handled = none := by simp [calm]
        have z1 : (s.heap.push (noneIn b0)).objs.size = s.heap.objs.size + 1 := Heap.size_push ..
        have apart : l ≠ (s.heap.push (noneIn b0)).objs.size := by
          rw [z1]
          exact Nat.ne_of_lt (Nat.lt_succ_of_lt lt0)
        have off : s.heap.objs.size ∉ [(s.heap.push (noneIn b0)).objs.size, l] := by
          rw [z1]
          intro q
          rcases List.mem_cons.mp q with q | q
          · exact absurd q (Nat.ne_of_lt (Nat.lt_succ_self _))
          · exact absurd (List.mem_singleton.mp q) (Nat.ne_of_gt lt0)
        refine fill_set ((Walks.tuple calm3 _ l apart items).toS) s.heap.objs.size off ks size few keys (items.size - 0) 0 _ (by omega) (Nat.zero_le _) ⟨⟨_, Heap.get?_push_size _ rfl, rfl, rfl⟩, (at1.push _)⟩ ?first ?last
        case first =>
          have got : ((s.heap.push (noneIn b0)).push { cls := .type "tuple_iterator", data := .fields #[.ref l, .int 0 0] }).get? s.heap.objs.size = some (noneIn b0) := Heap.get?_push_of_some _ new0
          refine ⟨_, #[], 0, _, got, ⟨rfl, rfl, rfl⟩, rfl, (fun e he => by simp at he), (fun k => by simp [isIn]), (by decide), (by rfl), rfl⟩
        case last =>
          intro t3 mv so
          obtain ⟨g, gn, dr, tk, os⟩ := t3
          have e1 : gn = s.gens := mv.gens
          have e2 : dr = s.drawn := mv.drawn
          have e3 : os = s.os := mv.os
          subst e1
          subst e2
          subst e3
          show wpAny _ _ _ _ _ _
          refine wpAny_pure ?_
          show wpAny _ _ (ret Value.none) _ _ _
          refine wpAny_pure ⟨rfl, g, tk, rfl, so, fun b o e => ?_⟩
          have below : b < s.heap.objs.size := Heap.lt_size e
          refine mv.heap b o (fun q => ?_) (Heap.get?_push_of_some _ (Heap.get?_push_of_some _ e))
          rcases List.mem_cons.mp q with q | q
          · exact absurd q (Nat.ne_of_lt below)
          · have q2 := List.mem_singleton.mp q
            rw [z1] at q2
            exact absurd q2 (Nat.ne_of_lt (Nat.lt_succ_of_lt below))
      · cases r2 with
        | error e => exact hr2
        | ok fl2 =>
          cases fl2 with
          | next => exact (hr2 : False).elim
          | brk => exact (hr2 : False).elim
          | cont => exact (hr2 : False).elim
          | ret y =>
            obtain ⟨rfl, g, tk, rfl, so, keep⟩ := hr2
            repeat (any_goals (first | assumption | wp_step))
            exact h _ _ so keep
end
theorem key_at : ∀ {ks : List Key} {us : List Value}, Vals (ks.map kV) us → ∀ (i : Nat) (v : Value), us[i]? = some v → ∃ k, ks[i]? = some k ∧ RelV (kV k) v
  | [], _, .nil, i, v, h => by simp at h
  | k :: ks, _, .cons r t, 0, v, h => by
    cases h
    exact ⟨k, rfl, r⟩
  | k :: ks, _, .cons r t, i + 1, v, h => key_at t i v h
/-- len(set(x)): how many different keys -/
def tLenSetK (K : PySem.W.Frag) (ta : TE) : TE := fun σ H Q => ta σ H fun x G => ∃ (l : Addr) (ks : List Key), x = .ref l ∧ (SqL K G l (ks.map kV) ∨ SqT K G l (ks.map kV)) ∧ ks.length ≤ 4000 ∧ Q (.int ((dds ks).length : Nat)) G
theorem pe_lenSetK {X : Cx} {a : Expr} {ta : TE} {p p2 q pos : Pos} (hg : Gl X "len") (hm : X.mg "len" = none) (hg2 : Gl X "set") (hm2 : X.mg "set" = none) (ha : PE X a ta) (calm : X.calm = true := by rfl)
    (na : starEach [a] X.env = (false, eval a X.env) :: starEach [] X.env := by rfl) : PE X (.Call (.Name "len" p) [.Call (.Name "set" p2) [a] [] q] [] pos) (tLenSetK X.K ta) := by
  refine ⟨fun pins s σ H Q I h => Call_ (ld_blt I hg hm boot_len (PyProof.Rows.callWith_builtin1 (PyProof.Rows.args_cons ?_ rfl) rfl rfl))⟩
  refine Call_ (ld_blt I hg2 hm2 boot_set (PyProof.Rows.callWith_type1 (PyProof.Rows.args_cons (thn (ha.run pins s σ H _ I h) fun v s1 ⟨x, G, I1, r1, q1⟩ => PyProof.Rows.args_nil ?_) na) na rfl))
  obtain ⟨l, ks, rfl, hq, few, q1⟩ := q1
  cases r1
  have fin : ∀ (g : Heap) (tk : Nat), g.SetOf (mixKind X.prog X.w) s1.heap.objs.size (isIn ks) (dds ks).length → (∀ b o, s1.heap.get? b = some o → g.get? b = some o) →
      wpAny (model X.prog X.w) X.A (call (.builtin "len") [.ref s1.heap.objs.size]) (fun v s' => ∃ (y : V) (J : Hp), Inv X pins σ J s' ∧ RelV y v ∧ Q y J) X.xe { s1 with heap := g, toks := tk } := by
    intro g tk so keep
    obtain ⟨o, es, ep, t, ho, hex, hd, _, _, _, hf, hn⟩ := so
    have I2 : Inv X pins σ G { s1 with heap := g, toks := tk } := I1.kept keep
    have b1 := dds_len ks
    exact call_len_set ho hex hd hf (by rw [hn]; omega) ⟨.int ((dds ks).length : Nat), G, I2.tok _, ⟨_, by rw [hn]⟩, q1⟩
  rcases hq with hq | hq
  · obtain ⟨its, r, pl, hz⟩ := I1.list hq
    have el : its.toArray.size = ks.length := by rw [List.size_toArray, ← r.length, List.length_map]
    refine call_setOfL (knd := mixKind X.prog X.w) ks (I1.ok.hd calm) pl.isList el (by unfold scanBound; omega) (fun i v hv => ?_) fun g tk so keep => PyProof.Rows.args_nil (fin g tk so keep)
    obtain ⟨k, e1, e2⟩ := key_at r i v (by simpa using hv)
    exact ⟨k, e1, kV_is e2, key_scan e2⟩
  · obtain ⟨its, r, pl, hz⟩ := I1.tuple hq
    have el : its.toArray.size = ks.length := by rw [List.size_toArray, ← r.length, List.length_map]
    refine call_setOfT (knd := mixKind X.prog X.w) ks (I1.ok.hd calm) pl el (by unfold scanBound; omega) (fun i v hv => ?_) fun g tk so keep => PyProof.Rows.args_nil (fin g tk so keep)
    obtain ⟨k, e1, e2⟩ := key_at r i v (by simpa using hv)
    exact ⟨k, e1, kV_is e2, key_scan e2⟩
end Gu
namespace Gu
open PySem PySem.Spec PyProof.Rows L2
/-! ### tuples of which the object is known too: their methods -/
def FT (H : Hp) (a : Addr) (xs : List V) : Prop := ∃ o : Obj, H a = some (.frz o (.tup xs)) ∧ o.cls = .type "tuple" ∧ o.dict = none
theorem FT.sq {K : PySem.W.Frag} {H : Hp} {a : Addr} {xs : List V} (h : FT H a xs) : SqT K H a xs := by
  obtain ⟨o, e, _⟩ := h
  exact .inl (.inr ⟨o, e⟩)
theorem FT.same {H G : Hp} {a : Addr} {xs : List V} (s : Same H G) (h : FT H a xs) : FT G a xs := by
  obtain ⟨o, e, r⟩ := h
  exact ⟨o, s _ _ e, r⟩
section
variable {X : Cx}
theorem ft_laid {pins : List (Addr × Obj)} {σ : L2.St} {H : Hp} {s : Shared} {Q : VK} {xs : List V} {us : List Value} (I : Inv X pins σ H s) (r : Vals xs us) (z : xs.length ≤ sizeLine) (q : ∀ U G, Same H G → FT G U xs → H U = none → Q (.ref U) G) :
    EP X pins σ Q (.ref s.heap.objs.size) { s with heap := s.heap.push { cls := .type "tuple", data := .seq us.toArray } } := by
  have hf : H s.heap.objs.size = none := I.hok.fresh (Nat.le_refl _)
  refine ⟨.ref s.heap.objs.size, upd H s.heap.objs.size (.frz { cls := .type "tuple", data := .seq us.toArray } (.tup xs)), I.laid (t' := s.toks) (fun b u e => Heap.get?_push_of_some _ e) (Nat.le_refl _) ?_, rfl, q _ _ (same_new hf) ⟨_, upd_same, rfl, rfl⟩ hf⟩
  exact ⟨Heap.get?_push_size _ rfl, z, us, r, ⟨_, Heap.get?_push_size _ rfl, rfl, _, rfl⟩⟩
def tTupF (t : TA) : TE := fun σ H Q => t σ H fun xs H1 => xs.length ≤ sizeLine ∧ ∀ U G, Same H1 G → FT G U xs → H1 U = none → Q (.ref U) G
theorem pe_tupF {es : List Expr} {t : TA} {x1 : Nat} {pos : Pos} (h : PA X es t) : PE X (.Tuple es x1 pos) (tTupF t) := by
  refine ⟨fun pins s σ H Q I hq => ?_⟩
  exact wpAny_Tuple_spliced (thn (h.run pos pins s σ H _ I hq) fun us s1 ⟨xs, H1, I1, r, z, q⟩ => ⟨by rw [← r.length]; exact z, ft_laid I1 r z q⟩)
def rCatF (H1 : Unit) : R2 := fun x y H Q => ∃ a b xs ys, x = .ref a ∧ y = .ref b ∧ FT H a xs ∧ FT H b ys ∧ xs.length + ys.length ≤ sizeLine ∧ ∀ U G, Same H G → FT G U (xs ++ ys) → Q (.ref U) G
theorem op_catF : OpR X (binaryOp .Add) (rCatF ()) := by
  intro pins s σ H x y v u Q I rx ry h
  obtain ⟨a, b, xs, ys, rfl, rfl, ha, hb, hz, q⟩ := h
  cases rx
  cases ry
  obtain ⟨its, r1, p1, _⟩ := I.tuple ha.sq
  obtain ⟨its2, r2, p2, _⟩ := I.tuple hb.sq
  by_cases hx : xs = []
  · subst hx
    cases r1
    exact cat_tup0 p1 p2 ⟨.ref b, H, I, rfl, q b H (Same.refl H) hb⟩
  · refine HT.cat_tup p1 p2 (fun z => hx (r1.nil_iff.mp z)) (fun z => ?_) (fun z => ?_) (by rw [← r1.length, ← r2.length]; exact hz)
    · have e := r2.nil_iff.mp z
      subst e
      exact ⟨.ref a, H, I, rfl, q a H (Same.refl H) (by rw [List.append_nil]; exact ha)⟩
    · exact ft_laid I (r1.append r2) (by rw [List.length_append]; exact hz) fun U G sG f _ => q U G sG f
def rSlF (H1 : Unit) : V → Option Int → Option Int → Hp → VK → Prop := fun x lo hi H Q => ∃ a xs, x = .ref a ∧ FT H a xs ∧ ∀ U G, Same H G → FT G U (cutV xs lo hi) → Q (.ref U) G
theorem sl_tupF : SlR X (rSlF ()) := by
  intro pins s σ H x v vl vu lo hi sl Q I rx hs pl pu h
  obtain ⟨a, xs, rfl, hx, q⟩ := h
  cases rx
  obtain ⟨its, r, ht, hz⟩ := I.tuple hx.sq
  have hlen : its.toArray.size = xs.length := by rw [List.size_toArray]; exact r.length.symm
  refine ⟨"tuple", _, PyProof.Rows.slot_tuple_getitem.lookup, ht.typeIs, ?_⟩
  by_cases hw : HT.sIx xs.length 0 lo = 0 ∧ HT.sIx xs.length xs.length hi = xs.length
  · refine getItem_tuple_whole ht hs pl pu (by rw [hlen]; exact hw) ⟨.ref a, H, I, rfl, q a H (Same.refl H) ?_⟩
    unfold cutV
    rw [hw.1, hw.2, List.drop_zero, Nat.sub_zero, List.take_length]
    exact hx
  · refine HT.getItem_tuple_cut ht hs pl pu (by rw [hlen]; exact hw) ?_ (by rw [hlen]; exact hz)
    rw [hlen]
    exact ft_laid I ((r.drop (HT.sIx xs.length 0 lo)).take (HT.sIx xs.length xs.length hi - HT.sIx xs.length 0 lo)) (Nat.le_trans (cutV_length xs lo hi) hz) fun U G sG f _ => q U G sG f
/-- t.m(e), t such a tuple -/
def tBMF (r : V → List V → Hp → VK → Prop) (to : TE) (t : TA) : TE := fun σ H Q => to σ H fun x H1 => (∃ a xs, x = .ref a ∧ FT H1 a xs) ∧ t σ H1 fun ys H2 => r x ys H2 Q
theorem pe_bmF {o e : Expr} {es : List Expr} {to : TE} {t : TA} {name : Str} {apos cpos : Pos} {id : String} {r : V → List V → Hp → VK → Prop} (pa : PlainAttrs "tuple") (slot : Slot "tuple" name id) (hty : typeOf (.builtin id) = pure (.type "method_descriptor")) (hm : MtR X id r) (ho : PE X o to) (ha : PA X (e :: es) t)
    (hbase : attributeBase o name X.env (eval o X.env) = eval o X.env := by rfl)
    (hfew : ((backTo cpos (starEach (e :: es) X.env)).all (fun x => !x.1) && (backToKw cpos (keywordEach [] X.env)).all (fun x => x.1.isSome) && decide ((e :: es).length + ([] : List Keyword).length + (if ([] : List Keyword).isEmpty then 0 else 1) < 30)) = true := by rfl)
    (hline : (apos.endLine == cpos.line) = true := by rfl) (hs : starEach (e :: es) X.env = (false, eval e X.env) :: starEach es X.env := by rfl) (hplain : (backTo cpos (starEach es X.env)).any (·.1) = false := by rfl) :
    PE X (.Call (.Attribute o name apos) (e :: es) [] cpos) (tBMF r to t) := by
  refine ⟨fun pins s σ H Q I h => wpAny_Call_method_late hbase hfew hline rfl (thn (ho.run pins s σ H _ I h) fun v s1 ⟨x, H1, I1, r1, ⟨a, xs, ex, o, eo, hc, hd⟩, q1⟩ => ?_)⟩
  subst ex
  cases r1
  have at1 : s1.heap.get? a = some o := (I1.hok a _ eo).1
  refine ⟨"tuple", id, pa, slot, hty, ⟨o, at1, hc⟩, fun b e => by cases e; exact ⟨o, at1, hd⟩, ?_⟩
  have hA := ha.run cpos pins s1 σ H1 _ I1 q1
  rw [hs] at hA ⊢
  exact Calls.callWith_builtin (by show (false || (backTo cpos (starEach es X.env)).any (·.1)) = false; rw [hplain] <;> rfl) (Calls.evalArgs_plain (thn hA fun us s2 ⟨vs, H2, I2, r2, q2⟩ => hm pins s2 σ H2 (.ref a) vs (.ref a) us Q I2 rfl r2 q2))
end
end Gu
namespace Gu
open PySem PySem.Spec PyProof.Rows L2
/-! ### methods -/
structure MethAt (K : PySem.W.Frag) (C : Addr) (m q : Str) (st : Stmt) (ps : List Str) : Prop where
  ex : ∃ (f : Addr) (fd : FuncData), Meth K C m f ∧ Fun K m q st f fd ∧ Binds K fd ps []
structure CalM (P : Program) (w : World) (K : PySem.W.Frag) (mg : Str → Option Value) (base : Heap) (k : Nat) (C : Addr) (m : Str) (ps : List Str) (sp : Sp) : Prop where
  ex : ∃ (f : Addr) (fd : FuncData), Meth K C m f ∧ FnOk P w K mg base CX0 k f fd ps sp ∧ Binds K fd ps []
section
variable {P : Program} {w : World} {K : PySem.W.Frag} {mg : Str → Option Value} {base : Heap} {C : Addr}
theorem MethAt.cal {m q : Str} {st : Stmt} {N ps : List Str} {k : Nat} {sp : Sp} (D : MethAt K C m q st ps) (S : FnScope N ps (defScope st)) (len : ∀ vs H Q E, sp vs H Q E → vs.length = ps.length)
    (body : ∀ (f : Addr) (cdv : Value) (A : Around) (outer : List Env) (s : Shared) (H : Hp) (vs : List V) (Q : VK) (E : XK), Room k (A.deeper (envOfC q (defScope st) s.heap.objs.size f cdv)) → sp vs H Q E →
      ∃ t, PSs (cxOf CX0 P w K mg base N q (defScope st) f cdv A outer s H E).nox (defBody st) t ∧ t { nx := fun _ G => Q .non G, rt := Q } (start N vs) H) : CalM P w K mg base (k + 1) C m ps sp := by
  obtain ⟨f, fd, M, F, b⟩ := D.ex
  exact ⟨f, fd, M, F.ok S len (body f), b⟩
end
section
variable {X : Cx} {k j : Nat} {m : Str} {ps : List Str} {sp : Sp} {apos pos : Pos} {o e : Expr} {es : List Expr} {t : TA} {ta : TE} {C : Addr}
theorem pe_mth (c : CalM X.prog X.w X.K X.mg X.base k C m ps sp) (cl : Cls X.K C) (hr : Room j X.A) (hk : k ≤ j) (he : PE X o ta) (ha : PA X (e :: es) t) {pl : Sem Bool}
    (hst : starEach (e :: es) X.env = (false, eval e X.env) :: starEach es X.env := by rfl) (hpl : (backTo pos (starEach es X.env)).any (·.1) = false := by rfl)
    (ht : eval (.Call (.Attribute o m apos) (e :: es) [] pos) X.env = (do
      let ov ← eval o X.env
      standAt apos.atName
      let (f, first) ← holding [ov] (getMethod ov m pl)
      callWith pos f first (backTo pos (starEach (e :: es) X.env)) (backToKw pos (keywordEach [] X.env))) := by rfl) : PE X (.Call (.Attribute o m apos) (e :: es) [] pos) (tMeth C m sp [] E0 ta t) := by
  obtain ⟨f, fd, M, F, b⟩ := c.ex
  exact pe_meth he cl M F (hr.mono hk) b .nil pass0 ha hst hpl ht
theorem pe_mth0 (c : CalM X.prog X.w X.K X.mg X.base k C m ps sp) (cl : Cls X.K C) (hr : Room j X.A) (hk : k ≤ j) (he : PE X o ta) {pl : Sem Bool}
    (ht : eval (.Call (.Attribute o m apos) [] [] pos) X.env = (do
      let ov ← eval o X.env
      standAt apos.atName
      let (f, first) ← holding [ov] (getMethod ov m pl)
      callWith pos f first (backTo pos (starEach [] X.env)) (backToKw pos (keywordEach [] X.env))) := by rfl) : PE X (.Call (.Attribute o m apos) [] [] pos) (tMeth C m sp [] E0 ta tNil) := by
  obtain ⟨f, fd, M, F, b⟩ := c.ex
  exact pe_meth0 he cl M F (hr.mono hk) b .nil pass0 ht
end
/-! ### shelves in the heap -/
abbrev Prs := List (Str × Str)
def txts (ps : Prs) : List V := (ps.map (·.1)).map V.str
def nms (ps : Prs) : List V := (ps.map (·.2)).map V.str
structure Sf where
  so : Str
  w : Int
  ps : Prs
  past : List Prs
  busy : Bool
structure PrsOk (ps : Prs) : Prop where
  len : ps.length ≤ 20
  wd : ∀ q ∈ ps, Wd 200 q.1 ∧ Wd 203 q.2
structure Sf.ok (S : Sf) : Prop where
  so : S.so ∈ sorts
  w0 : 6 ≤ S.w
  w1 : S.w ≤ 40
  ps : PrsOk S.ps
  past : ∀ ps ∈ S.past, PrsOk ps
  few : S.past.length ≤ 500
def sflds (n a b c : Addr) (z : Bool) : List (Str × V) := [("namer", .ref n), ("busy", .bl z), ("texts", .ref a), ("names", .ref b), ("past", .ref c)]
section
variable {n a b c d : Addr} {z y : Bool}
theorem sf_namer : (sflds n a b c z).lookup ("namer" : Str) = some (.ref n) := rfl
theorem sf_busy : (sflds n a b c z).lookup ("busy" : Str) = some (.bl z) := rfl
theorem sf_texts : (sflds n a b c z).lookup ("texts" : Str) = some (.ref a) := rfl
theorem sf_names : (sflds n a b c z).lookup ("names" : Str) = some (.ref b) := rfl
theorem sf_past : (sflds n a b c z).lookup ("past" : Str) = some (.ref c) := rfl
theorem put_busy : putF "busy" (.bl y) (sflds n a b c z) = sflds n a b c y := rfl
theorem put_texts : putF "texts" (.ref d) (sflds n a b c z) = sflds n d b c z := rfl
theorem put_names : putF "names" (.ref d) (sflds n a b c z) = sflds n a d c z := rfl
theorem put_past : putF "past" (.ref d) (sflds n a b c z) = sflds n a b d z := rfl
end
def PairAt (H : Hp) (q : Addr) (ps : Prs) : Prop := ∃ a b, H q = some (.tup [.ref a, .ref b]) ∧ H a = some (.tup (txts ps)) ∧ FT H b (nms ps)
def PastAt (H : Hp) (c : Addr) (past : List Prs) : Prop := ∃ qs : List (Addr × Prs), H c = some (.tup (qs.map fun q => V.ref q.1)) ∧ qs.map (·.2) = past ∧ ∀ q ∈ qs, PairAt H q.1 q.2
structure ShelfAt (C N : Addr) (H : Hp) (s : Addr) (S : Sf) : Prop where
  ex : ∃ dx n a b c, H s = some (.ins C dx (sflds n a b c S.busy)) ∧ NmAt N H n S.so S.w ∧ H a = some (.tup (txts S.ps)) ∧ FT H b (nms S.ps) ∧ PastAt H c S.past
/-- what stands, but at the places of l -/
def Kp (l : List Addr) (H G : Hp) : Prop := ∀ b o, H b = some o → b ∉ l → G b = some o
theorem Kp.refl {l : List Addr} {H : Hp} : Kp l H H := fun _ _ e _ => e
theorem Kp.trans {l : List Addr} {H G J : Hp} (a : Kp l H G) (b : Kp l G J) : Kp l H J := fun c o e n => b c o (a c o e n) n
theorem Kp.same {l : List Addr} {H G : Hp} (s : Same H G) : Kp l H G := fun b o e _ => s b o e
theorem Kp.mono {l m : List Addr} {H G : Hp} (k : Kp l H G) (h : ∀ b ∈ l, b ∈ m) : Kp m H G := fun b o e n => k b o e fun z => n (h b z)
theorem Kp.lad {p : Addr} {H G : Hp} (L : Ladled p H G) : Kp [p] H G := fun b o e n => L.keep b o e fun z => n (List.mem_singleton.mpr z)
theorem PairAt.same {H G : Hp} {q : Addr} {ps : Prs} (s : Same H G) (h : PairAt H q ps) : PairAt G q ps := by
  obtain ⟨a, b, e1, e2, e3⟩ := h
  exact ⟨a, b, s _ _ e1, s _ _ e2, e3.same s⟩
theorem PastAt.same {H G : Hp} {c : Addr} {past : List Prs} (s : Same H G) (h : PastAt H c past) : PastAt G c past := by
  obtain ⟨qs, e, h1, h2⟩ := h
  exact ⟨qs, s _ _ e, h1, fun q hq => (h2 q hq).same s⟩
theorem ShelfAt.same {C N : Addr} {H G : Hp} {s : Addr} {S : Sf} (k : Same H G) (h : ShelfAt C N H s S) : ShelfAt C N G s S := by
  obtain ⟨dx, n, a, b, c, e0, e1, e2, e3, e4⟩ := h.ex
  exact ⟨dx, n, a, b, c, k _ _ e0, e1.same k, k _ _ e2, e3.same k, e4.same k⟩
/-- at the places of l stand pots and shelves -/
def Muts (C N : Addr) (l : List Addr) (H : Hp) : Prop := ∀ b ∈ l, Pot H b ∨ ∃ S, ShelfAt C N H b S
section
variable {C N : Addr} {l : List Addr} {H G : Hp}
theorem Muts.tup (m : Muts C N l H) {q : Addr} {xs : List V} (e : H q = some (.tup xs)) : q ∉ l := fun hq => by
  rcases m q hq with ⟨x, y, z, f⟩ | ⟨S, h⟩
  · rw [e] at f
    cases f
  · obtain ⟨_, _, _, _, _, f, _⟩ := h.ex
    rw [e] at f
    cases f
theorem Muts.ft (m : Muts C N l H) {q : Addr} {xs : List V} (h : FT H q xs) : q ∉ l := fun hq => by
  obtain ⟨o, e, _⟩ := h
  rcases m q hq with ⟨x, y, z, f⟩ | ⟨S, h⟩
  · rw [e] at f
    cases f
  · obtain ⟨_, _, _, _, _, f, _⟩ := h.ex
    rw [e] at f
    cases f
theorem FT.kp (m : Muts C N l H) (k : Kp l H G) {q : Addr} {xs : List V} (h : FT H q xs) : FT G q xs := by
  have n := m.ft h
  obtain ⟨o, e, r⟩ := h
  exact ⟨o, k _ _ e n, r⟩
theorem nfl_len (so : Str) (w : Int) : (nflds so w).length ≤ 2 := by
  unfold nflds
  exact Nat.le_trans (length_putF _ _ _) (Nat.succ_le_succ (length_putF _ _ _))
theorem Muts.nm (m : Muts C N l H) {M q : Addr} {so : Str} {w : Int} (h : NmAt M H q so w) : q ∉ l := fun hq => by
  obtain ⟨dx, e⟩ := h
  rcases m q hq with ⟨x, y, z, f⟩ | ⟨S, h⟩
  · rw [e] at f
    cases f
  · obtain ⟨_, _, _, _, _, f, _⟩ := h.ex
    rw [e] at f
    injection f with f
    injection f with _ _ f
    have l2 := nfl_len so w
    rw [f] at l2
    exact absurd l2 (by show ¬ (5 ≤ 2); decide)
theorem PairAt.kp (m : Muts C N l H) (k : Kp l H G) {q : Addr} {ps : Prs} (h : PairAt H q ps) : PairAt G q ps := by
  obtain ⟨a, b, e1, e2, e3⟩ := h
  exact ⟨a, b, k _ _ e1 (m.tup e1), k _ _ e2 (m.tup e2), e3.kp m k⟩
theorem PastAt.kp (m : Muts C N l H) (k : Kp l H G) {c : Addr} {past : List Prs} (h : PastAt H c past) : PastAt G c past := by
  obtain ⟨qs, e, h1, h2⟩ := h
  exact ⟨qs, k _ _ e (m.tup e), h1, fun q hq => (h2 q hq).kp m k⟩
theorem NmAt.kp (m : Muts C N l H) (k : Kp l H G) {M q : Addr} {so : Str} {w : Int} (h : NmAt M H q so w) : NmAt M G q so w := by
  have nq := m.nm h
  obtain ⟨dx, e⟩ := h
  exact ⟨dx, k _ _ e nq⟩
/-- a shelf that is none of them stands -/
theorem ShelfAt.kp (m : Muts C N l H) (k : Kp l H G) {s : Addr} {S : Sf} (h : ShelfAt C N H s S) (n : s ∉ l) : ShelfAt C N G s S := by
  obtain ⟨dx, n1, a, b, c, e0, e1, e2, e3, e4⟩ := h.ex
  exact ⟨dx, n1, a, b, c, k _ _ e0 n, e1.kp m k, k _ _ e2 (m.tup e2), e3.kp m k, e4.kp m k⟩
end
/-- one text comes -/
def Sf.come (S : Sf) (t : Str) : Sf := { S with ps := S.ps ++ [(t, nameOf S.so S.w t S.ps)], past := S.past ++ [S.ps] }
/-- the one at i goes -/
def Sf.go (S : Sf) (i : Nat) : Sf := { S with ps := S.ps.take i ++ S.ps.drop (i + 1), past := S.past ++ [S.ps] }
end Gu
namespace Gu
open PySem PySem.Spec PyProof.Rows L2
/-! ### the class Shelf -/
structure ShlC (K : PySem.W.Frag) (mg : Str → Option Value) (C : Addr) : Prop where
  cl : Cls K C
  nN : NoAttr K C "namer"
  nB : NoAttr K C "busy"
  nT : NoAttr K C "texts"
  nM : NoAttr K C "names"
  nP : NoAttr K C "past"
  g : mg "Shelf" = some (.ref C)
theorem kp_upd {s : Addr} {H : Hp} {o : HO} : Kp [s] H (upd H s o) := fun b x e n => by
  rw [upd_ne fun z => n (List.mem_singleton.mpr z)]
  exact e
theorem nextOf_ps (so : Str) (w : Int) (t : Str) (ps : Prs) : nextOf so w t (ps.map (·.1)) (ps.map (·.2)) = nameOf so w t ps := by
  have e : (alike w t (ps.map (·.1))).length = (mates w t ps).length := by
    unfold mates alike
    rw [List.filter_map, List.length_map]
    rfl
  unfold nextOf nameOf countedOf freeP
  rw [e]
theorem sl_okU {K : PySem.W.Frag} {H : Hp} {a : Addr} {xs : List V} {Q : VK} {lo hi : Option Int} (ha : H a = some (.tup xs)) (q : ∀ U G, Same H G → G U = some (.tup (cutV xs lo hi)) → Q (.ref U) G) : rSlA K (.ref a) lo hi H Q := by
  refine ⟨a, xs, rfl, .inl (.inl ha), fun ⟨e1, e2⟩ => q a H (Same.refl H) ?_, fun _ p np => q p _ (same_new np) upd_same⟩
  unfold cutV
  rw [e1, e2, List.drop_zero, Nat.sub_zero, List.take_length]
  exact ha
theorem catU {K : PySem.W.Frag} {H : Hp} {a b : Addr} {xs ys : List V} {Q : VK} (ha : H a = some (.tup xs)) (hb : H b = some (.tup ys)) (hl : xs.length + ys.length ≤ sizeLine) (q : ∀ U G, Same H G → G U = some (.tup (xs ++ ys)) → Q (.ref U) G) : rCatA K (.ref a) (.ref b) H Q := by
  refine ⟨a, b, xs, ys, rfl, rfl, .inl (.inl ha), .inl (.inl hb), hl, fun e => q b H (Same.refl H) ?_, fun _ e => q a H (Same.refl H) ?_, fun _ _ p np => q p _ (same_new np) upd_same⟩
  · rw [e]
    exact hb
  · rw [e, List.append_nil]
    exact ha
section
variable {P : Program} {w : World} {K : PySem.W.Frag} {mg : Str → Option Value} {base : Heap} {C N : Addr}
/-! check_text, for texts -/
def spCheckTextW : Sp := fun vs H Q _ => ∃ t : Str, vs = [.str t] ∧ Wd 200 t ∧ ∀ G, Same H G → Q .non G
theorem cal_checkTextW (B : Bi mg) (D : At K mg "check_text" s_check_text ps_check_text) (C_is_text : Cal P w K mg base 1 "is_text" ps_is_text (spIsText K)) : Cal P w K mg base 2 "check_text" ps_check_text spCheckTextW := by
  refine D.cal sc_check_text (fun vs H Q E h => ?_) (fun f cdv A outer s H vs Q E hr h => ?_)
  · obtain ⟨t, rfl, _⟩ := h
    rfl
  · obtain ⟨t, rfl, wt, k⟩ := h
    have tl : t.length ≤ 200 := wt.len
    refine ⟨_, (pss_one (ps_if (pt_not (pt_val (pe_own C_is_text hr (by decide) (by rfl) (pa_cons (pv 0) (pa_cons (pe_cst B.MOST_TEXT (by rfl)) pa_nil))))) pss_never pss_nil)), ?_⟩
    refine ⟨_, rfl, _, _, rfl, .inl ⟨t, rfl, by omega, fun G sG => ⟨_, rfl, ?_⟩⟩⟩
    rw [show isTxt t 200 = true from wd_isTxt wt]
    exact iteF (k G sG)
/-! Shelf.__init__ -/
def spShInit (C N : Addr) : Sp := fun vs H Q _ => ∃ (x dx n : Addr) (so : Str) (w : Int), vs = [.ref x, .ref n] ∧ H x = some (.ins C dx []) ∧ NmAt N H n so w ∧ ∀ G, Kp [x] H G → ShelfAt C N G x ⟨so, w, [], [], false⟩ → Q .non G
theorem ok_shinit {f : Addr} {fd : FuncData} (B : Bi mg) (S : ShlC K mg C) (F : Fun K "__init__" "Shelf.__init__" s_Shelf_init f fd) (C_check_namer : Cal P w K mg base 1 "check_namer" ps_check_namer (spCheckNamer N)) : FnOk P w K mg base CX0 2 f fd ps_Shelf_init (spShInit C N) := by
  refine F.ok sc_Shelf_init (fun vs H Q E h => ?_) (fun cdv A outer s H vs Q E hr h => ?_)
  · obtain ⟨x, dx, n, so, w, rfl, _⟩ := h
    rfl
  · obtain ⟨x, dx, n, so, w, rfl, hx, hN, k⟩ := h
    have nx : n ≠ x := fun z => by
      obtain ⟨d, e⟩ := hN
      rw [z, hx] at e
      injection e with e
      injection e with _ _ e
      have a := nflds_rule so w
      rw [← e] at a
      cases a
    refine ⟨_, (pss_cons (ps_expr (pe_own C_check_namer hr (by decide) (by rfl) (pa_cons (pv 1) pa_nil)))
      (pss_cons (ps_fld (pv 0) (pv 1) rfl)
      (pss_cons (ps_fld (pv 0) pe_bl rfl)
      (pss_cons (ps_fld (pv 0) (pe_tup pa_nil) rfl)
      (pss_cons (ps_fld (pv 0) (pe_tupF pa_nil) rfl)
      (pss_one (ps_fld (pv 0) (pe_tup pa_nil) rfl))))))), ?_⟩
    refine ⟨_, rfl, n, so, w, rfl, hN, ?_⟩
    refine ⟨_, rfl, _, rfl, x, C, dx, [], rfl, hx, S.cl, S.nN, by decide, ?_⟩
    generalize hG : upd H x _ = G1
    have k1 : Kp [x] H G1 := hG ▸ kp_upd
    have e1 : G1 x = some (.ins C dx [("namer", .ref n)]) := by rw [← hG]; exact upd_same
    clear hG
    refine ⟨_, rfl, x, C, dx, _, rfl, e1, S.cl, S.nB, by show 1 < 1000; decide, ?_⟩
    generalize hG : upd G1 x _ = G2
    have k2 : Kp [x] G1 G2 := hG ▸ kp_upd
    have e2 : G2 x = some (.ins C dx [("namer", .ref n), ("busy", .bl false)]) := by rw [← hG]; exact upd_same
    clear hG
    refine ⟨by show 0 ≤ sizeLine; decide, fun a na => ?_⟩
    generalize hG : upd G2 a _ = G3
    have s3 : Same G2 G3 := hG ▸ same_new na
    have ea : G3 a = some (.tup []) := by rw [← hG]; exact upd_same
    clear hG
    have nax : a ≠ x := fun z => by rw [z, e2] at na; cases na
    refine ⟨_, rfl, x, C, dx, _, rfl, s3 _ _ e2, S.cl, S.nT, by show 2 < 1000; decide, ?_⟩
    generalize hG : upd G3 x _ = G4
    have k4 : Kp [x] G3 G4 := hG ▸ kp_upd
    have e4 : G4 x = some (.ins C dx [("namer", .ref n), ("busy", .bl false), ("texts", .ref a)]) := by rw [← hG]; exact upd_same
    clear hG
    refine ⟨by show 0 ≤ sizeLine; decide, fun b G5 s5 eb nb => ?_⟩
    have nbx : b ≠ x := fun z => by rw [z, e4] at nb; cases nb
    refine ⟨_, rfl, x, C, dx, _, rfl, s5 _ _ e4, S.cl, S.nM, by show 3 < 1000; decide, ?_⟩
    generalize hG : upd G5 x _ = G6
    have k6 : Kp [x] G5 G6 := hG ▸ kp_upd
    have e6 : G6 x = some (.ins C dx [("namer", .ref n), ("busy", .bl false), ("texts", .ref a), ("names", .ref b)]) := by rw [← hG]; exact upd_same
    clear hG
    refine ⟨by show 0 ≤ sizeLine; decide, fun c nc => ?_⟩
    generalize hG : upd G6 c _ = G7
    have s7 : Same G6 G7 := hG ▸ same_new nc
    have ec : G7 c = some (.tup []) := by rw [← hG]; exact upd_same
    clear hG
    have ncx : c ≠ x := fun z => by rw [z, e6] at nc; cases nc
    refine ⟨_, rfl, x, C, dx, _, rfl, s7 _ _ e6, S.cl, S.nP, by show 4 < 1000; decide, ?_⟩
    generalize hG : upd G7 x _ = G8
    have k8 : Kp [x] G7 G8 := hG ▸ kp_upd
    have e8 : G8 x = some (.ins C dx (sflds n a b c false)) := by rw [← hG]; exact upd_same
    clear hG
    have no : ∀ {b : Addr}, b ≠ x → b ∉ [x] := fun h z => h (List.mem_singleton.mp z)
    have kA : Kp [x] H G8 := k1.trans (k2.trans ((Kp.same s3).trans (k4.trans ((Kp.same s5).trans (k6.trans ((Kp.same s7).trans k8))))))
    refine k G8 kA ⟨dx, n, a, b, c, e8, ?_, k8 _ _ (s7 _ _ (k6 _ _ (s5 _ _ (k4 _ _ ea (no nax))) (no nax))) (no nax), ?_, [], k8 _ _ ec (no ncx), rfl, fun q hq => by cases hq⟩
    · obtain ⟨d, e⟩ := hN
      exact ⟨d, kA _ _ e (no nx)⟩
    · obtain ⟨o, e, r⟩ := eb
      exact ⟨o, k8 _ _ (s7 _ _ (k6 _ _ e (no nbx))) (no nbx), r⟩
/-! Shelf.become -/
def spBecome (C N : Addr) : Sp := fun vs H Q _ => ∃ (s a b : Addr) (S : Sf) (ps : Prs), vs = [.ref s, .ref a, .ref b] ∧ ShelfAt C N H s S ∧ S.past.length ≤ 10000 ∧ H a = some (.tup (txts ps)) ∧ FT H b (nms ps) ∧ ∀ G, Kp [s] H G → ShelfAt C N G s { S with ps := ps, past := S.past ++ [S.ps] } → Q .non G
theorem cal_become (B : Bi mg) (Z : ShlC K mg C) (D : MethAt K C "become" "Shelf.become" s_Shelf_become ps_Shelf_become) : CalM P w K mg base 1 C "become" ps_Shelf_become (spBecome C N) := by
  refine D.cal sc_Shelf_become (fun vs H Q E h => ?_) (fun f cdv A outer s H vs Q E hr h => ?_)
  · obtain ⟨s, a, b, S, ps, rfl, _⟩ := h
    rfl
  · obtain ⟨s, a, b, S, ps, rfl, hS, few, ha, hb, k⟩ := h
    obtain ⟨dx, n, a0, b0, c0, e0, e1, e2, e3, qs, e4, q1, q2⟩ := hS.ex
    have ql : qs.length = S.past.length := by rw [← q1, List.length_map]
    refine ⟨_, (pss_cons (ps_fld (pv 0) (pe_op op_catA (pe_fld (pv 0) rfl) (pe_tup (pa_cons (pe_tup (pa_cons (pe_fld (pv 0) rfl) (pa_cons (pe_fld (pv 0) rfl) pa_nil))) pa_nil))) rfl)
      (pss_cons (ps_fld (pv 0) (pv 1) rfl)
      (pss_one (ps_fld (pv 0) (pv 2) rfl)))), ?_⟩
    refine ⟨_, rfl, s, C, dx, _, _, rfl, e0, Z.cl, Z.nP, sf_past, _, rfl, s, C, dx, _, _, rfl, e0, Z.cl, Z.nT, sf_texts, _, rfl, s, C, dx, _, _, rfl, e0, Z.cl, Z.nM, sf_names, by show 2 ≤ sizeLine; decide, fun q nq => ?_⟩
    generalize hG : upd H q _ = G1
    have s1 : Same H G1 := hG ▸ same_new nq
    have eq : G1 q = some (.tup [.ref a0, .ref b0]) := by rw [← hG]; exact upd_same
    clear hG
    refine ⟨by show 1 ≤ sizeLine; decide, fun u nu => ?_⟩
    generalize hG : upd G1 u _ = G2
    have s2 : Same G1 G2 := hG ▸ same_new nu
    have eu : G2 u = some (.tup [.ref q]) := by rw [← hG]; exact upd_same
    clear hG
    refine catU (s2 _ _ (s1 _ _ e4)) eu ?_ fun U G3 s3 eU => ?_
    · rw [List.length_map, List.length_singleton, sizeLine_eq]
      omega
    have sA := s1.trans (s2.trans s3)
    refine ⟨_, rfl, s, C, dx, _, rfl, sA _ _ e0, Z.cl, Z.nP, by show 5 < 1000; decide, ?_⟩
    rw [put_past]
    generalize hG : upd G3 s _ = G4
    have k4 : Kp [s] G3 G4 := hG ▸ kp_upd
    have f4 : G4 s = some (.ins C dx (sflds n a0 b0 U S.busy)) := by rw [← hG]; exact upd_same
    clear hG
    refine ⟨_, rfl, _, rfl, s, C, dx, _, rfl, f4, Z.cl, Z.nT, by show 5 < 1000; decide, ?_⟩
    rw [put_texts]
    generalize hG : upd G4 s _ = G5
    have k5 : Kp [s] G4 G5 := hG ▸ kp_upd
    have f5 : G5 s = some (.ins C dx (sflds n a b0 U S.busy)) := by rw [← hG]; exact upd_same
    clear hG
    refine ⟨_, rfl, _, rfl, s, C, dx, _, rfl, f5, Z.cl, Z.nM, by show 5 < 1000; decide, ?_⟩
    rw [put_names]
    generalize hG : upd G5 s _ = G6
    have k6 : Kp [s] G5 G6 := hG ▸ kp_upd
    have f6 : G6 s = some (.ins C dx (sflds n a b U S.busy)) := by rw [← hG]; exact upd_same
    clear hG
    have kB : Kp [s] G3 G6 := k4.trans (k5.trans k6)
    have kA : Kp [s] H G6 := (Kp.same sA).trans kB
    have m : Muts C N [s] H := fun x hx => .inr ⟨S, by rw [List.mem_singleton.mp hx]; exact hS⟩
    have off : ∀ {H2 : Hp} {x : Addr} {xs : List V}, Same H H2 → H2 x = some (.tup xs) → x ∉ [s] := fun {H2 x xs} h e z => by
      have := h _ _ e0
      rw [List.mem_singleton.mp z, this] at e
      cases e
    refine k G6 kA ⟨dx, n, a, b, U, f6, e1.kp m kA, kA _ _ ha (m.tup ha), hb.kp m kA, qs ++ [(q, S.ps)], ?_, by rw [List.map_append, q1]; rfl, fun x hx => ?_⟩
    · rw [List.map_append]
      exact kB _ _ eU (off sA eU)
    · rcases List.mem_append.mp hx with hx | hx
      · exact (q2 x hx).kp m kA
      · rw [List.mem_singleton.mp hx]
        have eq3 := s3 _ _ (s2 _ _ eq)
        exact ⟨a0, b0, kB _ _ eq3 (off sA eq3), kA _ _ e2 (m.tup e2), e3.kp m kA⟩
end
end Gu
namespace Gu
open PySem PySem.Spec PyProof.Rows L2
theorem cutV_hd (xs : List V) (i : Nat) : cutV xs none (some (i : Int)) = xs.take i := by
  unfold cutV
  rw [HT.sIx_none, HT.sIx_nat, List.drop_zero, Nat.sub_zero, List.take_eq_take_iff]
  omega
theorem cutV_bk (xs : List V) (i : Nat) : cutV xs (some (i : Int)) none = xs.drop i := by
  unfold cutV
  rw [show HT.sIx xs.length xs.length none = xs.length from rfl, HT.sIx_nat]
  rcases Nat.lt_or_ge i xs.length with h | h
  · rw [Nat.min_eq_left (Nat.le_of_lt h), List.take_of_length_le (by rw [List.length_drop]; exact Nat.le_refl _)]
  · rw [Nat.min_eq_right h, Nat.sub_self, List.take_zero, List.drop_eq_nil_of_le h]
theorem noPartS {σ : L2.St} {H : Hp} {Q : Option Int → Hp → Prop} (h : Q none H) : tNoPart σ H Q := h
theorem wd_len {n : Nat} {t : Str} (h : Wd n t) : t.length ≤ n := h.len
section
variable {P : Program} {w : World} {K : PySem.W.Frag} {mg : Str → Option Value} {base : Heap} {C N : Addr}
theorem txts_cat (ps : Prs) (t y : Str) : txts ps ++ [.str t] = txts (ps ++ [(t, y)]) := by
  unfold txts
  rw [List.map_append, List.map_append]
  rfl
theorem nms_cat (ps : Prs) (t y : Str) : nms ps ++ [.str y] = nms (ps ++ [(t, y)]) := by
  unfold nms
  rw [List.map_append, List.map_append]
  rfl
theorem txts_go (ps : Prs) (i : Nat) : (txts ps).take i ++ (txts ps).drop (i + 1) = txts (ps.take i ++ ps.drop (i + 1)) := by
  unfold txts
  rw [List.map_append, List.map_append, List.map_take, List.map_take, List.map_drop, List.map_drop]
theorem nms_go (ps : Prs) (i : Nat) : (nms ps).take i ++ (nms ps).drop (i + 1) = nms (ps.take i ++ ps.drop (i + 1)) := by
  unfold nms
  rw [List.map_append, List.map_append, List.map_take, List.map_take, List.map_drop, List.map_drop]
theorem txts_len (ps : Prs) : (txts ps).length = ps.length := by
  unfold txts
  rw [List.length_map, List.length_map]
theorem nms_len (ps : Prs) : (nms ps).length = ps.length := by
  unfold nms
  rw [List.length_map, List.length_map]
/-! let_come -/
def spLetCome (C N : Addr) : Sp := fun vs H Q _ => ∃ (s : Addr) (t : Str) (S : Sf), vs = [.ref s, .str t] ∧ ShelfAt C N H s S ∧ S.ok ∧ Wd 200 t ∧ S.ps.length < 20 ∧ ∀ G, Kp [s] H G → ShelfAt C N G s (S.come t) → Q (.str (nameOf S.so S.w t S.ps)) G
theorem cal_letCome (B : Bi mg) (Z : ShlC K mg C) (D : MethAt K C "let_come" "Shelf.let_come" s_Shelf_let_come ps_Shelf_let_come) (C_check_text : Cal P w K mg base 2 "check_text" ps_check_text spCheckTextW) (C_name_of_next : Cal P w K mg base 3 "name_of_next" ps_name_of_next (spNextQ K N)) (M_become : CalM P w K mg base 1 C "become" ps_Shelf_become (spBecome C N)) : CalM P w K mg base 4 C "let_come" ps_Shelf_let_come (spLetCome C N) := by
  refine D.cal sc_Shelf_let_come (fun vs H Q E h => ?_) (fun f cdv A outer s H vs Q E hr h => ?_)
  · obtain ⟨s, t, S, rfl, _⟩ := h
    rfl
  · obtain ⟨s, t, S, rfl, hS, ok, wt, l20, k⟩ := h
    have tl := wd_len wt
    refine ⟨_, (pss_cons (ps_expr (pe_own C_check_text hr (by decide) (by rfl) (pa_cons (pv 1) pa_nil)))
      (pss_cons (ps_if (pt_cmpR op_ge (pe_callB call_len_seq (by rfl) B.len (by decide +kernel) (pa_cons (pe_fld (pv 0) rfl) pa_nil)) (pe_cst B.MOST_SHELVED (by rfl)) (nomark _)) pss_never pss_nil)
      (pss_cons (ps_set (i := 2) sc_Shelf_let_come.nd rfl (.inl rfl) (pe_own C_name_of_next hr (by decide) (by rfl) (pa_cons (pe_fld (pv 0) rfl) (pa_cons (pv 1) (pa_cons (pe_fld (pv 0) rfl) (pa_cons (pe_fld (pv 0) rfl) pa_nil))))))
      (pss_cons (ps_expr (pe_mth M_become Z.cl hr (by decide) (pv 0) (pa_cons (pe_op op_catA (pe_fld (pv 0) rfl) (pe_tup (pa_cons (pv 1) pa_nil))) (pa_cons (pe_op op_catF (pe_fld (pv 0) rfl) (pe_tupF (pa_cons (pv 2) pa_nil))) pa_nil))))
      (pss_one (ps_ret (pv 2))))))), ?_⟩
    refine ⟨_, rfl, t, rfl, wt, fun G1 s1 => ?_⟩
    have hS1 := hS.same s1
    obtain ⟨dx, n, a, b, c, e0, e1, e2, e3, e4⟩ := id hS1.ex
    refine ⟨_, rfl, s, C, dx, _, _, rfl, e0, Z.cl, Z.nT, sf_texts, a, _, rfl, .inr (.inl (.inl e2)), _, _, rfl, rfl, _, rfl, ?_⟩
    rw [txts_len, decide_eq_false (show ¬ (20 : Int) ≤ (S.ps.length : Int) by omega)]
    refine iteF ?_
    refine ⟨_, rfl, s, C, dx, _, _, rfl, e0, Z.cl, Z.nN, sf_namer, _, rfl, _, rfl, s, C, dx, _, _, rfl, e0, Z.cl, Z.nT, sf_texts, _, rfl, s, C, dx, _, _, rfl, e0, Z.cl, Z.nM, sf_names, ?_⟩
    refine ⟨n, a, b, S.so, S.w, t, S.ps.map (fun q : Str × Str => q.1), S.ps.map (fun q : Str × Str => q.2), rfl, e1, by omega, .inl (.inl e2), by rw [List.length_map]; omega, fun u hu => ?_, e3.sq, by rw [List.length_map]; omega, fun G2 s2 => ?_⟩
    · obtain ⟨q, hq, rfl⟩ := List.mem_map.mp hu
      exact (ok.ps.wd q hq).1
    rw [nextOf_ps]
    have hS2 := hS1.same s2
    have e0 := s2 _ _ e0
    have e2 := s2 _ _ e2
    have e3 := e3.same s2
    refine ⟨_, rfl, s, dx, _, rfl, e0, rfl, ?_⟩
    refine ⟨_, rfl, s, C, dx, _, _, rfl, e0, Z.cl, Z.nT, sf_texts, _, rfl, by show 1 ≤ sizeLine; decide, fun q nq => ?_⟩
    generalize hG : upd G2 q _ = G3
    have s3 : Same G2 G3 := hG ▸ same_new nq
    have eq : G3 q = some (.tup [.str t]) := by rw [← hG]; exact upd_same
    clear hG
    refine catU (s3 _ _ e2) eq (by rw [txts_len, List.length_singleton, sizeLine_eq]; omega) fun U G4 s4 eU => ?_
    rw [txts_cat S.ps t (nameOf S.so S.w t S.ps)] at eU
    have e0 := s4 _ _ (s3 _ _ e0)
    have e3 := (e3.same s3).same s4
    refine ⟨_, rfl, s, C, dx, _, _, rfl, e0, Z.cl, Z.nM, sf_names, _, rfl, by show 1 ≤ sizeLine; decide, fun u G5 s5 eu nu => ?_⟩
    refine ⟨b, u, _, _, rfl, rfl, e3.same s5, eu, (by rw [nms_len, List.length_singleton, sizeLine_eq]; omega), fun W G6 s6 eW => ?_⟩
    rw [nms_cat S.ps t (nameOf S.so S.w t S.ps)] at eW
    have sA := s3.trans (s4.trans (s5.trans s6))
    refine ⟨s, U, W, S, S.ps ++ [(t, nameOf S.so S.w t S.ps)], rfl, hS2.same sA, by have := ok.few; omega, s6 _ _ (s5 _ _ eU), eW, fun G7 k7 h7 => ?_⟩
    exact ⟨_, rfl, k G7 ((Kp.same (s1.trans (s2.trans sA))).trans k7) h7⟩
/-! let_go -/
def spLetGo (C N : Addr) : Sp := fun vs H Q _ => ∃ (s : Addr) (y t : Str) (S : Sf) (j : Nat), vs = [.ref s, .str y] ∧ ShelfAt C N H s S ∧ S.ok ∧ S.ps[j]? = some (t, y) ∧ (∀ m, m < j → (S.ps.map (·.2))[m]? ≠ some y) ∧ ∀ G, Kp [s] H G → ShelfAt C N G s (S.go j) → Q (.str t) G
theorem cal_letGo (B : Bi mg) (Z : ShlC K mg C) (D : MethAt K C "let_go" "Shelf.let_go" s_Shelf_let_go ps_Shelf_let_go) (M_become : CalM P w K mg base 1 C "become" ps_Shelf_become (spBecome C N)) : CalM P w K mg base 2 C "let_go" ps_Shelf_let_go (spLetGo C N) := by
  refine D.cal sc_Shelf_let_go (fun vs H Q E h => ?_) (fun f cdv A outer s H vs Q E hr h => ?_)
  · obtain ⟨s, y, t, S, j, rfl, _⟩ := h
    rfl
  · obtain ⟨s, y, t, S, j, rfl, hS, ok, hj, first, k⟩ := h
    obtain ⟨dx, n, a, b, c, e0, e1, e2, e3, e4⟩ := id hS.ex
    have jl : j < S.ps.length := (List.getElem?_eq_some_iff.mp hj).1
    have pl := ok.ps.len
    have yin : (S.ps.map (·.2))[j]? = some y := by rw [List.getElem?_map, hj]; rfl
    refine ⟨_, (pss_cons (ps_if (PW.pt (pw_or (pt_not (pt_val (pe_callB call_isi (by rfl) B.isinstance (by decide +kernel) (pa_cons (pv 1) (pa_cons (pe_bltn (v := .ty "str") (by rfl) B.str (by decide +kernel) rfl) pa_nil))))) (pw_or1 (pt_cmpR op_notIn_seq (pv 1) (pe_fld (pv 0) rfl) (by rfl))))) pss_never pss_nil)
      (pss_cons (ps_set (i := 2) sc_Shelf_let_go.nd rfl (.inl rfl) (pe_bmF PySem.F.plainAttrs_tuple PySem.F.slot_tuple_index PySem.F.type_tuple_index L2.mt_tup_index (pe_fld (pv 0) rfl) (pa_cons (pv 1) pa_nil)))
      (pss_cons (ps_set (i := 3) sc_Shelf_let_go.nd rfl (.inl rfl) (pe_ix ix_tup (pe_fld (pv 0) rfl) (pv 2) (fun _ _ => rfl)))
      (pss_cons (ps_expr (pe_mth M_become Z.cl hr (by decide) (pv 0) (pa_cons (pe_op op_catA (pe_slice sl_tupA (pe_fld (pv 0) rfl) po_none (po_some (pv 2))) (pe_slice sl_tupA (pe_fld (pv 0) rfl) (po_some (pe_op op_add (pv 2) pe_int)) po_none)) (pa_cons (pe_op op_catF (pe_slice sl_tupF (pe_fld (pv 0) rfl) po_none (po_some (pv 2))) (pe_slice sl_tupF (pe_fld (pv 0) rfl) (po_some (pe_op op_add (pv 2) pe_int)) po_none)) pa_nil))))
      (pss_one (ps_ret (pv 3))))))), ?_⟩
    obtain ⟨ty, i1, i2⟩ := Isa.str_str (K := K) (H := H) (z := y)
    refine ⟨_, rfl, _, _, ty, _, true, rfl, .ty _, i1, i2, _, rfl, iteF ?_⟩
    refine ⟨_, rfl, _, rfl, s, C, dx, _, _, rfl, e0, Z.cl, Z.nM, sf_names, b, _, rfl, .inr e3.sq, rfl, flat_strs _, _, rfl, ?_⟩
    rw [show inV (V.str y) (nms S.ps) = true by unfold nms; rw [in_strs]; exact decide_eq_true (List.mem_of_getElem? yin)]
    refine iteF ?_
    refine ⟨_, rfl, s, C, dx, _, _, rfl, e0, Z.cl, Z.nM, sf_names, ⟨b, _, rfl, e3⟩, _, rfl, b, S.ps.map (fun q : Str × Str => q.2), y, j, rfl, rfl, e3.sq, yin, first, ?_⟩
    refine ⟨_, rfl, s, C, dx, _, _, rfl, e0, Z.cl, Z.nT, sf_texts, _, rfl, a, _, _, .str t, rfl, rfl, .inl (.inl e2), atI_nat (j := j) (by unfold txts; rw [List.getElem?_map, List.getElem?_map, hj]; rfl), ?_⟩
    refine ⟨_, rfl, s, dx, _, rfl, e0, rfl, ?_⟩
    refine ⟨_, rfl, s, C, dx, _, _, rfl, e0, Z.cl, Z.nT, sf_texts, _, rfl, _, rfl, sl_okU e2 fun U1 G1 s1 f1 => ?_⟩
    rw [cutV_hd] at f1
    refine ⟨_, rfl, s, C, dx, _, _, rfl, s1 _ _ e0, Z.cl, Z.nT, sf_texts, _, rfl, _, _, rfl, rfl, _, rfl, noPartS (sl_okU (s1 _ _ e2) fun U2 G2 s2 f2 => ?_)⟩
    have f2 : G2 U2 = some (.tup (cutV (txts S.ps) (some ((j + 1 : Nat) : Int)) none)) := f2
    rw [cutV_bk] at f2
    refine catU (s2 _ _ f1) f2 ?_ fun U3 G3 s3 f3 => ?_
    · rw [List.length_take, List.length_drop, txts_len, sizeLine_eq]
      omega
    rw [txts_go] at f3
    have s13 := s1.trans (s2.trans s3)
    have e0 := s13 _ _ e0
    have e3 := e3.same s13
    refine ⟨_, rfl, s, C, dx, _, _, rfl, e0, Z.cl, Z.nM, sf_names, _, rfl, _, rfl, b, _, rfl, e3, fun W1 G4 s4 g1 => ?_⟩
    rw [cutV_hd] at g1
    refine ⟨_, rfl, s, C, dx, _, _, rfl, s4 _ _ e0, Z.cl, Z.nM, sf_names, _, rfl, _, _, rfl, rfl, _, rfl, noPartS ⟨b, _, rfl, e3.same s4, fun W2 G5 s5 g2 => ?_⟩⟩
    have g2 : FT G5 W2 (cutV (nms S.ps) (some ((j + 1 : Nat) : Int)) none) := g2
    rw [cutV_bk] at g2
    refine ⟨W1, W2, _, _, rfl, rfl, g1.same s5, g2, ?_, fun W3 G6 s6 g3 => ?_⟩
    · rw [List.length_take, List.length_drop, nms_len, sizeLine_eq]
      omega
    rw [nms_go] at g3
    have s46 := s4.trans (s5.trans s6)
    refine ⟨s, U3, W3, S, S.ps.take j ++ S.ps.drop (j + 1), rfl, hS.same (s13.trans s46), by have := ok.few; omega, s46 _ _ f3, g3, fun G7 k7 h7 => ?_⟩
    exact ⟨_, rfl, k G7 ((Kp.same (s13.trans s46)).trans k7) h7⟩
/-! check_not_busy, add, remove -/
def spCalmS (C N : Addr) : Sp := fun vs H Q _ => ∃ (s : Addr) (S : Sf), vs = [.ref s] ∧ ShelfAt C N H s S ∧ S.busy = false ∧ Q .non H
theorem cal_notBusy (B : Bi mg) (Z : ShlC K mg C) (D : MethAt K C "check_not_busy" "Shelf.check_not_busy" s_Shelf_check_not_busy ps_Shelf_check_not_busy) : CalM P w K mg base 1 C "check_not_busy" ps_Shelf_check_not_busy (spCalmS C N) := by
  refine D.cal sc_Shelf_check_not_busy (fun vs H Q E h => ?_) (fun f cdv A outer s H vs Q E hr h => ?_)
  · obtain ⟨s, S, rfl, _⟩ := h
    rfl
  · obtain ⟨s, S, rfl, hS, bz, k⟩ := h
    obtain ⟨dx, n, a, b, c, e0, _⟩ := id hS.ex
    refine ⟨_, (pss_one (ps_if (pt_val (pe_fld (pv 0) rfl)) pss_never pss_nil)), ?_⟩
    rw [bz] at e0
    exact ⟨_, rfl, s, C, dx, _, _, rfl, e0, Z.cl, Z.nB, sf_busy, _, rfl, iteF k⟩
def spAdd (C N : Addr) : Sp := fun vs H Q _ => ∃ (s : Addr) (t : Str) (S : Sf), vs = [.ref s, .str t] ∧ ShelfAt C N H s S ∧ S.ok ∧ S.busy = false ∧ Wd 200 t ∧ S.ps.length < 20 ∧ ∀ G, Kp [s] H G → ShelfAt C N G s (S.come t) → Q (.str (nameOf S.so S.w t S.ps)) G
theorem cal_add (B : Bi mg) (Z : ShlC K mg C) (D : MethAt K C "add" "Shelf.add" s_Shelf_add ps_Shelf_add) (M_check_not_busy : CalM P w K mg base 1 C "check_not_busy" ps_Shelf_check_not_busy (spCalmS C N)) (M_let_come : CalM P w K mg base 4 C "let_come" ps_Shelf_let_come (spLetCome C N)) : CalM P w K mg base 5 C "add" ps_Shelf_add (spAdd C N) := by
  refine D.cal sc_Shelf_add (fun vs H Q E h => ?_) (fun f cdv A outer s H vs Q E hr h => ?_)
  · obtain ⟨s, t, S, rfl, _⟩ := h
    rfl
  · obtain ⟨s, t, S, rfl, hS, ok, bz, wt, l20, k⟩ := h
    obtain ⟨dx, n, a, b, c, e0, _⟩ := id hS.ex
    refine ⟨_, (pss_cons (ps_expr (pe_mth0 M_check_not_busy Z.cl hr (by decide) (pv 0)))
      (pss_one (ps_ret (pe_mth M_let_come Z.cl hr (by decide) (pv 0) (pa_cons (pv 1) pa_nil))))), ?_⟩
    refine ⟨_, rfl, s, dx, _, rfl, e0, rfl, s, S, rfl, hS, bz, ?_⟩
    exact ⟨_, rfl, s, dx, _, rfl, e0, rfl, _, rfl, s, t, S, rfl, hS, ok, wt, l20, k⟩
def spRemove (C N : Addr) : Sp := fun vs H Q _ => ∃ (s : Addr) (y t : Str) (S : Sf) (j : Nat), vs = [.ref s, .str y] ∧ ShelfAt C N H s S ∧ S.ok ∧ S.busy = false ∧ S.ps[j]? = some (t, y) ∧ (∀ m, m < j → (S.ps.map (·.2))[m]? ≠ some y) ∧ ∀ G, Kp [s] H G → ShelfAt C N G s (S.go j) → Q (.str t) G
theorem cal_remove (B : Bi mg) (Z : ShlC K mg C) (D : MethAt K C "remove" "Shelf.remove" s_Shelf_remove ps_Shelf_remove) (M_check_not_busy : CalM P w K mg base 1 C "check_not_busy" ps_Shelf_check_not_busy (spCalmS C N)) (M_let_go : CalM P w K mg base 2 C "let_go" ps_Shelf_let_go (spLetGo C N)) : CalM P w K mg base 3 C "remove" ps_Shelf_remove (spRemove C N) := by
  refine D.cal sc_Shelf_remove (fun vs H Q E h => ?_) (fun f cdv A outer s H vs Q E hr h => ?_)
  · obtain ⟨s, y, t, S, j, rfl, _⟩ := h
    rfl
  · obtain ⟨s, y, t, S, j, rfl, hS, ok, bz, hj, first, k⟩ := h
    obtain ⟨dx, n, a, b, c, e0, _⟩ := id hS.ex
    refine ⟨_, (pss_cons (ps_expr (pe_mth0 M_check_not_busy Z.cl hr (by decide) (pv 0)))
      (pss_one (ps_ret (pe_mth M_let_go Z.cl hr (by decide) (pv 0) (pa_cons (pv 1) pa_nil))))), ?_⟩
    refine ⟨_, rfl, s, dx, _, rfl, e0, rfl, s, S, rfl, hS, bz, ?_⟩
    exact ⟨_, rfl, s, dx, _, rfl, e0, rfl, _, rfl, s, y, t, S, j, rfl, hS, ok, hj, first, k⟩
end
end Gu
namespace Gu
open PySem PySem.Spec PyProof.Rows L2
/-- o.f = .., as one of several targets -/
def gFld (K : PySem.W.Frag) (to : TE) (f : Str) : TG := fun v σ H Q => to σ H fun x H1 => ∃ a C dx fs, x = .ref a ∧ H1 a = some (.ins C dx fs) ∧ Cls K C ∧ NoAttr K C f ∧ fs.length < 1000 ∧ Q σ (upd H1 a (.ins C dx (putF f v fs)))
theorem pg_fld {X : Cx} {o : Expr} {to : TE} {f : Str} {pos : Pos} (ho : PE X o to)
    (ha : ∀ v, assign (.Attribute o f pos) X.env v = (do
      let ov ← holding [v] (eval o X.env)
      standAt pos.atName
      holding [v, ov] (setAttr ov f v)
      release [v, ov] []) := by intro _; rfl) : PG X (.Attribute o f pos) (gFld X.K to f) := by
  refine ⟨fun pins s σ H v u Q I r h => ?_⟩
  rw [ha]
  refine wpAny_bind (wpAny_holding (thn (ho.run pins s σ H _ I h) fun ov s1 ⟨x, H1, I1, r1, a, C, dx, fs, ex, ea, c, n, l, q⟩ => ?_))
  subst ex
  obtain rfl : ov = Value.ref a := r1
  refine wpAny_bind (wpAny_standAt ?_)
  refine wpAny_bind (wpAny_holding (setattr_ok I1 ea c n l r fun s2 I2 => ?_))
  exact wpAny_release ⟨σ, _, I2, q⟩
end Gu
namespace Gu
open PySem PySem.Spec PyProof.Rows L2
theorem cutV_but (xs : List V) (v : V) : cutV (xs ++ [v]) none (some (-1)) = xs := by
  unfold cutV
  rw [HT.sIx_none, List.drop_zero, Nat.sub_zero, show HT.sIx (xs ++ [v]).length (xs ++ [v]).length (some (-1)) = xs.length by
    rw [List.length_append, List.length_singleton]
    unfold HT.sIx
    simp only []
    split <;> omega]
  exact List.take_left' rfl
section
variable {P : Program} {w : World} {K : PySem.W.Frag} {mg : Str → Option Value} {base : Heap} {C N : Addr}
/-! undo -/
def spUndo (C N : Addr) : Sp := fun vs H Q _ => ∃ (s : Addr) (S : Sf) (past : List Prs) (ps : Prs), vs = [.ref s] ∧ ShelfAt C N H s S ∧ S.busy = false ∧ S.past = past ++ [ps] ∧ ∀ G, Kp [s] H G → ShelfAt C N G s { S with ps := ps, past := past } → Q .non G
theorem cal_undo (B : Bi mg) (Z : ShlC K mg C) (D : MethAt K C "undo" "Shelf.undo" s_Shelf_undo ps_Shelf_undo) (M_check_not_busy : CalM P w K mg base 1 C "check_not_busy" ps_Shelf_check_not_busy (spCalmS C N)) : CalM P w K mg base 2 C "undo" ps_Shelf_undo (spUndo C N) := by
  refine D.cal sc_Shelf_undo (fun vs H Q E h => ?_) (fun f cdv A outer s0 H vs Q E hr h => ?_)
  · obtain ⟨s, S, past, ps, rfl, _⟩ := h
    rfl
  · obtain ⟨s, S, past, ps, rfl, hS, bz, hp, k⟩ := h
    obtain ⟨dx, n, a, b, c, e0, e1, e2, e3, qs, e4, q1, q2⟩ := id hS.ex
    rw [hp] at q1
    obtain ⟨q0, q, rfl, q5, q6⟩ : ∃ q0 q, qs = q0 ++ [q] ∧ q0.map (·.2) = past ∧ q.2 = ps := by
      obtain ⟨x, y, rfl, h1, h2⟩ := List.map_eq_append_iff.mp q1
      obtain ⟨z, r, rfl, h3, h4⟩ := List.map_eq_cons_iff.mp h2
      exact ⟨x, z, by rw [List.map_eq_nil_iff.mp h4], h1, h3⟩
    rw [List.map_append] at e4
    obtain ⟨a2, b2, f1, f2, f3⟩ := q2 q (List.mem_append.mpr (.inr (List.mem_singleton.mpr rfl)))
    rw [q6] at f2 f3
    refine ⟨_, (pss_cons (ps_expr (pe_mth0 M_check_not_busy Z.cl hr (by decide) (pv 0)))
      (pss_cons (ps_if (pt_not (pt_truth (pe_fld (pv 0) rfl) (fun _ => rfl))) pss_never pss_nil)
      (pss_cons (ps_asg (pe_ix ix_tup (pe_fld (pv 0) rfl) (pe_un un_neg pe_int) (fun _ _ => rfl)) (pg_tup rfl (pgs_cons (pg_fld (pv 0)) (pgs_cons (pg_fld (pv 0)) pgs_nil))))
      (pss_one (ps_fld (pv 0) (pe_slice sl_tupA (pe_fld (pv 0) rfl) po_none (po_some (pe_un un_neg pe_int))) rfl))))), ?_⟩
    refine ⟨_, rfl, s, dx, _, rfl, e0, rfl, s, S, rfl, hS, bz, ?_⟩
    refine ⟨_, rfl, s, C, dx, _, _, rfl, e0, Z.cl, Z.nP, sf_past, true, .inr (.inl ⟨_, .inl (.inl e4), by simp⟩), iteF ?_⟩
    refine ⟨_, rfl, s, C, dx, _, _, rfl, e0, Z.cl, Z.nP, sf_past, 1, rfl, c, _, _, _, rfl, rfl, .inl (.inl e4), atI_last _ _, q.1, _, rfl, .inl (.inl f1), rfl, ?_⟩
    refine ⟨_, _, rfl, ?_⟩
    refine ⟨_, rfl, s, C, dx, _, rfl, e0, Z.cl, Z.nT, by show 5 < 1000; decide, ?_⟩
    rw [put_texts]
    generalize hG : upd H s _ = G1
    have k1 : Kp [s] H G1 := hG ▸ kp_upd
    have g1 : G1 s = some (.ins C dx (sflds n a2 b c S.busy)) := by rw [← hG]; exact upd_same
    clear hG
    refine ⟨_, _, rfl, ?_⟩
    refine ⟨_, rfl, s, C, dx, _, rfl, g1, Z.cl, Z.nM, by show 5 < 1000; decide, ?_⟩
    rw [put_names]
    generalize hG : upd G1 s _ = G2
    have k2 : Kp [s] G1 G2 := hG ▸ kp_upd
    have g2 : G2 s = some (.ins C dx (sflds n a2 b2 c S.busy)) := by rw [← hG]; exact upd_same
    clear hG
    have m : Muts C N [s] H := fun x hx => .inr ⟨S, by rw [List.mem_singleton.mp hx]; exact hS⟩
    have k12 := k1.trans k2
    have e4 := k12 _ _ e4 (m.tup e4)
    refine ⟨rfl, ?_⟩
    refine ⟨_, rfl, s, C, dx, _, _, rfl, g2, Z.cl, Z.nP, sf_past, 1, rfl, _, rfl, sl_okU e4 fun U G3 s3 eU => ?_⟩
    have eU : G3 U = some (.tup (q0.map fun q => V.ref q.1)) := by
      have := cutV_but (q0.map fun q => V.ref q.1) (V.ref q.1)
      rw [← this]
      exact eU
    have g3 := s3 _ _ g2
    refine ⟨_, rfl, s, C, dx, _, rfl, g3, Z.cl, Z.nP, by show 5 < 1000; decide, ?_⟩
    rw [put_past]
    generalize hG : upd G3 s _ = G4
    have k4 : Kp [s] G3 G4 := hG ▸ kp_upd
    have g4 : G4 s = some (.ins C dx (sflds n a2 b2 U S.busy)) := by rw [← hG]; exact upd_same
    clear hG
    have kA : Kp [s] H G4 := k12.trans ((Kp.same s3).trans k4)
    have us : U ∉ [s] := fun z => by
      rw [List.mem_singleton.mp z, g3] at eU
      cases eU
    exact k G4 kA ⟨dx, n, a2, b2, U, g4, e1.kp m kA, kA _ _ f2 (m.tup f2), f3.kp m kA, q0, k4 _ _ eU us, q5, fun x hx => (q2 x (List.mem_append.mpr (.inl hx))).kp m kA⟩
end
end Gu
namespace Gu
open PySem PySem.Spec PyProof.Rows L2
/-! shelves alone: made, their length, what they are written as -/
structure ShInitAt (K : PySem.W.Frag) (C : Addr) : Prop where
  ex : ∃ (f : Addr) (fd : FuncData), Mk K C f ∧ Fun K "__init__" "Shelf.__init__" s_Shelf_init f fd ∧ Binds K fd ps_Shelf_init []
theorem same_mk {H : Hp} {x dx C : Addr} (nx : H x = none) (nd : H dx = none) (ne : dx ≠ x) : Same H (upd (upd H dx (.own x)) x (.ins C dx [])) := (same_new nd).trans (same_new (by rw [upd_ne fun z => ne z.symm]; exact nx))
section
variable {X : Cx} {n : Nat} {C f : Addr} {fd : FuncData} {ps : List Str} {sp : Sp}
/-- len of what has its own __len__ -/
theorem call_lenOwn (F : FnOk X.prog X.w X.K X.mg X.base CX0 n f fd ps sp) (hb : Binds X.K fd ps []) (hr : Room (n + 1) X.A) (hs : PySem.W.findIn X.K (.ref C) "__len__" = some (some (.ref f))) (hf : PySem.W.isFn X.K (.ref f) = true) :
    CallR X (.builtin "len") (fun vs H Q => ∃ (a dx : Addr) (fs : List (Str × V)), vs = [.ref a] ∧ H a = some (.ins C dx fs) ∧ sp [.ref a] H (fun v G => ∃ z : Int, v = .int z ∧ (0 ≤ z ∧ z < 2 ^ 63) ∧ Q (.int z) G) E0) := by
  intro pins s σ H vs us Q I r h
  obtain ⟨a, dx, fs, rfl, ha, want⟩ := h
  cases r with
  | cons r rr =>
    cases rr
    cases (show _ = Value.ref a from r)
    obtain ⟨m1, J, _⟩ := ins_get I.hok ha
    obtain ⟨od, J, _⟩ := J.look
    obtain ⟨m, fr⟩ := I.fr
    refine PySem.W.len_K fr I.ok.mod.kin J hs hf ?_
    have e0 : Env0 X.prog X.w X.K X.mg X.base X.A.in1 X.stack s H := I.env0.in1
    have bt := hb s [.ref a] I.kIn (F.len _ _ _ _ want)
    rw [List.append_nil] at bt
    refine wpAny_call (codeAny_mono (F.run X.A.in1 X.stack s H ⟨[.ref a], []⟩ [.ref a] [.ref a] _ E0 hr.in1 e0 bt (.cons rfl .nil) want) fun r s1 h1 => ?_)
    cases r with
    | error e => exact (h1 : False).elim
    | ok fl =>
      cases fl with
      | ret v =>
        obtain ⟨z, G, I1, rz, b, rfl, z0, q⟩ := I.after h1
        obtain ⟨tk, rfl⟩ := rz
        exact ⟨z0, .int b, G, I1.tok _, ⟨_, rfl⟩, q⟩
      | next => exact (h1 : False).elim
      | brk => exact (h1 : False).elim
      | cont => exact (h1 : False).elim
end
section
variable {X : Cx} {n : Nat} {C f : Addr} {fd : FuncData} {ps : List Str} {sp : Sp}
/-- repr of such an instance -/
theorem call_reprOwn (F : FnOk X.prog X.w X.K X.mg X.base CX0 n f fd ps sp) (hb : Binds X.K fd ps []) (hr : Room (n + 1) X.A) (hs : PySem.W.findIn X.K (.ref C) "__repr__" = some (some (.ref f))) (hf : PySem.W.isFn X.K (.ref f) = true) :
    CallR X (.builtin "repr") (fun vs H Q => ∃ (a dx : Addr) (fs : List (Str × V)), vs = [.ref a] ∧ H a = some (.ins C dx fs) ∧ sp [.ref a] H (fun v G => ∃ z, v = .str z ∧ Q (.str z) G) E0) := by
  intro pins s σ H vs us Q I r h
  obtain ⟨a, dx, fs, rfl, ha, want⟩ := h
  cases r with
  | cons r rr =>
    cases rr
    cases (show _ = Value.ref a from r)
    obtain ⟨m1, J, _⟩ := ins_get I.hok ha
    obtain ⟨od, J, _⟩ := J.look
    obtain ⟨m, fr⟩ := I.fr
    refine PySem.W.repr_K (by have := hu_of hr; exact this) fr I.ok.mod.kin J hs hf ?_
    have e0 : Env0 X.prog X.w X.K X.mg X.base X.A.in1 X.stack s H := I.env0.in1
    have bt := hb s [.ref a] I.kIn (F.len _ _ _ _ want)
    rw [List.append_nil] at bt
    refine wpAny_call (codeAny_mono (F.run X.A.in1 X.stack s H ⟨[.ref a], []⟩ [.ref a] [.ref a] _ E0 hr.in1 e0 bt (.cons rfl .nil) want) fun r s1 h1 => ?_)
    cases r with
    | error e => exact (h1 : False).elim
    | ok fl =>
      cases fl with
      | ret v =>
        obtain ⟨z, G, I1, rz, b, rfl, q⟩ := I.after h1
        obtain ⟨tk, rfl⟩ := rz
        exact ⟨.str b, G, I1, ⟨tk, rfl⟩, q⟩
      | next => exact (h1 : False).elim
      | brk => exact (h1 : False).elim
      | cont => exact (h1 : False).elim
end
section
variable {P : Program} {w : World} {K : PySem.W.Frag} {mg : Str → Option Value} {base : Heap} {C N M : Addr}
theorem mak_sh (B : Bi mg) (S : ShlC K mg C) (D : ShInitAt K C) (C_check_namer : Cal P w K mg base 1 "check_namer" ps_check_namer (spCheckNamer N)) : Mak P w K mg base 2 "Shelf" C (spShInit C N) := by
  obtain ⟨f, fd, M, F, b⟩ := D.ex
  exact ⟨f, fd, ps_Shelf_init, M, ok_shinit B S F C_check_namer, S.g, b⟩
def spLenS (C N : Addr) : Sp := fun vs H Q _ => ∃ (s : Addr) (S : Sf), vs = [.ref s] ∧ ShelfAt C N H s S ∧ S.ok ∧ Q (.int (S.ps.length : Nat)) H
theorem ok_lenS {f : Addr} {fd : FuncData} (B : Bi mg) (Z : ShlC K mg C) (F : Fun K "__len__" "Shelf.__len__" s_Shelf_len f fd) : FnOk P w K mg base CX0 1 f fd ps_Shelf_len (spLenS C N) := by
  refine F.ok sc_Shelf_len (fun vs H Q E h => ?_) (fun cdv A outer s H vs Q E hr h => ?_)
  · obtain ⟨s, S, rfl, _⟩ := h
    rfl
  · obtain ⟨s, S, rfl, hS, ok, k⟩ := h
    obtain ⟨dx, n, a, b, c, e0, e1, e2, e3, e4⟩ := id hS.ex
    refine ⟨_, (pss_one (ps_ret (pe_callB call_len_seq (by rfl) B.len (by decide +kernel) (pa_cons (pe_fld (pv 0) rfl) pa_nil)))), ?_⟩
    refine ⟨_, rfl, s, C, dx, _, _, rfl, e0, Z.cl, Z.nT, sf_texts, a, _, rfl, .inr (.inl (.inl e2)), ?_⟩
    rw [txts_len]
    exact k
theorem mid_id {t : TE} {σ : L2.St} {H : Hp} {Q : VK} (h : t σ H Q) : tMid t σ H Q := ⟨Q, h, fun _ _ q => q⟩
theorem napp_lenS (a b : Str) : (a ++ b).length = a.length + b.length := by
  show (a ++ b).cps.toList.length = a.cps.toList.length + b.cps.toList.length
  rw [str_app, List.length_append]
def shelfLine (n : Nat) : Str := Str.empty ++ (("Shelf(" : String) : Str) ++ ((toString (n : Int) : String) : Str) ++ ((" texts)" : String) : Str)
def spReprS (C N : Addr) : Sp := fun vs H Q _ => ∃ (s : Addr) (S : Sf), vs = [.ref s] ∧ ShelfAt C N H s S ∧ S.ok ∧ Q (.str (shelfLine S.ps.length)) H
theorem ok_reprS {f : Addr} {fd : FuncData} (B : Bi mg) (Z : ShlC K mg C) (F : Fun K "__repr__" "Shelf.__repr__" s_Shelf_repr f fd) : FnOk P w K mg base CX0 1 f fd ps_Shelf_repr (spReprS C N) := by
  refine F.ok sc_Shelf_repr (fun vs H Q E h => ?_) (fun cdv A outer s H vs Q E hr h => ?_)
  · obtain ⟨s, S, rfl, _⟩ := h
    rfl
  · obtain ⟨s, S, rfl, hS, ok, k⟩ := h
    obtain ⟨dx, n, a, b, c, e0, e1, e2, e3, e4⟩ := id hS.ex
    have pl := ok.ps.len
    refine ⟨_, (pss_one (ps_ret (pe_joined (.cons pe_str (.cons (pe_fmt (pe_callB call_len_seq (by rfl) B.len (by decide +kernel) (pa_cons (pe_fld (pv 0) rfl) pa_nil))) (.cons pe_str .nil)))))), ?_⟩
    have l1 : (("Shelf(" : String) : Str).length = 6 := by decide +kernel
    have l2 : ((" texts)" : String) : Str).length = 7 := by decide +kernel
    have l5 : (Str.empty).length = 0 := rfl
    have big : ∀ n : Nat, n ≤ 200 → n ≤ sizeLine := fun n h => Nat.le_of_lt (small1000 (by omega))
    have w2 := (wd_digit2 (i := ((S.ps.length : Nat) : Int)) (by omega) (by omega)).len
    have lg : ((S.ps.length : Nat) : Int).natAbs.log2 < 1920 := Nat.lt_of_lt_of_le (PySem.Flt.log2_lt_of (k := 6) (by decide) (show ((S.ps.length : Nat) : Int).natAbs < 2 ^ 6 by omega)) (by decide)
    refine ⟨_, rfl, big _ ?_, _, rfl, s, C, dx, _, _, rfl, e0, Z.cl, Z.nT, sf_texts, a, _, rfl, .inr (.inl (.inl e2)), ?_⟩
    · exact Nat.le_trans (Nat.le_of_eq (napp_lenS _ _)) (by rw [l5, l1]; decide)
    rw [txts_len]
    have ll : ((toString ((S.ps.length : Nat) : Int) : String) : Str).length ≤ 2 := w2
    refine .inr ⟨_, rfl, lg, _, rfl, big _ ?_, _, rfl, big _ ?_, k⟩
    · rw [napp_lenS, napp_lenS]
      omega
    · rw [napp_lenS, napp_lenS, napp_lenS]
      omega
end
end Gu
namespace Gu
open PySem PySem.Spec PyProof.Rows L2
theorem no_space {n : Nat} {t : Str} (h : Wd n t) : 32 ∉ TL.tl t := fun z => absurd (h.sgn 32 z) (by decide +kernel)
theorem str_len (t : Str) : t.length = t.cps.toList.length := by
  have := TL.len_tl t
  unfold TL.tl at this
  omega
theorem nbase_nz {w : Int} {t : Str} (h6 : 6 ≤ w) (ht : t.length ≠ 0) : (nbase w t).length ≠ 0 := by
  rw [str_len, show (nbase w t).cps.toList = _ from cutS_head t (by omega), List.length_take, ← str_len]
  omega
theorem app_nz {a b : Str} (h : b.length ≠ 0) : (a ++ b).length ≠ 0 := by
  rw [str_len, str_app, List.length_append, ← str_len, ← str_len]
  omega
theorem ending_nz (n : Int) : (ending n).length ≠ 0 := by
  unfold ending
  rw [str_len, str_app, List.length_append, show (("~" : String) : Str).cps.toList.length = 1 by decide +kernel]
  omega
theorem name_nz {w : Int} {t : Str} (ps : Prs) (h6 : 6 ≤ w) (ht : t.length ≠ 0) : (nameOf "count" w t ps).length ≠ 0 := by
  unfold nameOf
  rw [if_pos rfl]
  by_cases h : (mates w t ps).length = 0
  · rw [if_pos h]
    exact nbase_nz h6 ht
  · rw [if_neg h, numbered_other (by decide)]
    exact app_nz (ending_nz _)
theorem Sf.come_ok {S : Sf} {t : Str} (ok : S.ok) (l20 : S.ps.length < 20) (wt : Wd 200 t) (few : S.past.length < 500) : (S.come t).ok := by
  refine ⟨ok.so, ok.w0, ok.w1, ⟨?_, fun q hq => ?_⟩, fun ps h => ?_, ?_⟩
  · show (S.ps ++ [_]).length ≤ 20
    rw [List.length_append, List.length_singleton]
    omega
  · rcases List.mem_append.mp hq with hq | hq
    · exact ok.ps.wd q hq
    · rw [List.mem_singleton.mp hq]
      exact ⟨wt, wd_nameQ wt (by omega)⟩
  · rcases List.mem_append.mp h with h | h
    · exact ok.past ps h
    · rw [List.mem_singleton.mp h]
      exact ok.ps
  · show (S.past ++ [_]).length ≤ 500
    rw [List.length_append, List.length_singleton]
    omega
theorem go_mem {ps : Prs} {j : Nat} {q : Str × Str} (h : q ∈ ps.take j ++ ps.drop (j + 1)) : q ∈ ps := by
  rcases List.mem_append.mp h with h | h
  · exact List.mem_of_mem_take h
  · exact List.mem_of_mem_drop h
theorem go_len {ps : Prs} {j : Nat} (h : j < ps.length) : (ps.take j ++ ps.drop (j + 1)).length + 1 = ps.length := by
  rw [List.length_append, List.length_take, List.length_drop]
  omega
theorem Sf.go_ok {S : Sf} {j : Nat} (ok : S.ok) (hj : j < S.ps.length) (few : S.past.length < 500) : (S.go j).ok := by
  refine ⟨ok.so, ok.w0, ok.w1, ⟨?_, fun q hq => ok.ps.wd q (go_mem hq)⟩, fun ps h => ?_, ?_⟩
  · have := go_len hj
    have := ok.ps.len
    show (S.ps.take j ++ S.ps.drop (j + 1)).length ≤ 20
    omega
  · rcases List.mem_append.mp h with h | h
    · exact ok.past ps h
    · rw [List.mem_singleton.mp h]
      exact ok.ps
  · show (S.past ++ [_]).length ≤ 500
    rw [List.length_append, List.length_singleton]
    omega
theorem first_of_name {y : Str} : ∀ {ps : Prs} {i : Nat}, (ps.map (·.2))[i]? = some y → ∃ (j : Nat) (t : Str), ps[j]? = some (t, y) ∧ ∀ m : Nat, m < j → (ps.map (·.2))[m]? ≠ some y
  | [], i, h => by simp at h
  | q :: ps, i, h => by
    by_cases e : q.2 = y
    · exact ⟨0, q.1, by rw [List.getElem?_cons_zero, ← e], fun m hm => absurd hm (by omega)⟩
    · cases i with
      | zero =>
        rw [List.map_cons, List.getElem?_cons_zero] at h
        exact absurd (Option.some.inj h) e
      | succ i =>
        rw [List.map_cons, List.getElem?_cons_succ] at h
        obtain ⟨j, t, h1, h2⟩ := first_of_name h
        refine ⟨j + 1, t, by rw [List.getElem?_cons_succ]; exact h1, fun m hm => ?_⟩
        cases m with
        | zero =>
          rw [List.map_cons, List.getElem?_cons_zero]
          exact fun z => e (Option.some.inj z)
        | succ m =>
          rw [List.map_cons, List.getElem?_cons_succ]
          exact h2 m (by omega)
theorem filt_first {y t : Str} : ∀ {ps : Prs} {j : Nat}, ps[j]? = some (t, y) → (∀ m, m < j → (ps.map (·.2))[m]? ≠ some y) → ((ps.filter fun q => decide (q.2 = y)).map (·.1))[0]? = some t
  | [], j, h, _ => by simp at h
  | q :: ps, 0, h, _ => by
    rw [List.getElem?_cons_zero] at h
    have h := Option.some.inj h
    rw [List.filter_cons_of_pos (by rw [h]; exact decide_eq_true rfl), List.map_cons, List.getElem?_cons_zero, h]
  | q :: ps, j + 1, h, first => by
    have e : q.2 ≠ y := fun z => first 0 (by omega) (by rw [List.map_cons, List.getElem?_cons_zero, z])
    rw [List.filter_cons_of_neg (by simp [e])]
    rw [List.getElem?_cons_succ] at h
    exact filt_first h fun m hm z => first (m + 1) (by omega) (by rw [List.map_cons, List.getElem?_cons_succ]; exact z)
end Gu
namespace Gu
open PySem PySem.Spec PyProof.Rows L2
section
variable {P : Program} {w : World} {K : PySem.W.Frag} {mg : Str → Option Value} {base : Heap}
/-! ### _law_word -/
def spWord (K : PySem.W.Frag) : Sp := fun vs H Q _ => ∃ (p l : Addr) (ys : List Str), vs = [.ref p, .ref l] ∧ Pot H p ∧ SqL K H l (ys.map V.str) ∧ l ≠ p ∧ 0 < ys.length ∧ ys.length < 1000 ∧ (∀ y ∈ ys, 0 < y.cps.toList.length ∧ Wd 12 y) ∧ ∀ (y : Str) (G : Hp), Ladled p H G → Wd 200 y → Q (.str y) G
theorem rep_sgn {z y : Str} {k : Nat} (a : ∀ c ∈ z.cps.toList, c ∈ abc.cps.toList) (e : y.cps.toList = (List.replicate k z.cps.toList).flatten) : ∀ c ∈ y.cps.toList, c ∈ abc.cps.toList := by
  intro c hc
  rw [e] at hc
  obtain ⟨l, hl, h⟩ := List.mem_flatten.mp hc
  rw [(List.mem_replicate.mp hl).2] at h
  exact a c h
theorem rep_len {z y : Str} {k : Nat} (a : z.cps.toList.length ≤ 12) (hk : k ≤ 200) (e : y.cps.toList = (List.replicate k z.cps.toList).flatten) : y.length ≤ sizeLine := by
  show y.cps.toList.length ≤ sizeLine
  rw [e, PyProof.Rows.lm_len_rep_flat, sizeLine_eq]
  have := Nat.mul_le_mul hk a
  omega
theorem cal_word (B : Bi mg) (D : At K mg "_law_word" s_law_word ps_law_word) (C_law_draw : Cal P w K mg base 1 "_law_draw" ps_law_draw spLadle) (C_law_one : Cal P w K mg base 2 "_law_one" ps_law_one (spOneOf K)) (C_law_stem : Cal P w K mg base 2 "_law_stem" ps_law_stem spStem) : Cal P w K mg base 3 "_law_word" ps_law_word (spWord K) := by
  refine D.cal sc_law_word (fun vs H Q E h => ?_) (fun f cdv A outer s H vs Q E hr h => ?_)
  · obtain ⟨p, l, ys, rfl, _⟩ := h
    rfl
  · obtain ⟨p, l, ys, rfl, hp, hl, np, y0, y1, hy, k⟩ := h
    refine ⟨_, (pss_cons (ps_par (i := 2) (j := 3) (by rfl) sc_law_word.nd rfl rfl (by decide) rfl rfl (pa_cons (pe_own C_law_draw hr (by decide) (by rfl) (pa_cons (pv 0) (pa_cons pe_int pa_nil))) (pa_cons (pe_own C_law_one hr (by decide) (by rfl) (pa_cons (pv 0) (pa_cons (pv 1) pa_nil))) pa_nil)) (by rfl))
      (pss_cons (ps_if (pt_cmpR op_lt (pv 2) pe_int (nomark _)) (pss_one (ps_ret (pv 3))) pss_nil)
      (pss_cons (ps_if (pt_cmpR op_lt (pv 2) pe_int (nomark _)) (pss_one (ps_ret (pe_op op_add_str (pe_op op_add_str (pv 3) pe_str) (pe_callTy call_str_int (by rfl) B.str (by decide +kernel) (pa_cons (pe_op op_add pe_int (pe_own C_law_draw hr (by decide) (by rfl) (pa_cons (pv 0) (pa_cons pe_int pa_nil)))) pa_nil))))) pss_nil)
      (pss_cons (ps_if (pt_cmpR op_eq (pv 2) pe_int (nomark _)) (pss_one (ps_ret (pe_slice sl_str (pv 3) po_none (po_some (pe_own C_law_draw hr (by decide) (by rfl) (pa_cons (pv 0) (pa_cons (pe_op op_add (pe_callB call_len (by rfl) B.len (by decide +kernel) (pa_cons (pv 3) pa_nil)) pe_int) pa_nil))))))) pss_nil)
      (pss_cons (ps_if (pt_cmpR op_eq (pv 2) pe_int (nomark _)) (pss_one (ps_ret (pe_slice sl_str (pe_op op_mul_str (pv 3) pe_int) po_none (po_some (pe_own C_law_one hr (by decide) (by rfl) (pa_cons (pv 0) (pa_cons (pe_lst (pa_cons pe_int (pa_cons pe_int (pa_cons pe_int (pa_cons pe_int pa_nil))))) pa_nil))))))) pss_nil)
      (pss_one (ps_ret (pe_mid (pe_ifExp (pt_cmpR op_eq (pv 2) pe_int (nomark _)) (pe_op op_add_str (pv 3) (pe_own C_law_stem hr (by decide) (by rfl) (pa_cons (pv 0) (pa_cons pe_int pa_nil)))) (pe_own C_law_stem hr (by decide) (by rfl) (pa_cons (pv 0) (pa_cons pe_int pa_nil)))))))))))), ?_⟩
    refine ⟨_, rfl, p, 9, rfl, hp, by decide, by decide, fun way G1 w0 w1 L1 => ?_⟩
    refine ⟨_, rfl, _, rfl, p, L1.pot, l, _, rfl, L1.seq np hl, np, by rw [List.length_map]; exact y0, by rw [List.length_map]; exact y1, fun v G2 hv L2 => ?_⟩
    obtain ⟨z, hz, rfl⟩ := List.mem_map.mp hv
    obtain ⟨z0, wz⟩ := hy z hz
    have zl := wz.len
    have ez : z.length = z.cps.toList.length := rfl
    have M2 : Ladled p H G2 := L1.trans L2
    refine ⟨_, _, rfl, ?_⟩
    -- way < 3
    refine ⟨_, rfl, _, _, rfl, rfl, _, rfl, ite2 (fun _ => ?_) (fun _ => ?_)⟩
    · exact ⟨_, rfl, k z G2 M2 (wz.mono (by decide))⟩
    -- way < 5
    refine ⟨_, rfl, _, _, rfl, rfl, _, rfl, ite2 (fun _ => ?_) (fun _ => ?_)⟩
    · refine ⟨_, rfl, _, _, rfl, rfl, by rw [sizeLine_eq]; have e1 : (("~" : String) : Str).length = 1 := by decide +kernel
                                         omega, _, rfl, p, 3, rfl, M2.pot, by decide, by decide, fun d G3 d0 d1 L3 => ?_⟩
      have M3 := M2.trans L3
      refine ⟨_, _, rfl, rfl, _, rfl, ?_, ?_⟩
      · exact log_small (by omega) (by omega)
      · have wd := wd_digit (i := 2 + d) (by omega) (by omega)
        have wt : Wd 1 ("~" : String) := wd_lit (by decide +kernel)
        have w1 : Wd 13 (z ++ (("~" : String) : Str)) := wz.app wt (by decide)
        exact ⟨_, _, rfl, rfl, Nat.le_of_lt (small1000 (Nat.le_trans (Nat.add_le_add w1.len wd.len) (by decide))), k _ _ M3 ((w1.app wd (by decide)).mono (Nat.le_refl _))⟩
    -- way == 5
    refine ⟨_, rfl, rfl, _, rfl, ite2 (fun _ => ?_) (fun _ => ?_)⟩
    · refine ⟨_, rfl, _, rfl, _, rfl, _, _, rfl, ⟨Nat.le_of_lt (small1000 (by omega)), rfl⟩, _, _, rfl, rfl, p, _, rfl, M2.pot, by omega, by omega, fun d G3 d0 d1 L3 => ?_⟩
      exact ⟨d, rfl, z, rfl, Nat.le_of_lt (small1000 (by omega)), k _ _ (M2.trans L3) (wz.cut _ _ |>.mono (by decide))⟩
    -- way == 6
    refine ⟨_, rfl, rfl, _, rfl, ite2 (fun _ => ?_) (fun _ => ?_)⟩
    · refine ⟨_, rfl, z, 200, rfl, rfl, by decide, by decide, by omega, by omega, fun y ey => ?_⟩
      refine ⟨_, rfl, by show 4 ≤ sizeLine; decide, fun q nq => ?_⟩
      refine ⟨p, M2.pot.same (same_new nq), q, _, rfl, .inl (.inl upd_same), M2.pot.off nq, by decide, by decide, fun v G3 hv L3 => ?_⟩
      obtain ⟨b, b0, b1, rfl⟩ : ∃ b : Int, 0 ≤ b ∧ b ≤ 200 ∧ v = .int b := by
        rcases List.mem_cons.mp hv with rfl | hv
        · exact ⟨40, by decide, by decide, rfl⟩
        rcases List.mem_cons.mp hv with rfl | hv
        · exact ⟨41, by decide, by decide, rfl⟩
        rcases List.mem_cons.mp hv with rfl | hv
        · exact ⟨199, by decide, by decide, rfl⟩
        rcases List.mem_cons.mp hv with rfl | hv
        · exact ⟨200, by decide, by decide, rfl⟩
        cases hv
      exact ⟨b, rfl, y, rfl, rep_len zl (by decide) ey, k _ _ ((M2.new nq).trans L3) (wd_head (rep_sgn wz.sgn ey) b0 b1)⟩
    -- way == 7
    refine ⟨fun v J => ∃ y, v = .str y ∧ Ladled p H J ∧ Wd 200 y, ?_, ?_⟩
    · refine ⟨_, rfl, rfl, _, rfl, ite2 (fun _ => ?_) (fun _ => ?_)⟩
      · refine ⟨_, rfl, _, rfl, p, 3, rfl, M2.pot, by decide, by decide, fun y G3 L3 yl wy => ?_⟩
        have y3 := wy.len
        have ey : y.length = y.cps.toList.length := rfl
        refine ⟨_, _, rfl, rfl, Nat.le_of_lt (small1000 (by omega)), _, rfl, M2.trans L3, wz.app wy (by decide)⟩
      · refine ⟨_, rfl, p, 12, rfl, M2.pot, by decide, by decide, fun y G3 L3 yl wy => ?_⟩
        exact ⟨_, rfl, M2.trans L3, wy.mono (by decide)⟩
    · rintro _ J ⟨y, rfl, L, W⟩
      exact k y J L W
end
end Gu
namespace Gu
theorem off1 {a b : PySem.Addr} (h : a ≠ b) : a ∉ [b] := fun z => h (List.mem_singleton.mp z)
end Gu
namespace Gu
open PySem PySem.Spec PyProof.Rows L2
section
variable {C N M : Addr} {J G : Hp} {p q c s s2 : Addr} {S : Sf} {xs : List V}
theorem lst_no_shelf (h : ShelfAt C N J s S) (e : J q = some (.lst xs)) : q ≠ s := fun z => by
  obtain ⟨_, _, _, _, _, f, _⟩ := h.ex
  rw [← z, e] at f
  cases f
theorem muts_pot (hp : Pot J p) : Muts C N [p] J := fun b hb => .inl (by rw [List.mem_singleton.mp hb]; exact hp)
theorem muts_sh (h : ShelfAt C N J s S) : Muts C N [s] J := fun b hb => .inr ⟨S, by rw [List.mem_singleton.mp hb]; exact h⟩
theorem pot_kp (hp : Pot J p) (k : Kp [s] J G) (n : p ≠ s) : Pot G p := by
  obtain ⟨a, b, d, f⟩ := hp
  exact ⟨a, b, d, k _ _ f (off1 n)⟩
/-- where a list changes, what stands elsewhere stands -/
theorem kpL (k : Kp [q] J G) (e : J q = some (.lst xs)) {b : Addr} {o : HO} (f : J b = some o) (n : ∀ ys, o ≠ .lst ys) : G b = some o := k b o f fun z => n xs (by
  rw [List.mem_singleton.mp z, e] at f
  exact (Option.some.inj f).symm)
theorem NmAt.kpL (k : Kp [q] J G) (e : J q = some (.lst xs)) {b : Addr} {so : Str} {w : Int} (h : NmAt N J b so w) : NmAt N G b so w := by
  obtain ⟨dx, f⟩ := h
  exact ⟨dx, Gu.kpL k e f fun ys z => by cases z⟩
theorem FT.kpL (k : Kp [q] J G) (e : J q = some (.lst xs)) {b : Addr} {ys : List V} (h : FT J b ys) : FT G b ys := by
  obtain ⟨o, f, r⟩ := h
  exact ⟨o, Gu.kpL k e f (fun ys z => by cases z), r⟩
theorem ShelfAt.kpL (k : Kp [q] J G) (e : J q = some (.lst xs)) (h : ShelfAt C N J s S) : ShelfAt C N G s S := by
  have t : ∀ {b : Addr} {ys : List V}, J b = some (.tup ys) → G b = some (.tup ys) := fun f => Gu.kpL k e f fun ys z => by cases z
  obtain ⟨dx, n1, a, b, c, e0, e1, e2, e3, qs, e4, e5, e6⟩ := h.ex
  refine ⟨dx, n1, a, b, c, Gu.kpL k e e0 (fun ys z => by cases z), e1.kpL k e, t e2, e3.kpL k e, qs, t e4, e5, fun x hx => ?_⟩
  obtain ⟨u, v, g1, g2, g3⟩ := e6 x hx
  exact ⟨u, v, t g1, t g2, g3.kpL k e⟩
end
end Gu
namespace Gu
open PySem PySem.Spec PyProof.Rows L2 LamX
/-! ### what stands, but tables and the places of l -/
def KpN (l : List Addr) (H G : Hp) : Prop := ∀ b o, H b = some o → b ∉ l → (∀ ps, o ≠ .tbl ps) → G b = some o
section
variable {C N p s : Addr} {l m : List Addr} {H G J : Hp} {S : Sf} {T : List (Addr × Str)}
theorem KpN.refl : KpN l H H := fun _ _ e _ _ => e
theorem KpN.trans (a : KpN l H G) (b : KpN l G J) : KpN l H J := fun c o e n q => b c o (a c o e n q) n q
theorem KpN.kp (k : Kp l H G) : KpN l H G := fun b o e n _ => k b o e n
theorem KpN.same (k : Same H G) : KpN l H G := fun b o e _ _ => k b o e
theorem KpN.ext (k : ExtN H G) : KpN l H G := fun b o e _ q => k b o e q
theorem KpN.mono (k : KpN l H G) (h : ∀ b ∈ l, b ∈ m) : KpN m H G := fun b o e n => k b o e fun z => n (h b z)
theorem muts_nil : Muts C N [] H := fun _ h => absurd h List.not_mem_nil
theorem muts_two (hp : Pot H p) (hS : ShelfAt C N H s S) : Muts C N [p, s] H := fun b hb => by
  rcases List.mem_cons.mp hb with rfl | hb
  · exact .inl hp
  · rw [List.mem_singleton.mp hb]
    exact .inr ⟨S, hS⟩
theorem Muts.off (mu : Muts C N l H) {q : Addr} {o : HO} (e : H q = some o) (n1 : ∀ xs, o ≠ .lst xs) (n2 : ∀ a b c, o ≠ .ins a b c) : q ∉ l := fun hq => by
  rcases mu q hq with ⟨x, y, z, f⟩ | ⟨S, h⟩
  · rw [e] at f
    exact n1 _ (Option.some.inj f)
  · obtain ⟨_, _, _, _, _, f, _⟩ := h.ex
    rw [e] at f
    exact n2 _ _ _ (Option.some.inj f)
theorem KpN.tup (mu : Muts C N l H) (k : KpN l H G) {q : Addr} {xs : List V} (e : H q = some (.tup xs)) : G q = some (.tup xs) := k _ _ e (mu.tup e) fun _ z => by cases z
theorem FT.kpN (mu : Muts C N l H) (k : KpN l H G) {q : Addr} {xs : List V} (h : FT H q xs) : FT G q xs := by
  have n := mu.ft h
  obtain ⟨o, e, r⟩ := h
  exact ⟨o, k _ _ e n (fun _ z => by cases z), r⟩
theorem NmAt.kpN (mu : Muts C N l H) (k : KpN l H G) {M q : Addr} {so : Str} {w : Int} (h : NmAt M H q so w) : NmAt M G q so w := by
  have nq := mu.nm h
  obtain ⟨dx, e⟩ := h
  exact ⟨dx, k _ _ e nq fun _ z => by cases z⟩
theorem PairAt.kpN (mu : Muts C N l H) (k : KpN l H G) {q : Addr} {ps : Prs} (h : PairAt H q ps) : PairAt G q ps := by
  obtain ⟨a, b, e1, e2, e3⟩ := h
  exact ⟨a, b, k.tup mu e1, k.tup mu e2, e3.kpN mu k⟩
theorem PastAt.kpN (mu : Muts C N l H) (k : KpN l H G) {c : Addr} {past : List Prs} (h : PastAt H c past) : PastAt G c past := by
  obtain ⟨qs, e, h1, h2⟩ := h
  exact ⟨qs, k.tup mu e, h1, fun q hq => (h2 q hq).kpN mu k⟩
theorem ShelfAt.kpN (mu : Muts C N l H) (k : KpN l H G) (h : ShelfAt C N H s S) (n : s ∉ l) : ShelfAt C N G s S := by
  obtain ⟨dx, n1, a, b, c, e0, e1, e2, e3, e4⟩ := h.ex
  exact ⟨dx, n1, a, b, c, k _ _ e0 n (fun _ z => by cases z), e1.kpN mu k, k.tup mu e2, e3.kpN mu k, e4.kpN mu k⟩
theorem ShelfAt.ext (k : ExtN H G) (h : ShelfAt C N H s S) : ShelfAt C N G s S := h.kpN (l := []) muts_nil (KpN.ext k) List.not_mem_nil
theorem Sys.kpN (mu : Muts C N l H) (k : KpN l H G) (h : Sys H) : Sys G := by
  obtain ⟨o, u, e⟩ := h
  exact ⟨o, u, k _ _ e (mu.off e (fun _ z => by cases z) fun _ _ _ z => by cases z) fun _ z => by cases z⟩
/-- pots and shelves are no tables, no code objects -/
theorem tabs_kp (mu : Muts C N l H) (k : Kp l H G) (t : Tabs T H) : Tabs T G := fun q hq => by
  obtain ⟨ps, h1, h2, h3⟩ := t q hq
  refine ⟨ps, k _ _ h1 (mu.off h1 (fun _ z => by cases z) fun _ _ _ z => by cases z), h2, fun pos cv hc => ?_⟩
  obtain ⟨c, e1, e2⟩ := h3 pos cv hc
  exact ⟨c, e1, k _ _ e2 (mu.off e2 (fun _ z => by unfold CodeO at z; cases z) fun _ _ _ z => by unfold CodeO at z; cases z)⟩
/-- from H to G what is at l may have changed and tables may have grown -/
structure LW (T : List (Addr × Str)) (l : List Addr) (H G : Hp) : Prop where
  kp : KpN l H G
  tabs : Tabs T G
  sys : Sys G
theorem LW.refl (t : Tabs T H) (y : Sys H) : LW T l H H := ⟨.refl, t, y⟩
theorem LW.trans (a : LW T l H G) (b : LW T l G J) : LW T l H J := ⟨a.kp.trans b.kp, b.tabs, b.sys⟩
theorem LW.same (a : LW T l H G) (k : Same G J) : LW T l H J := ⟨a.kp.trans (.same k), a.tabs.ext k, a.sys.same k⟩
theorem LW.mono (a : LW T l H G) (h : ∀ b ∈ l, b ∈ m) : LW T m H G := ⟨a.kp.mono h, a.tabs, a.sys⟩
theorem LW.step (a : LW T l H G) (mu : Muts C N l G) (k : Kp l G J) : LW T l H J := ⟨a.kp.trans (.kp k), tabs_kp mu k a.tabs, a.sys.kpN mu (.kp k)⟩
theorem LW.lam (a : LW T l H G) (k : ExtN G J) (t : Tabs T J) : LW T l H J := ⟨a.kp.trans (.ext k), t, a.sys.kpN (C := 0) (N := 0) muts_nil (l := []) (.ext k)⟩
end
end Gu
namespace Gu
open PySem PySem.Spec PyProof PyProof.Rows L2 LamX
/-! ### lambdas with one parameter, handed on as values -/
/-- the scope: the parameter y, captured names, globals -/
structure LamS1 (sc scope : Scope) (y : Str) : Prop where
  kind : scope.kind = .function
  co : scope.isCoroutine = false
  gen : scope.isGenerator = false
  par : scope.names.lookup y = some .local
  own : ∀ z ∈ scope.names, z.2 ≠ .cell
  loc : ∀ z ∈ scope.names, z.2 = .local → z.1 = y
  free : ∀ z ∈ scope.names, z.2 = .free → sc.names.lookup z.1 = some .cell ∨ sc.names.lookup z.1 = some .free
def lamS1B (sc scope : Scope) (y : Str) : Bool :=
  decide (scope.kind = .function) && !scope.isCoroutine && !scope.isGenerator && decide (scope.names.lookup y = some .local) && (scope.names.all fun z => !decide (z.2 = .cell)) && (scope.names.all fun z => !decide (z.2 = .local) || decide (z.1 = y)) && scope.names.all fun z => !decide (z.2 = .free) || decide (sc.names.lookup z.1 = some .cell) || decide (sc.names.lookup z.1 = some .free)
theorem lamS1_by {sc scope : Scope} {y : Str} (h : lamS1B sc scope y = true) : LamS1 sc scope y := by
  unfold lamS1B at h
  simp only [Bool.and_eq_true, Bool.or_eq_true, Bool.not_eq_true', decide_eq_true_eq, decide_eq_false_iff_not, List.all_eq_true] at h
  obtain ⟨⟨⟨⟨⟨⟨h1, h2⟩, h3⟩, h4⟩, h5⟩, h6⟩, h7⟩ := h
  refine ⟨h1, h2, h3, h4, h5, fun z hz e => (h6 z hz).elim (fun n => absurd e n) id, fun z hz e => ?_⟩
  rcases h7 z hz with (k | k) | k
  · exact absurd e k
  · exact .inl k
  · exact .inr k
theorem LamS1.has {X : Cx} {scope : Scope} {y : Str} (L : LamS1 X.env.scope scope y) (ok : X.Ok) : ∀ z ∈ scope.names, z.2 = .free → ∃ c, X.env.cells.lookup z.1 = some c := fun z hz e => by
  rcases L.free z hz e with k | k
  · exact ok.has _ (.inl k)
  · exact ok.has _ (.inr k)
/-- the context of the lambda's body, entered at s from the frames outer -/
def lamCx1 (X : Cx) (A : Around) (outer : List Env) (s : Shared) (H : Hp) (E : XK) (scope : Scope) (f c' : Addr) (y : Str) : Cx := { lamCx X A outer s H E scope f c' with N := X.N ++ [y] }
section
variable {X : Cx} {pins : List (Addr × Obj)} {σ : L2.St} {H HZ : Hp} {s s1 : Shared}
theorem lam_start1 {A : Around} {outer : List Env} {E : XK} {scope : Scope} {f c' : Addr} {h₁ : Heap} {tk : Nat} {y : Str} {u : Value} {v : V} {fs : List Addr} (I : Inv X pins σ H s) (L : LamS1 X.env.scope scope y) (ny : y ∉ X.N) (rv : RelV v u) (e0 : Env0 X.prog X.w X.K X.mg X.base A outer s1 HZ) (hd : A.handled = none)
    (un : Un fs [] H HZ s.heap s1.heap) (hns : h₁.Ns s1.heap.objs.size fun z => ([(y, u)] : List (Str × Value)).reverse.lookup z) (kp : ∀ b o, s1.heap.get? b = some o → h₁.get? b = some o) :
    Inv (lamCx1 X A outer s1 HZ E scope f c' y) [] (σ ++ [some v]) HZ { s1 with heap := h₁, toks := tk } := by
  have hfree := L.has I.ok
  have cm : ∀ {y c}, (cloFrom X.env.cells scope.names []).lookup y = some c → X.env.cells.lookup y = some c := fun {y c} e => by
    rcases cloFrom_mem (PySem.mem_of_lookup e) with hm | ⟨h1, h2⟩
    · cases hm
    · obtain ⟨c1, hc⟩ := hfree _ h1 rfl
      have hc : X.env.cells.lookup y = some c1 := hc
      have e2 : c = c1 := by
        rw [h2, hc] <;> rfl
      rw [e2]
      exact hc
  have look : ∀ {y}, scope.names.lookup y = some .free → ∃ c, (cloFrom X.env.cells scope.names []).lookup y = some c := fun {y} hl => by
    have hy : (y, NameKind.free) ∈ scope.names := PySem.mem_of_lookup hl
    exact mem_lookup (cloFrom_has (cells := X.env.cells) (acc := []) hy)
  have cellK : ∀ {c : Addr} {v : Option Value}, H c = none → s.heap.IsCell c v → h₁.IsCell c v := fun {c v} n ⟨o, ho, hd⟩ => by
    obtain ⟨sl, q⟩ := un.any ho n (by simp)
    exact ⟨_, kp _ _ q, hd⟩
  have noA : ∀ b : Addr, b ∉ (lamCx1 X A outer s1 HZ E scope f c' y).ex := fun b z => absurd (show b ∈ ([] : List Addr) from z) (by simp)
  refine ⟨⟨e0.mod, L.kind, rfl, rfl, Nat.le_refl _, fun y z c e1 e2 => I.ok.inj y z c (cm e1) (cm e2), fun y hy => ?_, fun y c z _ => ?_, fun _ => hd, Around.frames_deeper e0.frames, .inr ⟨rfl, rfl⟩, fun b z => absurd z (noA b), e0.bs, e0.bsz, fun b _ _ => noA b,
      fun b z => absurd z (noA b), e0.funs, e0.frf⟩,
    rfl, e0.bare, Un.kept kp, ⟨_, hns, fun i x v2 e1 e2 e3 => ?_⟩, fun y c e => ?_, e0.hok.fresh (Nat.le_refl _), fun y c e => ?_, fun q hq => absurd (show q ∈ ([] : List (Addr × Obj)) ++ [] from hq) (by simp), e0.hok.kept kp, ?_⟩
  · have hy : scope.names.lookup y = some .cell ∨ scope.names.lookup y = some .free := hy
    rcases hy with hy | hy
    · exact absurd rfl (L.own _ (PySem.mem_of_lookup hy))
    · exact look hy
  · have z : false = true := z
    cases z
  · have e3 : Vis scope x := e3
    have e1 : (X.N ++ [y])[i]? = some x := e1
    have len := I.len
    rcases e3 with k | k | k
    · obtain rfl : x = y := L.loc _ (PySem.mem_of_lookup k) rfl
      have hi : i = X.N.length := by
        by_cases hl : i < X.N.length
        · rw [List.getElem?_append_left hl] at e1
          exact absurd (List.mem_of_getElem? e1) ny
        · rw [List.getElem?_append_right (by omega)] at e1
          have := (List.getElem?_eq_some_iff.mp e1).1
          simp only [List.length_singleton] at this
          omega
      have e2' : (σ ++ [some v])[i]? = some (some v) := by
        rw [hi, ← len, List.getElem?_append_right (Nat.le_refl _), Nat.sub_self]
        rfl
      rw [e2'] at e2
      cases e2
      exact ⟨u, rv, .inl ⟨k, by simp [List.lookup]⟩⟩
    · exact absurd rfl (L.own _ (PySem.mem_of_lookup k))
    · have hl : i < X.N.length := by
        by_cases hl : i < X.N.length
        · exact hl
        · rw [List.getElem?_append_right (by omega)] at e1
          have e4 := List.mem_of_getElem? e1
          rw [List.mem_singleton.mp e4, L.par] at k
          cases k
      rw [List.getElem?_append_left hl] at e1
      rw [List.getElem?_append_left (by omega)] at e2
      obtain ⟨m, hn, hl2⟩ := I.loc
      have hvis : Vis X.env.scope x := (L.free _ (PySem.mem_of_lookup k) rfl).elim (fun k => .inr (.inl k)) (fun k => .inr (.inr k))
      obtain ⟨w', r, q⟩ := hl2 i x v2 e1 e2 hvis
      obtain ⟨c2, h2⟩ := look k
      refine ⟨w', r, .inr ⟨.inr k, c2, h2, ?_⟩⟩
      have c1 := cm h2
      rcases q with ⟨k', _⟩ | ⟨_, c3, e', z⟩
      · have k' : X.env.scope.names.lookup x = some .local := k'
        rcases L.free _ (PySem.mem_of_lookup k) rfl with k2 | k2 <;> rw [show X.env.scope.names.lookup x = _ from k2] at k' <;> cases k'
      · rw [c1] at e'
        cases e'
        exact cellK (I.freeC x _ c1) z
  · obtain ⟨w', z⟩ := I.cell y c (cm e)
    exact ⟨w', cellK (I.freeC y c (cm e)) z⟩
  · obtain ⟨v3, o, ho, hd⟩ := I.cell y c (cm e)
    exact un.free c o ho (I.freeC y c (cm e)) (by simp)
  · show (σ ++ [some v]).length = (X.N ++ [y]).length
    rw [List.length_append, List.length_append, I.len]
    rfl
end
/-- the function at f, its code object at c' of the name q: what a call with one thing does, in any later state -/
structure ActAt (P : Program) (w : World) (K : PySem.W.Frag) (mg : Str → Option Value) (base : Heap) (k : Nat) (h : Heap) (H : Hp) (f c' : Addr) (q : Str) (R : V → XK → Hp → VK → Prop) : Prop where
  fn : PySem.W.FnAt f h
  nf : H f = none
  run : ∀ (A : Around) (outer : List Env) (s1 : Shared) (H1 : Hp) (fs : List Addr) (u : Value) (v : V) (Q : VK) (E : XK), Room k A → Env0 P w K mg base A outer s1 H1 → Un fs [] H H1 h s1.heap → f ∉ fs → H1 c' = some (CodeO c' q) → RelV v u → R v E H1 Q → codeAny (model P w) A (.call (.ref f) ⟨[u], []⟩) (CR (L2.CX P w) outer P w H1 s1 Q E) s1
section
variable {P : Program} {w : World} {K : PySem.W.Frag} {mg : Str → Option Value} {base : Heap} {k : Nat} {h h1 : Heap} {H H1 : Hp} {f c' : Addr} {q : Str} {R : V → XK → Hp → VK → Prop} {fs : List Addr}
theorem un_cat {fs fs2 : List Addr} {H H1 H2 : Hp} {h h1 h2 : Heap} (a : Un fs [] H H1 h h1) (b : Un fs2 [] H1 H2 h1 h2) : Un (fs ++ fs2) [] H H2 h h2 :=
  (a.mono (fs' := fs ++ fs2) (ex' := []) (fun x hx => List.mem_append.mpr (.inl hx)) fun x hx => hx).trans (b.mono (fun x hx => List.mem_append.mpr (.inr hx)) fun x hx => hx)
theorem ActAt.later (a : ActAt P w K mg base k h H f c' q R) (u : Un fs [] H H1 h h1) (nf : f ∉ fs) : ActAt P w K mg base k h1 H1 f c' q R := by
  obtain ⟨oc, od, fd, sl, e⟩ := a.fn
  exact ⟨⟨oc, od, fd, sl, u.keep f _ e a.nf nf (by simp)⟩, u.free f _ e a.nf (by simp), fun A outer s1 H2 fs2 v1 v Q E r e0 u2 n2 hc rv want => a.run A outer s1 H2 (fs ++ fs2) v1 v Q E r e0 (un_cat u u2) (fun z => (List.mem_append.mp z).elim nf n2) hc rv want⟩
theorem act_made {X : Cx} {pins : List (Addr × Obj)} {σ : L2.St} {H : Hp} {s : Shared} {f c' : Addr} {pm ctv : Value} {params : Arguments} {body : Expr} {scope : Scope} {y : Str} {tb : XK → TE} (I : Inv X pins σ H s) (L : LamS1 X.env.scope scope y) (ny : y ∉ X.N)
    (hf : s.heap.get? f = some (PySem.W.kla_obj "<lambda>" (X.env.qual ++ "<lambda>") params body scope (cloFrom X.env.cells scope.names []) pm c' ctv)) (hfn : H f = none)
    (hbind : ∀ u : Value, bindArgs (PySem.W.kla_fn "<lambda>" (X.env.qual ++ "<lambda>") params body scope (cloFrom X.env.cells scope.names []) pm (.ref c') ctv) ⟨[u], []⟩ = pure [(y, u)])
    (hbody : ∀ (A : Around) (outer : List Env) (s : Shared) (H : Hp) (E : XK), Room k (A.deeper (lamEnv X scope s.heap.objs.size f c')) → PE (lamCx1 X A outer s H E scope f c' y) body (tb E)) :
    ActAt X.prog X.w X.K X.mg X.base (k + 1) s.heap H f c' (X.env.qual ++ "<lambda>") (fun v E H Q => tb E (σ ++ [some v]) H Q) := by
  refine ⟨⟨_, _, _, _, hf⟩, hfn, fun A outer s1 H1 fs u v Q E room e0 un nf hc rv ht => ?_⟩
  have of1 := un.keep f _ hf hfn nf (by simp)
  obtain ⟨⟨oc, vs, t, hoc, hdc, hvc⟩, _, _⟩ := e0.hok c' _ hc
  refine PySem.W.kla_callFunE room.depth of1 rfl L.co L.gen rfl ⟨c', oc, vs, t, rfl, hoc, hdc, hvc⟩ ?_
  rw [hbind]
  refine wpAny_pure (wpAny_newFunctionEnv L.own (fun z hz => ?_) (fun h₁ hns hsb => ⟨?_, ?_⟩) L.kind)
  · rw [List.mem_singleton.mp hz]
    exact L.par
  · have kpB : ∀ b o, X.base.get? b = some o → s1.heap.get? b = some o := fun b o e => (e0.bs b o e).1
    exact (e0.mod.nolimit.keeps kpB).fresh _ hsb
  · show codeAny _ _ (.expr body (lamEnv X scope s1.heap.objs.size f c')) _ _
    have kp : ∀ b o, s1.heap.get? b = some o → h₁.get? b = some o := fun b o e => hsb.extBut b o (Nat.ne_of_lt (Heap.lt_size e)) (Heap.get?_push_of_some _ e)
    have J := lam_start1 (E := E) (f := f) (c' := c') (tk := s1.toks + [(y, u)].length) I L ny rv e0 room.hd un hns kp
    refine PySem.W.kla_codeExpr (wpAny_mono ((hbody _ _ s1 H1 E (room.deeper _)).run [] _ _ H1 Q J ht) (fun v' s' hq => ?_) fun e s' hq => hq)
    obtain ⟨w', H', J', rv', q'⟩ := hq
    exact ⟨w', H', J'.os, J'.bare, J'.base, J'.hok, rv', q'⟩
end
end Gu
namespace Gu
open PySem PySem.Spec PyProof PyProof.Rows L2 LamX
/-! ### a(e), where a holds such a value since the def was entered -/
def tAct (i : Nat) (f c' : Addr) (q : Str) (R : V → XK → Hp → VK → Prop) (t : TA) : TE := fun σ H Q => σ[i]? = some (some (.ref f)) ∧ t σ H fun vs H1 => ∃ v, vs = [v] ∧ H1 c' = some (CodeO c' q) ∧ R v E0 H1 Q
section
variable {X : Cx} {k j i : Nat} {f c' : Addr} {q : Str} {R : V → XK → Hp → VK → Prop} {x : Str} {p pos : Pos} {e : Expr} {t : TA}
theorem fn_later {pins : List (Addr × Obj)} {σ : L2.St} {H : Hp} {s : Shared} (a : ActAt X.prog X.w X.K X.mg X.base k X.s_0.heap X.H_0 f c' q R) (hf : f ∉ X.fs) (hx : X.ex = []) (I : Inv X pins σ H s) : ActAt X.prog X.w X.K X.mg X.base k s.heap H f c' q R := by
  have u := I.base
  rw [hx] at u
  exact a.later u hf
theorem f_off {pins : List (Addr × Obj)} {σ : L2.St} {H : Hp} {s : Shared} (a : ActAt X.prog X.w X.K X.mg X.base k X.s_0.heap X.H_0 f c' q R) (hf : f ∉ X.fs) (I : Inv X pins σ H s) : f ∉ frs X.stack := fun z => by
  obtain ⟨oc, od, fd, sl, e⟩ := a.fn
  rcases List.mem_cons.mp (I.stkSub _ z) with e1 | e1
  · have h1 := I.ok.above
    have h2 := Heap.lt_size e
    rw [e1] at h2
    exact Nat.lt_irrefl _ (Nat.lt_of_lt_of_le h2 h1)
  · exact hf e1
theorem pe_act1 (a : ActAt X.prog X.w X.K X.mg X.base k X.s_0.heap X.H_0 f c' q R) (hf : f ∉ X.fs) (hx : X.ex = []) (hr : Room j X.A) (hk : k ≤ j) (hN : X.N[i]? = some x) (hv : Vis X.env.scope x) (ha : PA X [e] t)
    (hdb : (x == ("__debug__" : Str)) = false := by decide) (hcd : (x == ("__classdict__" : Str)) = false := by decide)
    (hs : starEach [e] X.env = (false, eval e X.env) :: starEach [] X.env := by rfl) (hpl : (backTo pos (starEach [] X.env)).any (·.1) = false := by rfl) : PE X (.Call (.Name x p) [e] [] pos) (tAct i f c' q R t) := by
  refine ⟨fun pins s σ H Q I h => ?_⟩
  obtain ⟨hi, ht⟩ := h
  refine wpAny_Call_Name_kw (thn ((pe_var (pos := p) hN hv hdb hcd).run pins s σ H (fun v H1 => v = .ref f ∧ H1 = H) I ⟨.ref f, hi, rfl, rfl⟩) fun u s1 ⟨v, H1, I1, r1, q1⟩ => ?_)
  obtain ⟨rfl, rfl⟩ := q1
  cases r1
  have a1 := fn_later a hf hx I1
  refine PySem.W.callWith_F (first := []) a1.fn (thn (ha.run pos pins s1 σ _ _ I1 ht) fun us s2 ⟨vs, H2, I2, r, v, ev, hc, hR⟩ => ⟨(fn_later a hf hx I2).fn, ?_⟩) hs hpl
  subst ev
  obtain ⟨u2, rfl, ru⟩ := r.one
  have u := I2.base
  rw [hx] at u
  refine wpAny_call (codeAny_mono (a.run X.A X.stack s2 H2 X.fs u2 v Q E0 (hr.mono hk) I2.env0 u hf hc ru hR) fun rr s3 h3 => ?_)
  cases rr with
  | error e =>
    obtain ⟨_, _, _, _, _, _, _, _, _, _, _, _, z⟩ := h3
    exact z.elim
  | ok fl =>
    cases fl with
    | ret u3 => exact I2.after h3
    | next => exact (h3 : False).elim
    | brk => exact (h3 : False).elim
    | cont => exact (h3 : False).elim
end
/-! ### defs that are handed such a value -/
/-- what a def is asked that is handed a thing and such a value: R what the value does, at c' its code object -/
abbrev SpA := V → (V → XK → Hp → VK → Prop) → Addr → Str → Hp → VK → Prop
structure FnA (P : Program) (w : World) (K : PySem.W.Frag) (mg : Str → Option Value) (base : Heap) (j k : Nat) (f : Addr) (fd : FuncData) (ps : List Str) (sp : SpA) : Prop where
  run : ∀ (A : Around) (outer : List Env) (s : Shared) (H : Hp) (args : Args) (u : Value) (v : V) (g c' : Addr) (q : Str) (R : V → XK → Hp → VK → Prop) (Q : VK), Room k A → Env0 P w K mg base A outer s H → BindsTo s fd args (ps.zip [u, .ref g]) → RelV v u → ActAt P w K mg base j s.heap H g c' q R → g ∉ frs outer → H c' = some (CodeO c' q) → sp v R c' q H Q →
    codeAny (model P w) A (.call (.ref f) args) (CR CX0 outer P w H s Q E0) s
theorem okA {P : Program} {w : World} {K : PySem.W.Frag} {mg : Str → Option Value} {base : Heap} {x qual : Str} {st : Stmt} {f : Addr} {fd : FuncData} {N ps : List Str} {j k : Nat} {sp : SpA} (F : Fun K x qual st f fd) (S : FnScope N ps (defScope st)) (two : ps.length = 2)
    (body : ∀ (cdv : Value) (A : Around) (outer : List Env) (s : Shared) (H : Hp) (v : V) (g c' : Addr) (q : Str) (R : V → XK → Hp → VK → Prop) (Q : VK), Room k (A.deeper (envOfC qual (defScope st) s.heap.objs.size f cdv)) → ActAt P w K mg base j s.heap H g c' q R → g ∉ frs outer → H c' = some (CodeO c' q) → sp v R c' q H Q →
      ∃ t, PSs (cxOf CX0 P w K mg base N qual (defScope st) f cdv A outer s H E0).nox (defBody st) t ∧ t { nx := fun _ G => Q .non G, rt := Q } (start N [v, .ref g]) H) : FnA P w K mg base j (k + 1) f fd ps sp := by
  obtain ⟨oc, od, kV, doc, pm, an, cdv, ct, osl, rfl, lk, hcd⟩ := F.ex
  refine ⟨fun A outer s H args u v g c' q R Q room env binds rv act off hc want => ?_⟩
  have stays : ∀ b o, base.get? b = some o → s.heap.get? b = some o := fun b o e => (env.bs b o e).1
  have inK : K.In s.heap := env.mod.kin.keeps stays
  have free : s.heap.NoLimit := env.mod.nolimit.keeps stays
  refine codeAny_call_function room.depth (inK _ _ lk) rfl S.co S.gen rfl (PySem.W.codeRec_of inK hcd) (binds _ _ _ _ ?_)
  refine wpAny_newFunctionEnv_cells S.kind (fun ⟨n, v⟩ hy => (S.par n (List.of_mem_zip hy).1).imp id fun q => ⟨q, PySem.W.cellsFrom_some _ _ _ (.inl q)⟩) fun env1 e1 s1 c1 => ?_
  subst e1
  refine ⟨free.keeps c1.toInCall.keep, codeAny_func ?_⟩
  obtain ⟨t, d, q⟩ := body cdv A outer s H v g c' q R Q (room.deeper _) act off hc want
  have rel : Vals [v, .ref g] [u, .ref g] := .cons rv (.cons rfl .nil)
  refine wpAny_mono (d.nox.run [] s1 (start N [v, .ref g]) H _ (inv_start S room.hd env (by rw [two]; rfl) rel c1) q) (fun fl s2 h2 => ?_) fun e s2 h2 => h2
  cases fl with
  | ret u =>
    obtain ⟨v, σ2, G, J, rv, r⟩ := h2
    exact ⟨v, G, J.os, J.bare, J.base, J.hok, rv, r⟩
  | next =>
    obtain ⟨σ2, G, J, r⟩ := h2
    exact ⟨V.non, G, J.os, J.bare, J.base, J.hok, rfl, r⟩
  | brk => exact (h2.choose_spec.choose_spec.2 : False).elim
  | cont => exact (h2.choose_spec.choose_spec.2 : False).elim
structure CalA (P : Program) (w : World) (K : PySem.W.Frag) (mg : Str → Option Value) (base : Heap) (j k : Nat) (x : Str) (ps : List Str) (sp : SpA) : Prop where
  ex : ∃ (f : Addr) (fd : FuncData), FnA P w K mg base j k f fd ps sp ∧ mg x = some (.ref f) ∧ PySem.W.keepIn K (.ref f) = true ∧ Binds K fd ps []
theorem At.calA {P : Program} {w : World} {K : PySem.W.Frag} {mg : Str → Option Value} {base : Heap} {x : Str} {st : Stmt} {N ps : List Str} {j k : Nat} {sp : SpA} (D : At K mg x st ps) (S : FnScope N ps (defScope st)) (two : ps.length = 2)
    (body : ∀ (f : Addr) (cdv : Value) (A : Around) (outer : List Env) (s : Shared) (H : Hp) (v : V) (g c' : Addr) (q : Str) (R : V → XK → Hp → VK → Prop) (Q : VK), Room k (A.deeper (envOfC x (defScope st) s.heap.objs.size f cdv)) → ActAt P w K mg base j s.heap H g c' q R → g ∉ frs outer → H c' = some (CodeO c' q) → sp v R c' q H Q →
      ∃ t, PSs (cxOf CX0 P w K mg base N x (defScope st) f cdv A outer s H E0).nox (defBody st) t ∧ t { nx := fun _ G => Q .non G, rt := Q } (start N [v, .ref g]) H) : CalA P w K mg base j (k + 1) x ps sp := by
  obtain ⟨f, fd, F, b, g⟩ := D.ex
  exact ⟨f, fd, okA F S two (body f), g, F.kp, b⟩
/-! x(e, a), a the value that the def was handed -/
def tHand (f c' : Addr) (q : Str) (R : V → XK → Hp → VK → Prop) (sp : SpA) (t : TA) : TE := fun σ H Q => t σ H fun vs H1 => ∃ v, vs = [v, .ref f] ∧ H1 c' = some (CodeO c' q) ∧ sp v R c' q H1 Q
section
variable {X : Cx} {j k n : Nat} {x : Str} {ps : List Str} {sp : SpA} {f c' : Addr} {q : Str} {R : V → XK → Hp → VK → Prop} {p pos : Pos} {e : Expr} {es : List Expr} {t : TA}
theorem run_hand {g : Addr} {fd : FuncData} {pins : List (Addr × Obj)} {σ : L2.St} {H1 : Hp} {s1 : Shared} {us : List Value} {vs : List V} {Q : VK} (F : FnA X.prog X.w X.K X.mg X.base j k g fd ps sp) (b : Binds X.K fd ps []) (hl : ps.length = 2) (hr : Room k X.A) (I1 : Inv X pins σ H1 s1) (r : Vals vs us) {v : V} (ev : vs = [v, .ref f]) (act : ActAt X.prog X.w X.K X.mg X.base j s1.heap H1 f c' q R) (off : f ∉ frs X.stack) (hc : H1 c' = some (CodeO c' q)) (want : sp v R c' q H1 Q) :
    wpAny (model X.prog X.w) X.A (call (.ref g) us) (EP X pins σ Q) X.xe s1 := by
  subst ev
  cases r with
  | cons r1 r2 =>
    cases r2 with
    | cons r2 r3 =>
      cases r3
      rename_i u1 u2
      cases (show u2 = Value.ref f from r2)
      have bt := b s1 [u1, .ref f] I1.kIn (by rw [hl]; rfl)
      rw [List.append_nil] at bt
      refine wpAny_call (codeAny_mono (F.run X.A X.stack s1 H1 ⟨[u1, .ref f], []⟩ u1 v f c' q R Q hr I1.env0 bt r1 act off hc want) fun rr s2 h2 => ?_)
      cases rr with
      | error e => exact (h2 : False).elim
      | ok fl =>
        cases fl with
        | ret u => exact I1.after h2
        | next => exact (h2 : False).elim
        | brk => exact (h2 : False).elim
        | cont => exact (h2 : False).elim
theorem pe_hand (c : CalA X.prog X.w X.K X.mg X.base j k x ps sp) (act : ActAt X.prog X.w X.K X.mg X.base j X.s_0.heap X.H_0 f c' q R) (hf : f ∉ X.fs) (hx : X.ex = []) (hr : Room n X.A) (hk : k ≤ n) (hg : Gl X x) (hl : ps.length = 2) (ha : PA X (e :: es) t) (hdb : (x == ("__debug__" : Str)) = false := by decide)
    (hs : starEach (e :: es) X.env = (false, eval e X.env) :: starEach es X.env := by rfl) (hpl : (backTo pos (starEach es X.env)).any (·.1) = false := by rfl) : PE X (.Call (.Name x p) (e :: es) [] pos) (tHand f c' q R sp t) := by
  obtain ⟨g, fd, F, hm, kp, b⟩ := c.ex
  refine ⟨fun pins s σ H Q I h => ?_⟩
  refine wpAny_Call_Name_kw (ld_glob I hg hm ?_ hdb)
  refine PySem.W.callWith_K (h₀ := X.base) I.ok.mod.kin kp (thn (ha.run pos pins s σ H _ I h) fun us s1 ⟨vs, H1, I1, r, v, ev, hc, want⟩ => ⟨I1.kIn, ?_⟩) hs hpl
  exact run_hand F b hl (hr.mono hk) I1 r ev (fn_later act hf hx I1) (f_off act hf I1) hc want
/-! x(e, lambda y: body) -/
def tHandLam (T : List (Addr × Str)) (q : Str) (sp : SpA) (tb : XK → TE) (te : TE) : TE := fun σ H Q => te σ H fun v H1 => Tabs T H1 ∧ ∀ c' H2, ExtN H1 H2 → Tabs T H2 → H2 c' = some (CodeO c' q) → sp v (fun v E H Q => tb E (σ ++ [some v]) H Q) c' q H2 Q
theorem pe_handLam {T : List (Addr × Str)} {c P : Addr} {params : Arguments} {body : Expr} {scope : Scope} {lpos : Pos} {y : Str} {te : TE} {tb : XK → TE} (ca : CalA X.prog X.w X.K X.mg X.base (j + 1) k x ps sp) (TB : TabB X.base X.mg c P) (hcode : X.env.code = .ref c) (hmT : (P, X.env.qual ++ "<lambda>") ∈ T) (hu : ∀ p ∈ T, p.1 = P → p.2 = X.env.qual ++ "<lambda>")
    (L : LamS1 X.env.scope scope y) (ny : y ∉ X.N) (hdef : defaultsOf params X.env = ([], []))
    (hbind : ∀ (q : Str) (cl : List (Str × Addr)) (pm cv ctv u : Value), bindArgs (PySem.W.kla_fn "<lambda>" q params body scope cl pm cv ctv) ⟨[u], []⟩ = pure [(y, u)])
    (hbody : ∀ (A : Around) (outer : List Env) (s : Shared) (H : Hp) (E : XK) (f c' : Addr), Room j (A.deeper (lamEnv X scope s.heap.objs.size f c')) → PE (lamCx1 X A outer s H E scope f c' y) body (tb E))
    (hr : Room n X.A) (hk : k ≤ n) (hg : Gl X x) (hl : ps.length = 2) (he : PE X e te) (hdb : (x == ("__debug__" : Str)) = false := by decide)
    (hs : starEach [e, .Lambda params body scope lpos] X.env = (false, eval e X.env) :: starEach [.Lambda params body scope lpos] X.env := by rfl) (hs2 : starEach [.Lambda params body scope lpos] X.env = (false, eval (.Lambda params body scope lpos) X.env) :: starEach [] X.env := by rfl) (hpl : (backTo pos (starEach [.Lambda params body scope lpos] X.env)).any (·.1) = false := by rfl) :
    PE X (.Call (.Name x p) [e, .Lambda params body scope lpos] [] pos) (tHandLam T (X.env.qual ++ "<lambda>") sp tb te) := by
  obtain ⟨g, fd, F, hm, kp, b⟩ := ca.ex
  refine ⟨fun pins s σ H Q I h => ?_⟩
  refine wpAny_Call_Name_kw (ld_glob I hg hm ?_ hdb)
  refine PySem.W.callWith_K (h₀ := X.base) I.ok.mod.kin kp ?_ hs hpl
  rw [hs]
  show wpAny _ _ (spliced ((false, eval e X.env) :: backTo pos (starEach [.Lambda params body scope lpos] X.env))) _ _ s
  refine Calls.spliced_cons (thn (he.run pins s σ H _ I h) fun u s1 ⟨v, H1, I1, r1, hT, h1⟩ => ?_)
  rw [hs2]
  show wpAny _ _ (spliced ((false, eval (.Lambda params body scope lpos) X.env) :: backTo pos (starEach [] X.env))) _ _ s1
  refine Calls.spliced_cons (lam_make2 I1 TB hcode hmT hu hT hdef (L.has I.ok) fun f c' pm' ctv H2 s2 I2 eN T2 hf hfn hfr hco => ?_)
  refine Calls.spliced_nil ⟨I2.kIn, ?_⟩
  have act := act_made (k := j) (tb := tb) I2 L ny hf hfn (fun u => hbind _ _ _ _ _ u) (fun A outer s H E hr2 => hbody A outer s H E f c' hr2)
  exact run_hand (us := [u, .ref f]) (vs := [v, .ref f]) F b hl (hr.mono hk) I2 (.cons r1 (.cons rfl .nil)) rfl act hfr hco (h1 c' H2 eN T2 hco)
end
end Gu
namespace Gu
open PySem PySem.Spec PyProof PyProof.Rows L2 LamX
/-! ### with e as y: .., e an instance of a class of one's own; nothing rises -/
def nons : List V := [.non, .non, .non]
def tWith (i : Nat) (Ct : Addr) (spI spO : Sp) (te : TE) (tb : TS) : TS := fun D σ H => te σ H fun v H1 => ∃ (x dx : Addr) (fs : List (Str × V)), v = .ref x ∧ H1 x = some (.ins Ct dx fs) ∧
  spI [.ref x] H1 (fun u H2 => tb { nx := fun σ3 H3 => spO (.ref x :: nons) H3 (fun _ H4 => D.nx σ3 H4) E0, rt := fun v H3 => spO (.ref x :: nons) H3 (fun _ H4 => D.rt v H4) E0, bk := fun σ3 H3 => spO (.ref x :: nons) H3 (fun _ H4 => D.bk σ3 H4) E0, ct := fun σ3 H3 => spO (.ref x :: nons) H3 (fun _ H4 => D.ct σ3 H4) E0 } (σ.set i (some u)) H2) E0
section
variable {X : Cx} {i n kI kO : Nat} {y : Str} {ctx : Expr} {py pos : Pos} {body : List Stmt} {te : TE} {tb : TS} {Ct : Addr} {spI spO : Sp} {psI psO : List Str}
theorem ps_withN (mI : CalM X.prog X.w X.K X.mg X.base kI Ct "__enter__" psI spI) (mO : CalM X.prog X.w X.K X.mg X.base kO Ct "__exit__" psO spO) (hr : Room n X.A) (hkI : kI ≤ n) (hkO : kO ≤ n) (nd : X.N.Nodup) (hy : X.N[i]? = some y) (loc : Loc X.env.scope y) (hxe : X.xe = fun _ _ => False) (he : PE X ctx te) (hb : PSs X body tb) (hf : X.fn y = true ∨ X.env.scope.names.lookup y = some .local) :
    PS X (.With [⟨ctx, some (.Name y py)⟩] body pos) (tWith i Ct spI spO te tb) := by
  obtain ⟨fI, fdI, MI, FI, bI⟩ := mI.ex
  obtain ⟨fO, fdO, MO, FO, bO⟩ := mO.ex
  refine ⟨fun pins s σ H D I h => ?_⟩
  refine PySem.W.kw_execN (thn (he.run pins s σ H _ I h) fun u s1 ⟨v, H1, I1, r1, x, dx, fs, ev, ex, want⟩ => ?_)
  subst ev
  cases (show u = Value.ref x from r1)
  obtain ⟨m1, J, _⟩ := ins_get I1.hok ex
  obtain ⟨od, J, _⟩ := J.look
  obtain ⟨m, fr⟩ := I1.fr
  refine PySem.W.kw_inN fr I1.ok.mod.kin J MI.at_ MI.fn MO.at_ MO.fn ?_
  have bt := bI s1 [.ref x] I1.kIn (FI.len _ _ _ _ want)
  rw [List.append_nil] at bt
  refine wpAny_call (codeAny_mono (FI.run X.A X.stack s1 H1 ⟨[.ref x], []⟩ [.ref x] [.ref x] _ E0 (hr.mono hkI) I1.env0 bt (.cons rfl .nil) want) fun rr s2 h2 => ?_)
  have out : ∀ {σ3 : L2.St} {H3 : Hp} {s4 : Shared} {R : Hp → Prop} {Z : Shared → Prop}, Inv X pins σ3 H3 s4 → spO (.ref x :: nons) H3 (fun _ H4 => R H4) E0 → (∀ H4 s5, Inv X pins σ3 H4 s5 → R H4 → Z s5) → wpAny (model X.prog X.w) X.A (call (.ref fO) [.ref x, .none, .none, .none]) (fun _ s' => Z s') X.xe s4 := fun {σ3 H3 s4 R Z} I4 wO k => by
    have bt := bO s4 [.ref x, .none, .none, .none] I4.kIn (FO.len _ _ _ _ wO)
    rw [List.append_nil] at bt
    refine wpAny_call (codeAny_mono (FO.run X.A X.stack s4 H3 ⟨[.ref x, .none, .none, .none], []⟩ [.ref x, .none, .none, .none] (.ref x :: nons) _ E0 (hr.mono hkO) I4.env0 bt (.cons rfl (.cons rfl (.cons rfl (.cons rfl .nil)))) wO) fun rr s5 h5 => ?_)
    cases rr with
    | error e => exact (h5 : False).elim
    | ok fl =>
      cases fl with
      | ret u3 =>
        obtain ⟨v, H4, I5, _, q⟩ := I4.after h5
        exact k H4 s5 I5 q
      | next => exact (h5 : False).elim
      | brk => exact (h5 : False).elim
      | cont => exact (h5 : False).elim
  cases rr with
  | error e => exact (h2 : False).elim
  | ok fl =>
    cases fl with
    | next => exact (h2 : False).elim
    | brk => exact (h2 : False).elim
    | cont => exact (h2 : False).elim
    | ret u2 =>
      obtain ⟨v2, H2, I2, ru, hq⟩ := I1.after h2
      refine store_ok I2 nd hy loc ru (fun s3 I3 => ?_) hf
      have run := hb.run pins s3 _ H2 _ I3 hq
      rw [hxe] at run
      refine wpAny_mono run (fun fl s4 h4 => ?_) fun e s' z => z
      show wpAny _ _ _ _ _ s4
      cases fl with
      | next =>
        obtain ⟨σ3, H3, I4, w4⟩ := h4
        exact out I4 w4 fun H4 s5 I5 q => ⟨σ3, H4, I5, q⟩
      | brk =>
        obtain ⟨σ3, H3, I4, w4⟩ := h4
        exact out I4 w4 fun H4 s5 I5 q => ⟨σ3, H4, I5, q⟩
      | cont =>
        obtain ⟨σ3, H3, I4, w4⟩ := h4
        exact out I4 w4 fun H4 s5 I5 q => ⟨σ3, H4, I5, q⟩
      | ret u5 =>
        obtain ⟨v5, σ3, H3, I4, rv, w4⟩ := h4
        exact out I4 w4 fun H4 s5 I5 q => ⟨v5, σ3, H4, I5, rv, q⟩
end
end Gu
namespace Gu
open PySem PySem.Spec PyProof PyProof.Rows L2 LamX
/-! ### trials -/
structure TriC (K : PySem.W.Frag) (mg : Str → Option Value) (C : Addr) : Prop where
  cl : Cls K C
  nS : NoAttr K C "shelf"
  nE : NoAttr K C "entry"
  g : mg "Trial" = some (.ref C)
structure EntC (K : PySem.W.Frag) (mg : Str → Option Value) (C : Addr) : Prop where
  cl : Cls K C
  nT : NoAttr K C "texts"
  nM : NoAttr K C "names"
  nP : NoAttr K C "past"
  nO : NoAttr K C "outer"
  g : mg "Entry" = some (.ref C)
structure TriInitAt (K : PySem.W.Frag) (C : Addr) : Prop where
  ex : ∃ (f : Addr) (fd : FuncData), Mk K C f ∧ Fun K "__init__" "Trial.__init__" s_Trial_init f fd ∧ Binds K fd ps_Trial_init []
structure EntInitAt (K : PySem.W.Frag) (C : Addr) : Prop where
  ex : ∃ (f : Addr) (fd : FuncData), Mk K C f ∧ Fun K "__init__" "Entry.__init__" s_Entry_init f fd ∧ Binds K fd ps_Entry_init []
/-- what isinstance asks of the class -/
structure ShlI (K : PySem.W.Frag) (C : Addr) : Prop where
  ty : ∀ {H : Hp} {a dx : Addr} {fs : List (Str × V)}, H a = some (.ins C dx fs) → TyX K H (.ref a) (.ref C)
  kk : PySem.W.kitOne K (.ref C) (.ref C) = some true
  ow : ClsV (.ref C) (.ref C)
def triF (s : Addr) (o : V) : List (Str × V) := [("shelf", .ref s), ("entry", o)]
def entF (a b c : Addr) (o : V) : List (Str × V) := [("texts", .ref a), ("names", .ref b), ("past", .ref c), ("outer", o)]
def TrialAt (Ct : Addr) (H : Hp) (t s : Addr) (o : V) : Prop := ∃ dt, H t = some (.ins Ct dt (triF s o))
def EntAt (Ce : Addr) (H : Hp) (e a b c : Addr) (o : V) : Prop := ∃ de, H e = some (.ins Ce de (entF a b c o))
section
variable {P : Program} {w : World} {K : PySem.W.Frag} {mg : Str → Option Value} {base : Heap} {C N Ct Ce : Addr}
/-! made -/
def spTriInit (Ct : Addr) : Sp := fun vs H Q _ => ∃ (x dx s : Addr), vs = [.ref x, .ref s] ∧ H x = some (.ins Ct dx []) ∧ ∀ G, Kp [x] H G → TrialAt Ct G x s .non → Q .non G
theorem mak_tri (B : Bi mg) (S : TriC K mg Ct) (D : TriInitAt K Ct) : Mak P w K mg base 2 "Trial" Ct (spTriInit Ct) := by
  obtain ⟨f, fd, M, F, b⟩ := D.ex
  refine ⟨f, fd, ps_Trial_init, M, F.ok sc_Trial_init (fun vs H Q E h => ?_) (fun cdv A outer s0 H vs Q E hr h => ?_), S.g, b⟩
  · obtain ⟨x, dx, s, rfl, _⟩ := h
    rfl
  · obtain ⟨x, dx, s, rfl, hx, k⟩ := h
    refine ⟨_, (pss_cons (ps_fld (pv 0) (pv 1) rfl)
      (pss_one (ps_fld (pv 0) pe_non rfl))), ?_⟩
    refine ⟨_, rfl, _, rfl, x, Ct, dx, [], rfl, hx, S.cl, S.nS, by decide, ?_⟩
    generalize hG : upd H x _ = G1
    have k1 : Kp [x] H G1 := hG ▸ kp_upd
    have e1 : G1 x = some (.ins Ct dx [("shelf", .ref s)]) := by rw [← hG]; exact upd_same
    clear hG
    refine ⟨_, rfl, x, Ct, dx, _, rfl, e1, S.cl, S.nE, by show 1 < 1000; decide, ?_⟩
    generalize hG : upd G1 x _ = G2
    have k2 : Kp [x] G1 G2 := hG ▸ kp_upd
    have e2 : G2 x = some (.ins Ct dx (triF s .non)) := by rw [← hG]; exact upd_same
    exact k G2 (k1.trans k2) ⟨dx, e2⟩
def spEntInit (C Ce : Addr) : Sp := fun vs H Q _ => ∃ (x dx s ds n a b c : Addr) (z : Bool) (o : V), vs = [.ref x, .ref s, o] ∧ H x = some (.ins Ce dx []) ∧ H s = some (.ins C ds (sflds n a b c z)) ∧ ∀ G, Kp [x] H G → EntAt Ce G x a b c o → Q .non G
theorem mak_ent (B : Bi mg) (Z : ShlC K mg C) (S : EntC K mg Ce) (D : EntInitAt K Ce) : Mak P w K mg base 2 "Entry" Ce (spEntInit C Ce) := by
  obtain ⟨f, fd, M, F, b⟩ := D.ex
  refine ⟨f, fd, ps_Entry_init, M, F.ok sc_Entry_init (fun vs H Q E h => ?_) (fun cdv A outer s0 H vs Q E hr h => ?_), S.g, b⟩
  · obtain ⟨x, dx, s, ds, n, a, b, c, z, o, rfl, _⟩ := h
    rfl
  · obtain ⟨x, dx, s, ds, n, a, b, c, z, o, rfl, hx, hs, k⟩ := h
    have nsx : s ∉ [x] := fun y => by
      rw [List.mem_singleton.mp y, hx] at hs
      injection hs with hs
      injection hs with _ _ hs
      cases hs
    refine ⟨_, (pss_cons (ps_fld (pv 0) (pe_fld (pv 1) rfl) rfl)
      (pss_cons (ps_fld (pv 0) (pe_fld (pv 1) rfl) rfl)
      (pss_cons (ps_fld (pv 0) (pe_fld (pv 1) rfl) rfl)
      (pss_one (ps_fld (pv 0) (pv 2) rfl))))), ?_⟩
    refine ⟨_, rfl, s, C, ds, _, _, rfl, hs, Z.cl, Z.nT, sf_texts, _, rfl, x, Ce, dx, [], rfl, hx, S.cl, S.nT, by decide, ?_⟩
    generalize hG : upd H x _ = G1
    have k1 : Kp [x] H G1 := hG ▸ kp_upd
    have e1 : G1 x = some (.ins Ce dx [("texts", .ref a)]) := by rw [← hG]; exact upd_same
    clear hG
    have hs1 := k1 _ _ hs nsx
    refine ⟨_, rfl, s, C, ds, _, _, rfl, hs1, Z.cl, Z.nM, sf_names, _, rfl, x, Ce, dx, _, rfl, e1, S.cl, S.nM, by show 1 < 1000; decide, ?_⟩
    generalize hG : upd G1 x _ = G2
    have k2 : Kp [x] G1 G2 := hG ▸ kp_upd
    have e2 : G2 x = some (.ins Ce dx [("texts", .ref a), ("names", .ref b)]) := by rw [← hG]; exact upd_same
    clear hG
    have hs2 := k2 _ _ hs1 nsx
    refine ⟨_, rfl, s, C, ds, _, _, rfl, hs2, Z.cl, Z.nP, sf_past, _, rfl, x, Ce, dx, _, rfl, e2, S.cl, S.nP, by show 2 < 1000; decide, ?_⟩
    generalize hG : upd G2 x _ = G3
    have k3 : Kp [x] G2 G3 := hG ▸ kp_upd
    have e3 : G3 x = some (.ins Ce dx [("texts", .ref a), ("names", .ref b), ("past", .ref c)]) := by rw [← hG]; exact upd_same
    clear hG
    refine ⟨_, rfl, _, rfl, x, Ce, dx, _, rfl, e3, S.cl, S.nO, by show 3 < 1000; decide, ?_⟩
    generalize hG : upd G3 x _ = G4
    have k4 : Kp [x] G3 G4 := hG ▸ kp_upd
    have e4 : G4 x = some (.ins Ce dx (entF a b c o)) := by rw [← hG]; exact upd_same
    exact k G4 ((k1.trans k2).trans (k3.trans k4)) ⟨dx, e4⟩
/-! entered, left -/
def spEnter (C Ct Ce : Addr) : Sp := fun vs H Q _ => ∃ (t s ds n a b c : Addr) (z : Bool) (o : V), vs = [.ref t] ∧ TrialAt Ct H t s o ∧ H s = some (.ins C ds (sflds n a b c z)) ∧ ∀ e G, H e = none → Kp [t] H G → TrialAt Ct G t s (.ref e) → EntAt Ce G e a b c o → Q (.ref s) G
theorem cal_enter (B : Bi mg) (Y : TriC K mg Ct) (D : MethAt K Ct "__enter__" "Trial.__enter__" s_Trial_enter ps_Trial_enter) (M_Entry : Mak P w K mg base 2 "Entry" Ce (spEntInit C Ce)) : CalM P w K mg base 4 Ct "__enter__" ps_Trial_enter (spEnter C Ct Ce) := by
  refine D.cal sc_Trial_enter (fun vs H Q E h => ?_) (fun f cdv A outer s0 H vs Q E hr h => ?_)
  · obtain ⟨t, s, ds, n, a, b, c, z, o, rfl, _⟩ := h
    rfl
  · obtain ⟨t, s, ds, n, a, b, c, z, o, rfl, ⟨dt, ht⟩, hs, k⟩ := h
    refine ⟨_, (pss_cons (ps_fld (pv 0) (pe_new M_Entry hr (by decide) (by rfl) (pa_cons (pe_fld (pv 0) rfl) (pa_cons (pe_fld (pv 0) rfl) pa_nil))) rfl)
      (pss_one (ps_ret (pe_fld (pv 0) rfl)))), ?_⟩
    refine ⟨_, rfl, t, Ct, dt, _, _, rfl, ht, Y.cl, Y.nS, rfl, _, rfl, t, Ct, dt, _, _, rfl, ht, Y.cl, Y.nE, rfl, ?_⟩
    refine fun e de ne nd nn => ⟨e, de, s, ds, n, a, b, c, z, o, rfl, upd_same, same_mk ne nd nn _ _ hs, fun G1 k1 hE => ⟨rfl, ?_⟩⟩
    have tne : t ≠ e := ne_of_none ht ne
    have s1 : Same H G1 := fun b o e2 => k1 b o (same_mk ne nd nn b o e2) fun y => (by rw [List.mem_singleton.mp y, ne] at e2; cases e2)
    refine ⟨_, rfl, t, Ct, dt, _, rfl, s1 _ _ ht, Y.cl, Y.nE, by show 2 < 1000; decide, ?_⟩
    generalize hG : upd G1 t _ = G2
    have k2 : Kp [t] G1 G2 := hG ▸ kp_upd
    have e2 : G2 t = some (.ins Ct dt (triF s (.ref e))) := by rw [← hG]; exact upd_same
    clear hG
    refine ⟨_, rfl, t, Ct, dt, _, _, rfl, e2, Y.cl, Y.nS, rfl, ?_⟩
    obtain ⟨de2, hE⟩ := hE
    exact k e G2 ne ((Kp.same s1).trans k2) ⟨dt, e2⟩ ⟨de2, k2 _ _ hE fun y => tne (List.mem_singleton.mp y).symm⟩
def spExit (C Ct Ce : Addr) : Sp := fun vs H Q _ => ∃ (t s e ds n a b c a1 b1 c1 : Addr) (z : Bool) (o x1 x2 x3 : V), vs = [.ref t, x1, x2, x3] ∧ TrialAt Ct H t s (.ref e) ∧ EntAt Ce H e a b c o ∧ H s = some (.ins C ds (sflds n a1 b1 c1 z)) ∧ ∀ G, Kp [t, s] H G → TrialAt Ct G t s o → G s = some (.ins C ds (sflds n a b c z)) → Q .non G
theorem cal_exit (B : Bi mg) (Z : ShlC K mg C) (Y : TriC K mg Ct) (X : EntC K mg Ce) (D : MethAt K Ct "__exit__" "Trial.__exit__" s_Trial_exit ps_Trial_exit) : CalM P w K mg base 2 Ct "__exit__" ps_Trial_exit (spExit C Ct Ce) := by
  refine D.cal sc_Trial_exit (fun vs H Q E h => ?_) (fun f cdv A outer s0 H vs Q E hr h => ?_)
  · obtain ⟨t, s, e, ds, n, a, b, c, a1, b1, c1, z, o, x1, x2, x3, rfl, _⟩ := h
    rfl
  · obtain ⟨t, s, e, ds, n, a, b, c, a1, b1, c1, z, o, x1, x2, x3, rfl, ⟨dt, ht⟩, ⟨de, he⟩, hs, k⟩ := h
    have ns : ∀ {dx : Addr} {fs : List (Str × V)} {x D : Addr}, H x = some (.ins D dx fs) → fs.length ≤ 4 → x ≠ s := fun hx l y => by
      rw [y, hs] at hx
      injection hx with hx
      injection hx with _ _ hx
      rw [← hx] at l
      exact absurd l (by show ¬ (5 ≤ 4); decide)
    have nts := ns ht (by show 2 ≤ 4; decide)
    have nes := ns he (by show 4 ≤ 4; decide)
    refine ⟨_, (pss_cons (ps_fld (pe_fld (pv 0) rfl) (pe_fld (pe_fld (pv 0) rfl) rfl) rfl)
      (pss_cons (ps_fld (pe_fld (pv 0) rfl) (pe_fld (pe_fld (pv 0) rfl) rfl) rfl)
      (pss_cons (ps_fld (pe_fld (pv 0) rfl) (pe_fld (pe_fld (pv 0) rfl) rfl) rfl)
      (pss_one (ps_fld (pv 0) (pe_fld (pe_fld (pv 0) rfl) rfl) rfl))))), ?_⟩
    refine ⟨_, rfl, t, Ct, dt, _, _, rfl, ht, Y.cl, Y.nE, rfl, e, Ce, de, _, _, rfl, he, X.cl, X.nT, rfl, _, rfl, t, Ct, dt, _, _, rfl, ht, Y.cl, Y.nS, rfl, s, C, ds, _, rfl, hs, Z.cl, Z.nT, by show 5 < 1000; decide, ?_⟩
    rw [put_texts]
    generalize hG : upd H s _ = G1
    have k1 : Kp [s] H G1 := hG ▸ kp_upd
    have g1 : G1 s = some (.ins C ds (sflds n a b1 c1 z)) := by rw [← hG]; exact upd_same
    clear hG
    have no : ∀ {x : Addr}, x ≠ s → x ∉ [s] := fun h y => h (List.mem_singleton.mp y)
    have ht1 := k1 _ _ ht (no nts)
    have he1 := k1 _ _ he (no nes)
    refine ⟨_, rfl, t, Ct, dt, _, _, rfl, ht1, Y.cl, Y.nE, rfl, e, Ce, de, _, _, rfl, he1, X.cl, X.nM, rfl, _, rfl, t, Ct, dt, _, _, rfl, ht1, Y.cl, Y.nS, rfl, s, C, ds, _, rfl, g1, Z.cl, Z.nM, by show 5 < 1000; decide, ?_⟩
    rw [put_names]
    generalize hG : upd G1 s _ = G2
    have k2 : Kp [s] G1 G2 := hG ▸ kp_upd
    have g2 : G2 s = some (.ins C ds (sflds n a b c1 z)) := by rw [← hG]; exact upd_same
    clear hG
    have ht2 := k2 _ _ ht1 (no nts)
    have he2 := k2 _ _ he1 (no nes)
    refine ⟨_, rfl, t, Ct, dt, _, _, rfl, ht2, Y.cl, Y.nE, rfl, e, Ce, de, _, _, rfl, he2, X.cl, X.nP, rfl, _, rfl, t, Ct, dt, _, _, rfl, ht2, Y.cl, Y.nS, rfl, s, C, ds, _, rfl, g2, Z.cl, Z.nP, by show 5 < 1000; decide, ?_⟩
    rw [put_past]
    generalize hG : upd G2 s _ = G3
    have k3 : Kp [s] G2 G3 := hG ▸ kp_upd
    have g3 : G3 s = some (.ins C ds (sflds n a b c z)) := by rw [← hG]; exact upd_same
    clear hG
    have ht3 := k3 _ _ ht2 (no nts)
    have he3 := k3 _ _ he2 (no nes)
    refine ⟨_, rfl, t, Ct, dt, _, _, rfl, ht3, Y.cl, Y.nE, rfl, e, Ce, de, _, _, rfl, he3, X.cl, X.nO, rfl, _, rfl, t, Ct, dt, _, rfl, ht3, Y.cl, Y.nE, by show 2 < 1000; decide, ?_⟩
    generalize hG : upd G3 t _ = G4
    have k4 : Kp [t] G3 G4 := hG ▸ kp_upd
    have g4 : G4 t = some (.ins Ct dt (triF s o)) := by rw [← hG]; exact upd_same
    clear hG
    refine k G4 (((k1.trans (k2.trans k3)).mono fun b hb => List.mem_cons_of_mem _ hb).trans (k4.mono fun b hb => by rw [List.mem_singleton.mp hb]; exact List.mem_cons_self ..)) ⟨dt, g4⟩ (k4 _ _ g3 fun y => nts (List.mem_singleton.mp y).symm)
/-! shelf.trial() -/
def spTrial (C N Ct : Addr) : Sp := fun vs H Q _ => ∃ (s : Addr) (S : Sf), vs = [.ref s] ∧ ShelfAt C N H s S ∧ S.busy = false ∧ ∀ t G, H t = none → Same H G → TrialAt Ct G t s .non → Q (.ref t) G
theorem cal_trial (B : Bi mg) (Z : ShlC K mg C) (D : MethAt K C "trial" "Shelf.trial" s_Shelf_trial ps_Shelf_trial) (M_check_not_busy : CalM P w K mg base 1 C "check_not_busy" ps_Shelf_check_not_busy (spCalmS C N)) (M_Trial : Mak P w K mg base 2 "Trial" Ct (spTriInit Ct)) : CalM P w K mg base 4 C "trial" ps_Shelf_trial (spTrial C N Ct) := by
  refine D.cal sc_Shelf_trial (fun vs H Q E h => ?_) (fun f cdv A outer s0 H vs Q E hr h => ?_)
  · obtain ⟨s, S, rfl, _⟩ := h
    rfl
  · obtain ⟨s, S, rfl, hS, bz, k⟩ := h
    obtain ⟨dx, n, a, b, c, e0, _⟩ := id hS.ex
    refine ⟨_, (pss_cons (ps_expr (pe_mth0 M_check_not_busy Z.cl hr (by decide) (pv 0)))
      (pss_one (ps_ret (pe_new M_Trial hr (by decide) (by rfl) (pa_cons (pv 0) pa_nil))))), ?_⟩
    refine ⟨_, rfl, s, dx, _, rfl, e0, rfl, s, S, rfl, hS, bz, ?_⟩
    refine ⟨_, rfl, fun t dt nt nd ne => ⟨t, dt, s, rfl, upd_same, fun G k1 hT => ⟨rfl, ?_⟩⟩⟩
    exact k t G nt (fun b o e2 => k1 b o (same_mk nt nd ne b o e2) fun y => (by rw [List.mem_singleton.mp y, nt] at e2; cases e2)) hT
end
end Gu
namespace Gu
open PySem PySem.Spec PyProof PyProof.Rows L2 LamX
/-! ### within, attempt -/
section
variable {C N Ct Ce p s t : Addr} {l : List Addr} {H G J L : Hp} {S : Sf}
/-- at the places of l stand instances -/
def Ins (l : List Addr) (J : Hp) : Prop := ∀ b ∈ l, ∃ (C dx : Addr) (fs : List (Str × V)), J b = some (.ins C dx fs)
theorem Ins.off (m : Ins l J) {q : Addr} {o : HO} (e : J q = some o) (n : ∀ a b c, o ≠ .ins a b c) : q ∉ l := fun hq => by
  obtain ⟨C, dx, fs, f⟩ := m q hq
  rw [e] at f
  exact n _ _ _ (Option.some.inj f)
theorem Ins.tup (m : Ins l J) (k : Kp l J L) {q : Addr} {xs : List V} (e : J q = some (.tup xs)) : L q = some (.tup xs) := k _ _ e (m.off e fun _ _ _ z => by cases z)
theorem FT.kpI (m : Ins l J) (k : Kp l J L) {q : Addr} {xs : List V} (h : FT J q xs) : FT L q xs := by
  obtain ⟨o, e, r⟩ := h
  exact ⟨o, k _ _ e (m.off e fun _ _ _ z => by cases z), r⟩
theorem PastAt.kpI (m : Ins l J) (k : Kp l J L) {c : Addr} {past : List Prs} (h : PastAt J c past) : PastAt L c past := by
  obtain ⟨qs, e, h1, h2⟩ := h
  refine ⟨qs, m.tup k e, h1, fun q hq => ?_⟩
  obtain ⟨a, b, e1, e2, e3⟩ := h2 q hq
  exact ⟨a, b, m.tup k e1, m.tup k e2, e3.kpI m k⟩
theorem mut_ins (mu : Muts C N l G) {x D dx : Addr} {fs : List (Str × V)} (e : G x = some (.ins D dx fs)) (n : fs.length ≤ 4) : x ∉ l := fun hx => by
  rcases mu x hx with ⟨a, b, c, f⟩ | ⟨S, h⟩
  · rw [e] at f
    cases f
  · obtain ⟨_, _, _, _, _, f, _⟩ := h.ex
    rw [e] at f
    injection f with f
    injection f with _ _ f
    rw [f] at n
    exact absurd n (by show ¬ (5 ≤ 4); decide)
theorem nm_tri {M q : Addr} {so : Str} {w : Int} {o : V} (h : NmAt M J q so w) (ht : TrialAt Ct J t s o) : q ≠ t := fun z => by
  obtain ⟨d, e⟩ := h
  obtain ⟨dt, f⟩ := ht
  rw [z, f] at e
  injection e with e
  injection e with _ _ e
  have a := nflds_rule so w
  rw [← e] at a
  cases a
theorem nm_shelf {M q : Addr} {so : Str} {w : Int} (h : NmAt M J q so w) (hs : ShelfAt C N J s S) : q ∉ [s] := Muts.nm (C := C) (N := N) (l := [s]) (fun b hb => .inr ⟨S, by rw [List.mem_singleton.mp hb]; exact hs⟩) h
/-- the shelf when it is left again -/
def Sf.left (T S : Sf) : Sf := { T with ps := S.ps, past := S.past }
end
section
variable {P : Program} {w : World} {K : PySem.W.Frag} {mg : Str → Option Value} {base : Heap} {C N Ct Ce : Addr} {j k : Nat}
def spWithin (C Ct Ce : Addr) : SpA := fun v R c' q H Q => ∃ (t s ds n a b c : Addr) (z : Bool) (o : V), v = .ref t ∧ TrialAt Ct H t s o ∧ H s = some (.ins C ds (sflds n a b c z)) ∧ ∀ e G, H e = none → Kp [t] H G → TrialAt Ct G t s (.ref e) → EntAt Ce G e a b c o →
  R (.ref s) E0 G (fun w J => spExit C Ct Ce (.ref t :: nons) J (fun _ L => Q w L) E0)
theorem cal_within (B : Bi mg) (D : At K mg "within" s_within ps_within) (h4 : 4 ≤ k) (hjk : j ≤ k) (M_enter : CalM P w K mg base 4 Ct "__enter__" ps_Trial_enter (spEnter C Ct Ce)) (M_exit : CalM P w K mg base 2 Ct "__exit__" ps_Trial_exit (spExit C Ct Ce)) : CalA P w K mg base j (k + 1) "within" ps_within (spWithin C Ct Ce) := by
  refine D.calA sc_within rfl (fun f cdv A outer s0 H v g c' q R Q hr act off hc h => ?_)
  obtain ⟨t, s, ds, n, a, b, c, z, o, rfl, hT, hs, k1⟩ := h
  obtain ⟨dt, ht⟩ := id hT
  refine ⟨_, (pss_one (ps_withN M_enter M_exit hr h4 (Nat.le_trans (by decide) h4) sc_within.nd (i := 2) rfl (.inl rfl) rfl (pv 0) (pss_one (ps_ret (pe_act1 (i := 1) act off rfl hr hjk rfl (.inl rfl) (pa_cons (pv 2) pa_nil)))) (.inr rfl))), ?_⟩
  refine ⟨_, rfl, t, dt, _, rfl, ht, t, s, ds, n, a, b, c, z, o, rfl, hT, hs, fun e G ne kG hTG hEG => ?_⟩
  have hcG : G c' = some (CodeO c' q) := kG _ _ hc fun y => by
    rw [List.mem_singleton.mp y, ht] at hc
    unfold CodeO at hc
    cases hc
  exact ⟨rfl, _, rfl, _, rfl, hcG, k1 e G ne kG hTG hEG⟩
/-- what leaving asks: all but pots and shelves stands -/
theorem exit_ok {l : List Addr} {G J : Hp} {t s e a b c : Addr} {S S' : Sf} {o : V} {Q : VK} {E : XK} (mu : Muts C N l G) (kJ : KpN l G J) (hT : TrialAt Ct G t s (.ref e)) (hE : EntAt Ce G e a b c o) (ha : G a = some (.tup (txts S.ps))) (hb : FT G b (nms S.ps)) (hp : PastAt G c S.past) (hS : ShelfAt C N J s S')
    (k : ∀ L, Kp [t, s] J L → Ins [t, s] J → TrialAt Ct L t s o → ShelfAt C N L s (S'.left S) → Q .non L) : spExit C Ct Ce (.ref t :: nons) J Q E := by
  obtain ⟨dt, ht⟩ := hT
  obtain ⟨de, he⟩ := hE
  have htJ := kJ _ _ ht (mut_ins mu ht (by show 2 ≤ 4; decide)) fun _ z => by cases z
  have heJ := kJ _ _ he (mut_ins mu he (by show 4 ≤ 4; decide)) fun _ z => by cases z
  obtain ⟨ds, n, a1, b1, c1, e0, e1, e2, e3, e4⟩ := id hS.ex
  have ins : Ins [t, s] J := fun x hx => by
    rcases List.mem_cons.mp hx with rfl | hx
    · exact ⟨_, _, _, htJ⟩
    · rw [List.mem_singleton.mp hx]
      exact ⟨_, _, _, e0⟩
  refine ⟨t, s, e, ds, n, a, b, c, a1, b1, c1, S'.busy, o, .non, .non, .non, rfl, ⟨dt, htJ⟩, ⟨de, heJ⟩, e0, fun L kL hTL hSL => ?_⟩
  have hnL : NmAt N L n S'.so S'.w := by
    obtain ⟨d, ed⟩ := id e1
    refine ⟨d, kL _ _ ed fun z => ?_⟩
    rcases List.mem_cons.mp z with z | z
    · exact nm_tri e1 ⟨dt, htJ⟩ z
    · exact nm_shelf e1 hS z
  exact k L kL ins hTL ⟨ds, n, a, b, c, hSL, hnL, ins.tup kL (kJ.tup mu ha), (hb.kpN mu kJ).kpI ins kL, (hp.kpN mu kJ).kpI ins kL⟩
def spAttempt (C N Ct Ce : Addr) : SpA := fun v R c' q H Q => ∃ (s : Addr) (S : Sf), v = .ref s ∧ ShelfAt C N H s S ∧ S.busy = false ∧ ∀ t e G a b c, Same H G → H t = none → TrialAt Ct G t s (.ref e) → EntAt Ce G e a b c .non → ShelfAt C N G s S → G a = some (.tup (txts S.ps)) → FT G b (nms S.ps) → PastAt G c S.past →
  R (.ref s) E0 G (fun w J => spExit C Ct Ce (.ref t :: nons) J (fun _ L => Q w L) E0)
theorem cal_attempt (B : Bi mg) (Z : ShlC K mg C) (I : ShlI K C) (D : At K mg "attempt" s_attempt ps_attempt) (h4 : 4 ≤ k) (M_trial : CalM P w K mg base 4 C "trial" ps_Shelf_trial (spTrial C N Ct)) (C_within : CalA P w K mg base j (k + 1) "within" ps_within (spWithin C Ct Ce)) : CalA P w K mg base j (k + 2) "attempt" ps_attempt (spAttempt C N Ct Ce) := by
  refine D.calA sc_attempt rfl (fun f cdv A outer s0 H v g c' q R Q hr act off hc h => ?_)
  obtain ⟨s, S, rfl, hS, bz, k1⟩ := h
  obtain ⟨ds, n, a, b, c, e0, e1, e2, e3, e4⟩ := id hS.ex
  refine ⟨_, (pss_cons (ps_if (pt_not (pt_val (pe_callB (id := "isinstance") (r := rIsi K) call_isi (by rfl) B.isinstance (by decide +kernel) (pa_cons (pv 0) (pa_cons (pe_glob (v := .ref C) (by rfl) Z.g rfl) pa_nil))))) pss_never pss_nil)
      (pss_one (ps_ret (pe_hand C_within act off rfl hr (Nat.le_refl _) (by rfl) rfl (pa_cons (pe_mth0 M_trial Z.cl hr (Nat.le_trans h4 (Nat.le_succ _)) (pv 0)) (pa_cons (pv 1) pa_nil)))))), ?_⟩
  refine ⟨_, rfl, _, _, .ref C, _, true, rfl, I.ow, I.ty e0, I.kk, _, rfl, iteF ?_⟩
  refine ⟨_, rfl, s, ds, _, rfl, e0, rfl, s, S, rfl, hS, bz, fun t G1 nt s1 hT => ?_⟩
  refine ⟨_, rfl, _, rfl, s1 _ _ hc, t, s, ds, n, a, b, c, S.busy, .non, rfl, hT, s1 _ _ e0, fun e G ne kG hTG hEG => ?_⟩
  have s2 : Same H G := fun x o e5 => kG x o (s1 _ _ e5) fun z => (by rw [List.mem_singleton.mp z, nt] at e5; cases e5)
  exact k1 t e G a b c s2 nt hTG hEG (hS.same s2) (s2 _ _ e2) (e3.same s2) (e4.same s2)
end
end Gu
namespace Gu
open PySem PySem.Spec PyProof.Rows L2
/-! ### new objects, without their place -/
theorem tup_new {H : Hp} {Q : V → Hp → Prop} {xs : List V} (k : ∀ t G, H t = none → Same H G → G t = some (.tup xs) → Q (.ref t) G) : ∀ t, H t = none → Q (.ref t) (upd H t (.tup xs)) := fun t n => k t _ n (same_new n) upd_same
theorem lst_new {H : Hp} {Q : V → Hp → Prop} {xs : List V} (k : ∀ t G, H t = none → Same H G → G t = some (.lst xs) → Q (.ref t) G) : ∀ t, H t = none → Q (.ref t) (upd H t (.lst xs)) := fun t n => k t _ n (same_new n) upd_same
theorem dk_new {H : Hp} {Q : V → Hp → Prop} (k : ∀ t G, H t = none → Same H G → G t = some (.dK []) → Q (.ref t) G) : ∀ t, H t = none → Q (.ref t) (upd H t (.dK [])) := fun t n => k t _ n (same_new n) upd_same
end Gu
namespace Gu
open PySem PySem.Spec PyProof.Rows L2
/-! ### a Namer made by keywords -/
structure MakK (P : Program) (w : World) (K : PySem.W.Frag) (mg : Str → Option Value) (base : Heap) (k : Nat) (x : Str) (C : Addr) (ks : List Str) (gV : List V → List V → List V) (sp : Sp) : Prop where
  ex : ∃ (f : Addr) (fd : FuncData) (ps : List Str) (g : List Value → List Value → List Value), Mk K C f ∧ FnOk P w K mg base CX0 k f fd ps sp ∧ mg x = some (.ref C) ∧ KBn K fd ps 1 ks g gV
theorem pe_newK {X : Cx} {k j : Nat} {x : Str} {C : Addr} {ks : List Str} {gV : List V → List V → List V} {sp : Sp} {p pos : Pos} {kws : List Keyword} {tk : TA} (c : MakK X.prog X.w X.K X.mg X.base k x C ks gV sp) (hr : Room j X.A) (hk : k + 1 ≤ j) (hg : Gl X x) (hkw : PK X kws tk)
    (hall : (backToKw pos (keywordEach kws X.env)).all (·.1.isSome) = true := by rfl) (hks : (backToKw pos (keywordEach kws X.env)).filterMap (·.1) = ks := by rfl) (hdb : (x == ("__debug__" : Str)) = false := by decide)
    (hpl : ((backTo pos (starEach [] X.env)).any (·.1) || (backToKw pos (keywordEach kws X.env)).any (·.1.isNone)) = false := by rfl) : PE X (.Call (.Name x p) [] kws pos) (tMakeK C 0 ks.length sp gV E0 tNil tk) := by
  obtain ⟨f, fd, ps, g, M, F, hm, b⟩ := c.ex
  exact pe_makeK0 M F (hr.mono hk) hg hm b pass0 hkw hall hks hdb hpl
def rev2 {α : Type} (a b : List α) : List α := a ++ b.reverse
theorem vals_rev2 : ∀ {zs : List V} {ws : List Value}, Vals zs ws → Vals zs.reverse ws.reverse
  | [], _, r => by
    cases r
    exact .nil
  | z :: zs, _, r => by
    cases r with
    | cons a r =>
      rw [List.reverse_cons, List.reverse_cons]
      exact (vals_rev2 r).append (.cons a .nil)
theorem makk_nm {P : Program} {w : World} {K : PySem.W.Frag} {mg : Str → Option Value} {base : Heap} {C : Addr} (B : Bi mg) (S : NmC K mg C) (D : NInitAt K C) (C_is_integer : Cal P w K mg base 1 "is_integer" ps_is_integer (spIsInteger K)) : MakK P w K mg base 2 "Namer" C ["width", "rule"] rev2 (spNInit C (NmAt C)) := by
  obtain ⟨f, fd, M, F, b⟩ := D.ex
  refine ⟨f, fd, ps_Namer_init, rev2, M, ok_ninit B S F C_is_integer, S.g, ⟨fun s us ws I l1 l2 => ?_, fun r q => ?_⟩⟩
  · obtain ⟨oc, od, kV, doc, pm, an, cdv, ct, sl, e, lk, hcd⟩ := F.ex
    rw [e]
    match us, ws, l1, l2 with
    | [_], [_, _], _, _ => exact BindsTo.of_eq rfl
  · exact r.append (vals_rev2 q)
end Gu
namespace Gu
open PySem PySem.Spec PyProof PyProof.Rows L2 LamX
/-! ### x(m = lambda y: body, n = z) -/
structure CalAK (P : Program) (w : World) (K : PySem.W.Frag) (mg : Str → Option Value) (base : Heap) (j k : Nat) (x : Str) (ps ks : List Str) (sp : SpA) : Prop where
  ex : ∃ (f : Addr) (fd : FuncData), FnA P w K mg base j k f fd ps sp ∧ mg x = some (.ref f) ∧ PySem.W.keepIn K (.ref f) = true ∧ ∀ (s : Shared) (u v : Value), K.In s.heap → BindsTo s fd ⟨[], ks.zip [u, v]⟩ (ps.zip [v, u])
theorem At.calAK {P : Program} {w : World} {K : PySem.W.Frag} {mg : Str → Option Value} {base : Heap} {x : Str} {st : Stmt} {N ps ks : List Str} {j k : Nat} {sp : SpA} (D : At K mg x st ps) (S : FnScope N ps (defScope st)) (two : ps.length = 2)
    (hb : ∀ (kV doc pm : Value) (an : Option Addr) (cdv ct : Value) (u v : Value), bindArgs (PySem.W.fnOf x x (defArgs st) (defBody st) (defScope st) .none kV doc pm an cdv ct) ⟨[], ks.zip [u, v]⟩ = pure (ps.zip [v, u]))
    (body : ∀ (f : Addr) (cdv : Value) (A : Around) (outer : List Env) (s : Shared) (H : Hp) (v : V) (g c' : Addr) (q : Str) (R : V → XK → Hp → VK → Prop) (Q : VK), Room k (A.deeper (envOfC x (defScope st) s.heap.objs.size f cdv)) → ActAt P w K mg base j s.heap H g c' q R → g ∉ frs outer → H c' = some (CodeO c' q) → sp v R c' q H Q →
      ∃ t, PSs (cxOf CX0 P w K mg base N x (defScope st) f cdv A outer s H E0).nox (defBody st) t ∧ t { nx := fun _ G => Q .non G, rt := Q } (start N [v, .ref g]) H) : CalAK P w K mg base j (k + 1) x ps ks sp := by
  obtain ⟨f, fd, F, b, g⟩ := D.ex
  refine ⟨f, fd, okA F S two (body f), g, F.kp, fun s u v I => ?_⟩
  obtain ⟨oc, od, kV, doc, pm, an, cdv, ct, sl, e, lk, hcd⟩ := F.ex
  rw [e]
  exact BindsTo.of_eq (hb kV doc pm an cdv ct u v)
def tHandLamK (T : List (Addr × Str)) (q : Str) (sp : SpA) (tb : XK → TE) (i : Nat) : TE := fun σ H Q => Tabs T H ∧ ∃ v, σ[i]? = some (some v) ∧ ∀ c' H2, ExtN H H2 → Tabs T H2 → H2 c' = some (CodeO c' q) → sp v (fun v E H Q => tb E (σ ++ [some v]) H Q) c' q H2 Q
section
variable {X : Cx} {j k n : Nat} {x : Str} {ps : List Str} {sp : SpA} {p pos : Pos}
theorem pe_handLamK {T : List (Addr × Str)} {c P : Addr} {params : Arguments} {body : Expr} {scope : Scope} {lpos zp kp1 kp2 : Pos} {y z m1 m2 : Str} {i : Nat} {tb : XK → TE} (ca : CalAK X.prog X.w X.K X.mg X.base (j + 1) k x ps [m1, m2] sp) (TB : TabB X.base X.mg c P) (hcode : X.env.code = .ref c) (hmT : (P, X.env.qual ++ "<lambda>") ∈ T) (hu : ∀ p ∈ T, p.1 = P → p.2 = X.env.qual ++ "<lambda>")
    (L : LamS1 X.env.scope scope y) (ny : y ∉ X.N) (hdef : defaultsOf params X.env = ([], []))
    (hbind : ∀ (q : Str) (cl : List (Str × Addr)) (pm cv ctv u : Value), bindArgs (PySem.W.kla_fn "<lambda>" q params body scope cl pm cv ctv) ⟨[u], []⟩ = pure [(y, u)])
    (hbody : ∀ (A : Around) (outer : List Env) (s : Shared) (H : Hp) (E : XK) (f c' : Addr), Room j (A.deeper (lamEnv X scope s.heap.objs.size f c')) → PE (lamCx1 X A outer s H E scope f c' y) body (tb E))
    (hr : Room n X.A) (hk : k ≤ n) (hg : Gl X x) (hN : X.N[i]? = some z) (hv : Vis X.env.scope z) (hdb : (x == ("__debug__" : Str)) = false := by decide) (hdz : (z == ("__debug__" : Str)) = false := by decide) (hcz : (z == ("__classdict__" : Str)) = false := by decide)
    (hall : (backToKw pos (keywordEach [⟨some m1, .Lambda params body scope lpos, kp1⟩, ⟨some m2, .Name z zp, kp2⟩] X.env)).all (·.1.isSome) = true := by rfl)
    (hpl : ((backTo pos (starEach [] X.env)).any (·.1) || (backToKw pos (keywordEach [⟨some m1, .Lambda params body scope lpos, kp1⟩, ⟨some m2, .Name z zp, kp2⟩] X.env)).any (·.1.isNone)) = false := by rfl) :
    PE X (.Call (.Name x p) [] [⟨some m1, .Lambda params body scope lpos, kp1⟩, ⟨some m2, .Name z zp, kp2⟩] pos) (tHandLamK T (X.env.qual ++ "<lambda>") sp tb i) := by
  obtain ⟨g, fd, F, hm, kp, b⟩ := ca.ex
  refine ⟨fun pins s σ H Q I h => ?_⟩
  obtain ⟨hT, v, hi, h1⟩ := h
  refine wpAny_Call_Name_kw (ld_glob I hg hm ?_ hdb)
  refine PySem.W.callWith_KW0 (h₀ := X.base) I.ok.mod.kin kp hall ?_ hpl
  show wpAny _ _ (evalAll ((do let v ← eval (.Lambda params body scope lpos) X.env; standAt pos; pure v) :: (do let v ← eval (.Name z zp) X.env; standAt pos; pure v) :: [])) _ _ s
  refine wpAny_evalAll_cons (wpAny_bind (lam_make2 I TB hcode hmT hu hT hdef (L.has I.ok) fun f c' pm' ctv H2 s2 I2 eN T2 hf hfn hfr hco => wpAny_bind (wpAny_standAt (wpAny_pure ?_))))
  have act := act_made (k := j) (tb := tb) I2 L ny hf hfn (fun u => hbind _ _ _ _ _ u) (fun A outer s H E hr2 => hbody A outer s H E f c' hr2)
  obtain ⟨m, hn, hl⟩ := I2.loc
  obtain ⟨u, r, l⟩ := hl i z v hN hi hv
  have fin : wpAny (model X.prog X.w) X.A (do standAt pos; pure u) (fun v s' => wpAny (model X.prog X.w) X.A (evalAll []) (fun vs s'' => (X.K.In s''.heap) ∧ wpAny (model X.prog X.w) X.A (call (.ref g) ([] ++ []) (((backToKw pos (keywordEach [⟨some m1, .Lambda params body scope lpos, kp1⟩, ⟨some m2, .Name z zp, kp2⟩] X.env)).filterMap (·.1)).zip (.ref f :: v :: vs))) (EP X pins σ Q) X.xe s'') X.xe s') X.xe s2 := by
    refine wpAny_bind (wpAny_standAt (wpAny_pure (wpAny_evalAll_nil ⟨I2.kIn, ?_⟩)))
    refine wpAny_call (codeAny_mono (F.run X.A X.stack s2 H2 ⟨[], [m1, m2].zip [.ref f, u]⟩ u v f c' _ _ Q (hr.mono hk) I2.env0 (b s2 _ _ I2.kIn) r act hfr hco (h1 c' H2 eN T2 hco)) fun rr s3 h3 => ?_)
    cases rr with
    | error e => exact (h3 : False).elim
    | ok fl =>
      cases fl with
      | ret u => exact I2.after h3
      | next => exact (h3 : False).elim
      | brk => exact (h3 : False).elim
      | cont => exact (h3 : False).elim
  refine wpAny_evalAll_cons (wpAny_bind ?_)
  rcases l with ⟨hk, hm⟩ | ⟨hk, c, hc, hcell⟩
  · exact wpAny_Name (wpAny_loadName_local I2.ok.kind hk hn hm fin) hdz
  · rcases hk with hk | hk
    · exact wpAny_Name (wpAny_loadName_cell I2.ok.kind hk hc hcell fin) hdz
    · exact wpAny_Name (wpAny_loadName_free I2.ok.kind hk hc hcell fin hcz) hdz
end
end Gu
namespace Gu
open PySem PySem.Spec PyProof PyProof.Rows L2 LamX
section
variable {P : Program} {w : World} {K : PySem.W.Frag} {mg : Str → Option Value} {base : Heap} {C N Ct Ce : Addr} {j k : Nat}
theorem cal_attemptK (B : Bi mg) (Z : ShlC K mg C) (I : ShlI K C) (D : At K mg "attempt" s_attempt ps_attempt) (h4 : 4 ≤ k) (M_trial : CalM P w K mg base 4 C "trial" ps_Shelf_trial (spTrial C N Ct)) (C_within : CalA P w K mg base j (k + 1) "within" ps_within (spWithin C Ct Ce)) : CalAK P w K mg base j (k + 2) "attempt" ps_attempt ["act", "shelf"] (spAttempt C N Ct Ce) := by
  refine D.calAK sc_attempt rfl (fun _ _ _ _ _ _ _ _ => by rfl) (fun f cdv A outer s0 H v g c' q R Q hr act off hc h => ?_)
  obtain ⟨s, S, rfl, hS, bz, k1⟩ := h
  obtain ⟨ds, n, a, b, c, e0, e1, e2, e3, e4⟩ := id hS.ex
  refine ⟨_, (pss_cons (ps_if (pt_not (pt_val (pe_callB (id := "isinstance") (r := rIsi K) call_isi (by rfl) B.isinstance (by decide +kernel) (pa_cons (pv 0) (pa_cons (pe_glob (v := .ref C) (by rfl) Z.g rfl) pa_nil))))) pss_never pss_nil)
      (pss_one (ps_ret (pe_hand C_within act off rfl hr (Nat.le_refl _) (by rfl) rfl (pa_cons (pe_mth0 M_trial Z.cl hr (Nat.le_trans h4 (Nat.le_succ _)) (pv 0)) (pa_cons (pv 1) pa_nil)))))), ?_⟩
  refine ⟨_, rfl, _, _, .ref C, _, true, rfl, I.ow, I.ty e0, I.kk, _, rfl, iteF ?_⟩
  refine ⟨_, rfl, s, ds, _, rfl, e0, rfl, s, S, rfl, hS, bz, fun t G1 nt s1 hT => ?_⟩
  refine ⟨_, rfl, _, rfl, s1 _ _ hc, t, s, ds, n, a, b, c, S.busy, .non, rfl, hT, s1 _ _ e0, fun e G ne kG hTG hEG => ?_⟩
  have s2 : Same H G := fun x o e5 => kG x o (s1 _ _ e5) fun z => (by rw [List.mem_singleton.mp z, nt] at e5; cases e5)
  exact k1 t e G a b c s2 nt hTG hEG (hS.same s2) (s2 _ _ e2) (e3.same s2) (e4.same s2)
/-- Shelf(namer=..) -/
theorem makk_shl (B : Bi mg) (S : ShlC K mg C) (D : ShInitAt K C) (C_check_namer : Cal P w K mg base 1 "check_namer" ps_check_namer (spCheckNamer N)) : MakK P w K mg base 2 "Shelf" C ["namer"] rev2 (spShInit C N) := by
  obtain ⟨f, fd, M, F, b⟩ := D.ex
  refine ⟨f, fd, ps_Shelf_init, rev2, M, ok_shinit B S F C_check_namer, S.g, ⟨fun s us ws I l1 l2 => ?_, fun r q => ?_⟩⟩
  · obtain ⟨oc, od, kV, doc, pm, an, cdv, ct, sl, e, lk, hcd⟩ := F.ex
    rw [e]
    match us, ws, l1, l2 with
    | [_], [_], _, _ => exact BindsTo.of_eq rfl
  · exact r.append (vals_rev2 q)
end
end Gu
namespace Gu
open PySem PySem.Spec PyProof.Rows L2
theorem cutS_all (b : Str) : cutS b none (some (b.length : Int)) = b := by
  have e : (cutS b none (some (b.length : Int))).cps.toList = b.cps.toList := by
    rw [cutS_head b (by omega), Int.toNat_natCast]
    exact List.take_length
  cases b
  exact congrArg Str.mk (Array.ext' e)
section
variable {P : Program} {w : World} {K : PySem.W.Frag} {mg : Str → Option Value} {base : Heap} {C N : Addr}
def spMade52 : Sp := fun vs H Q _ => ∃ (so t : Str) (w n : Int), vs = [.str (nbase w t), .int n, .str so, .int w] ∧ t.length ≤ 900 ∧ 0 ≤ n ∧ n < 40 ∧ Q (.str (if n = 1 then nbase w t else numbered so w t n)) H
theorem cal_made52 (B : Bi mg) (D : At K mg "_law_made" s_law_made ps_law_made) : Cal P w K mg base 1 "_law_made" ps_law_made spMade52 := by
  refine D.cal sc_law_made (fun vs H Q E h => ?_) (fun f cdv A outer s H vs Q E hr h => ?_)
  · obtain ⟨so, t, w, n, rfl, _⟩ := h
    rfl
  · obtain ⟨so, t, w, n, rfl, tl, n0, n1, k⟩ := h
    have el := ending_lenQ n0 n1
    have bl : (nbase w t).length ≤ 900 := Nat.le_trans (cutS_length t none (some w)) tl
    refine ⟨_, (pss_cons (ps_if (pt_cmpR op_eq (pv 1) pe_int (nomark _)) (pss_one (ps_ret (pv 0))) pss_nil)
      (pss_cons (ps_set (i := 4) sc_law_made.nd rfl (.inl rfl) (pe_op op_add_str pe_str (pe_callTy call_str_int (by rfl) B.str (by decide +kernel) (pa_cons (pv 1) pa_nil))))
      (pss_cons (ps_set (i := 5) sc_law_made.nd rfl (.inl rfl) (pe_mid (pe_ifExp (pt_cmpR op_eq (pv 2) pe_str (nomark _)) (pe_callB (call_max2 rfl) (by rfl) B.max (by decide +kernel) (pa_cons pe_int (pa_cons (pe_op op_sub (pe_op op_add (pe_callB call_len (by rfl) B.len (by decide +kernel) (pa_cons (pv 0) pa_nil)) (pe_callB call_len (by rfl) B.len (by decide +kernel) (pa_cons (pv 4) pa_nil))) (pv 3)) pa_nil))) pe_int)))
      (pss_one (ps_ret (pe_op op_add_str (pe_slice sl_str (pv 0) po_none (po_some (pe_op op_sub (pe_callB call_len (by rfl) B.len (by decide +kernel) (pa_cons (pv 0) pa_nil)) (pv 5)))) (pv 4))))))), ?_⟩
    refine ⟨_, rfl, rfl, _, rfl, ite2 (fun h1 => ?_) (fun h1 => ?_)⟩
    · have h1 : n = 1 := V.int.inj (of_decide_eq_true h1)
      rw [if_pos h1] at k
      exact ⟨_, rfl, k⟩
    · have h1 : n ≠ 1 := fun h => of_decide_eq_false (Bool.eq_false_iff.mpr h1) (by rw [h])
      rw [if_neg h1] at k
      refine ⟨_, rfl, _, rfl, log_small n0 (by omega), _, _, rfl, rfl, ?_, ?_⟩
      · have := (wd_digit2 n0 n1).len
        exact Nat.le_of_lt (small1000 (Nat.le_trans (Nat.add_le_add (Nat.le_refl _) this) (by decide)))
      rw [show (("~" : String) : Str) ++ ((toString n : String) : Str) = ending n from rfl]
      refine ⟨fun v G => v = .int (if so = ("tight" : String) then (if ((nbase w t).length : Int) + (ending n).length - w > 0 then ((nbase w t).length : Int) + (ending n).length - w else 0) else 0) ∧ G = H, ?_, ?_⟩
      · refine ⟨_, rfl, rfl, _, rfl, ite2 (fun h2 => ?_) (fun h2 => ?_)⟩
        · rw [str_eq_iff] at h2
          rw [if_pos (of_decide_eq_true h2)]
          refine ⟨_, rfl, _, _, rfl, ⟨Nat.le_of_lt (small1000 (by omega)), rfl⟩, _, rfl, _, _, rfl, ⟨Nat.le_of_lt (small1000 (by omega)), rfl⟩, _, _, rfl, rfl, _, rfl, _, _, rfl, rfl, _, _, rfl, rfl, rfl⟩
        · rw [str_eq_iff] at h2
          rw [if_neg (of_decide_eq_false (Bool.eq_false_iff.mpr h2))]
          exact ⟨rfl, rfl⟩
      · rintro _ _ ⟨rfl, rfl⟩
        refine ⟨_, rfl, _, rfl, _, _, rfl, ⟨Nat.le_of_lt (small1000 (by omega)), rfl⟩, _, rfl, _, _, rfl, rfl, _, rfl, _, rfl, Nat.le_of_lt (small1000 (by omega)), _, rfl, _, _, rfl, rfl, ?_, ?_⟩
        · have := cutS_length (nbase w t) none (some (((nbase w t).length : Int) - (if so = ("tight" : String) then (if ((nbase w t).length : Int) + (ending n).length - w > 0 then ((nbase w t).length : Int) + (ending n).length - w else 0) else 0)))
          exact Nat.le_of_lt (small1000 (Nat.le_trans (Nat.add_le_add this el) (by omega)))
        · refine cast (congrArg (fun y => Q (.str y) _) ?_) k
          unfold numbered
          by_cases h2 : so = ("tight" : String)
          · rw [if_pos h2, decide_eq_true h2, Bool.true_and]
            by_cases h3 : w < ((nbase w t).length : Int) + (ending n).length
            · rw [if_pos (decide_eq_true h3), if_pos (by omega), show ((nbase w t).length : Int) - (((nbase w t).length : Int) + (ending n).length - w) = w - (ending n).length by omega]
            · rw [if_neg (by rw [decide_eq_false h3]; exact Bool.false_ne_true), if_neg (by omega), Int.sub_zero, cutS_all]
          · rw [if_neg h2, decide_eq_false h2, Bool.false_and, if_neg Bool.false_ne_true, Int.sub_zero, cutS_all]

/-! the name that is due -/
def spDue52 (C N : Addr) : Sp := fun vs H Q _ => ∃ (s : Addr) (S : Sf) (t : Str), vs = [.ref s, .str S.so, .int S.w, .str t] ∧ ShelfAt C N H s S ∧ S.ok ∧ Wd 200 t ∧ ∀ G, Same H G → Q (.str (nameOf S.so S.w t S.ps)) G
theorem cal_due52 (B : Bi mg) (Z : ShlC K mg C) (D : At K mg "_law_due" s_law_due ps_law_due) (C_law_made : Cal P w K mg base 1 "_law_made" ps_law_made spMade52) : Cal P w K mg base 2 "_law_due" ps_law_due (spDue52 C N) := by
  refine D.cal sc_law_due (fun vs H Q E h => ?_) (fun f cdv A outer s0 H vs Q E hr h => ?_)
  · obtain ⟨s, S, t, rfl, _⟩ := h
    rfl
  · obtain ⟨s, S, t, rfl, hS, ok, wt, k⟩ := h
    obtain ⟨dx, n, a, b, c, e0, e1, e2, e3, e4⟩ := id hS.ex
    refine ⟨_, (pss_cons (ps_set (i := 4) sc_law_due.nd rfl (.inr rfl) (pe_slice sl_str (pv 3) po_none (po_some (pv 2))))
      (pss_cons (ps_if (pt_cmpR op_eq (pv 1) pe_str (nomark _)) (pss_one (ps_ret (pe_own C_law_made hr (by decide) (by rfl) (pa_cons (pv 4) (pa_cons (pe_op op_add pe_int (pe_callB call_len (by rfl) B.len (by decide +kernel) (pa_cons (pe_lc (own := [("_law_each", 7)]) (by rfl) sc_law_due.nd (pi_tup (pe_fld (pv 0) rfl)) (blkOk_by (own := [("_law_each", 7)]) (N := ["_law_mine", "_law_sort", "_law_size", "_law_text_here", "_law_base", "_law_number", "_law_found", "_law_each"]) (sc := defScope s_law_due) (by decide +kernel)) (fun _ _ _ _ _ => pg_name (i := 7) sc_law_due.nd rfl (.inl rfl)) (fun _ _ _ _ _ => (pts_one (pt_cmpR op_eq (pe_slice sl_str (pv 7) po_none (po_some (pv 2))) (pv 4) (nomark _)))) (fun _ _ _ _ _ => (pv 7))) pa_nil))) (pa_cons (pv 1) (pa_cons (pv 2) pa_nil))))))) pss_nil)
      (pss_cons (ps_for PassesOwn.never rfl (pi_range2 (by rfl) B.range (pa_cons pe_int (pa_cons pe_int pa_nil))) (pg_name (i := 5) sc_law_due.nd rfl (.inl rfl))
      (pss_cons (ps_set (i := 6) sc_law_due.nd rfl (.inl rfl) (pe_own C_law_made hr (by decide) (by rfl) (pa_cons (pv 4) (pa_cons (pv 5) (pa_cons (pv 1) (pa_cons (pv 2) pa_nil))))))
      (pss_one (ps_if (pt_cmpR op_notIn_seq (pv 6) (pe_fld (pv 0) rfl) (by rfl)) (pss_one (ps_ret (pv 6))) pss_nil))))
      (pss_one (ps_ret pe_non))))), ?_⟩
    have tl : t.length ≤ 200 := wt.len
    have pl := ok.ps.len
    have ul : (S.ps.map (·.1)).length = S.ps.length := List.length_map _
    have nl : (S.ps.map (·.2)).length = S.ps.length := List.length_map _
    have eN : nextOf S.so S.w t (S.ps.map fun q : Str × Str => q.1) (S.ps.map fun q : Str × Str => q.2) = nameOf S.so S.w t S.ps := nextOf_ps ..
    refine ⟨_, rfl, _, rfl, S.w, rfl, t, rfl, Nat.le_of_lt (small1000 (by omega)), ?_⟩
    rw [show cutS t none (some S.w) = nbase S.w t from rfl]
    refine ⟨_, rfl, rfl, _, rfl, ite2 (fun h1 => ?_) (fun h1 => ?_)⟩
    · rw [str_eq_iff] at h1
      have h1 := of_decide_eq_true h1
      have hl : SqT K H a ((S.ps.map (·.1)).map V.str) := .inl (.inl e2)
      refine ⟨_, rfl, _, rfl, s, C, dx, _, _, rfl, e0, Z.cl, Z.nT, sf_texts, a, rfl, ⟨_, hl⟩, fun M nM => lc_tup (K := K) (a := a) (xs := (S.ps.map (·.1)).map V.str) (fun i J => J M = some (.lst ((alike S.w t ((S.ps.map (·.1)).take i)).map V.str)) ∧ Same H J)
        ⟨upd_same, same_new nM⟩ (fun i J _ ⟨_, sJ⟩ => st_same sJ hl) ?_ ?_⟩
      · rintro i v J hi ⟨eM, sJ⟩
        obtain ⟨u, hu, rfl, mu⟩ := atP_strs hi
        obtain ⟨q, hq, rfl⟩ := List.mem_map.mp mu
        have ul : q.1.length ≤ 200 := (ok.ps.wd q hq).1.len
        refine ⟨rfl, _, rfl, _, rfl, S.w, rfl, q.1, rfl, Nat.le_of_lt (small1000 (by omega)), _, rfl, rfl, _, rfl, ?_⟩
        rw [show cutS q.1 none (some S.w) = nbase S.w q.1 from rfl, str_eq_iff]
        refine ite2 (fun hb => ?_) (fun hb => ?_)
        · refine ⟨_, rfl, _, eM, small1000 ?_, ?_, same_off sJ nM⟩
          · rw [List.length_map]
            refine Nat.le_trans (List.length_filter_le ..) ?_
            rw [List.length_take]
            omega
          · unfold alike
            rw [upd_same, take_next hu, List.filter_append, List.map_append, List.filter_cons, hb]
            rfl
        · refine ⟨?_, sJ⟩
          unfold alike at eM ⊢
          rw [eM, take_next hu, List.filter_append, List.filter_cons, Bool.eq_false_iff.mpr hb]
          simp only [Bool.false_eq_true, if_false, List.filter_nil, List.append_nil]
      · rintro J ⟨eM, sJ⟩
        rw [List.length_map, List.take_length] at eM
        have al : (alike S.w t (S.ps.map (·.1))).length ≤ 20 := by
          unfold alike
          refine Nat.le_trans (List.length_filter_le ..) ?_
          omega
        refine ⟨_, _, rfl, .inl ⟨_, .inl (.inl eM), rfl⟩, _, _, rfl, rfl, _, rfl, _, rfl, S.so, t, S.w, _, rfl, by omega, by rw [List.length_map]; omega, by rw [List.length_map]; omega, ?_⟩
        rw [List.length_map]
        refine cast (congrArg (fun y => Q (.str y) J) ?_) (k J sJ)
        rw [← eN]
        unfold nextOf countedOf
        rw [if_pos h1]
        by_cases z : (alike S.w t (S.ps.map (·.1))).length = 0
        · rw [if_pos z, if_pos (by omega)]
        · rw [if_neg z, if_neg (by omega), Int.add_comm]
    · rw [str_eq_iff] at h1
      have h1 : S.so ≠ ("count" : String) := of_decide_eq_false (Bool.eq_false_iff.mpr h1)
      refine ⟨1, 40, rfl, ⟨by decide, by decide, by decide, by decide⟩, ?_⟩
      refine for_range (lo := 1) (n := 39) (fun i σ J => ∃ u1 u2 : Option V, σ = [some (.ref s), some (.str S.so), some (.int S.w), some (.str t), some (.str (nbase S.w t)), u1, u2, none] ∧ J = H ∧ ∀ j, j < i → triedP S.so S.w t j ∈ S.ps.map (·.2)) ⟨none, none, rfl, rfl, fun j hj => absurd hj (Nat.not_lt_zero j)⟩ ?_ ?_
      · rintro i σ J hi ⟨u1, u2, rfl, rfl, hj⟩
        have hi2 := triedQ_free (by omega : (S.ps.map (·.2)).length ≤ 24) hj
        refine ⟨_, rfl, _, rfl, _, rfl, _, rfl, S.so, t, S.w, _, rfl, by omega, by omega, by omega, ?_⟩
        have et : (if (1 : Int) + (i : Int) = 1 then nbase S.w t else numbered S.so S.w t (1 + (i : Int))) = triedP S.so S.w t i := by
          cases i with
          | zero => rfl
          | succ i =>
            rw [if_neg (by omega), show (1 : Int) + ((i + 1 : Nat) : Int) = 2 + (i : Int) by omega]
            rfl
        rw [et]
        refine ⟨_, rfl, _, rfl, s, C, dx, _, _, rfl, e0, Z.cl, Z.nM, sf_names, b, _, rfl, .inr e3.sq, rfl, flat_strs (S.ps.map fun q : Str × Str => q.2), _, rfl, ?_⟩
        rw [if_pos rfl, show inV (.str (triedP S.so S.w t i)) (nms S.ps) = decide (triedP S.so S.w t i ∈ S.ps.map (·.2)) from in_strs _ _]
        by_cases hin : triedP S.so S.w t i ∈ S.ps.map (·.2)
        · rw [decide_eq_true hin]
          exact iteF ⟨_, _, rfl, rfl, fun j hj2 => if e : j = i then e ▸ hin else hj j (by omega)⟩
        · rw [decide_eq_false hin]
          refine iteT ⟨_, rfl, ?_⟩
          refine cast (congrArg (fun y => Q (.str y) J) ?_) (k J (Same.refl J))
          rw [← eN]
          unfold nextOf
          rw [if_neg h1, triedQ_is (by omega : (S.ps.map (·.2)).length ≤ 24) hj hin]
      · rintro σ J ⟨u1, u2, rfl, rfl, hj⟩
        exact absurd (triedQ_free (by omega : (S.ps.map (·.2)).length ≤ 24) hj) (by omega)
end
end Gu
namespace Gu
open PySem PySem.Spec PyProof PyProof.Rows L2
/-! ### names that are fresh and short -/
theorem cutS_shortQ {y : Str} {h : Int} (h0 : 0 ≤ h) : ((cutS y none (some h)).length : Int) ≤ h := by
  show ((cutS y none (some h)).cps.toList.length : Int) ≤ h
  rw [cutS_head y h0, List.length_take]
  omega
theorem app_len (a b : Str) : (a ++ b).length = a.length + b.length := by
  show (a ++ b).cps.toList.length = _
  rw [str_app, List.length_append]
  rfl
theorem tight_lenQ {so t : Str} {w n : Int} (hs : so = ("tight" : String)) (w0 : 6 ≤ w) (h0 : 0 ≤ n) (h1 : n < 40) : ((numbered so w t n).length : Int) ≤ w := by
  have el := ending_lenQ h0 h1
  unfold numbered
  rw [decide_eq_true hs, Bool.true_and]
  split
  · rw [app_len]
    have := cutS_shortQ (y := nbase w t) (h := w - (ending n).length) (by omega)
    omega
  · rename_i h
    rw [app_len]
    have := of_decide_eq_false (Bool.eq_false_iff.mpr h)
    omega
theorem freeP_at {so : Str} {w : Int} {t : Str} {ys : List Str} (l : ys.length ≤ 24) : ∃ i, i ≤ ys.length + 1 ∧ triedP so w t i ∉ ys ∧ freeP so w t ys = triedP so w t i := by
  have main : ∀ k i : Nat, i + k = ys.length + 2 → (∀ j, j < i → triedP so w t j ∈ ys) → ∃ i, i ≤ ys.length + 1 ∧ triedP so w t i ∉ ys ∧ freeP so w t ys = triedP so w t i := by
    intro k
    induction k with
    | zero =>
      intro i e a
      have := triedQ_free l a
      omega
    | succ k ih =>
      intro i e a
      by_cases h : triedP so w t i ∈ ys
      · exact ih (i + 1) (by omega) fun j hj => if z : j = i then z ▸ h else a j (by omega)
      · exact ⟨i, triedQ_free l a, h, triedQ_is l a h⟩
  exact main (ys.length + 2) 0 (by omega) fun j hj => absurd hj (by omega)
theorem nameOf_new {so : Str} {w : Int} {t : Str} {ps : Prs} (l : ps.length ≤ 20) (hs : so ≠ ("count" : String)) : nameOf so w t ps ∉ ps.map (·.2) := by
  obtain ⟨i, _, h, e⟩ := freeP_at (so := so) (w := w) (t := t) (ys := ps.map (·.2)) (by rw [List.length_map]; omega)
  rw [← nextOf_ps]
  unfold nextOf
  rw [if_neg hs, e]
  exact h
theorem nameOf_tight {so : Str} {w : Int} {t : Str} {ps : Prs} (l : ps.length ≤ 20) (w0 : 6 ≤ w) (hs : so = ("tight" : String)) : ((nameOf so w t ps).length : Int) ≤ w := by
  obtain ⟨i, hi, h, e⟩ := freeP_at (so := so) (w := w) (t := t) (ys := ps.map (·.2)) (by rw [List.length_map]; omega)
  rw [List.length_map] at hi
  rw [← nextOf_ps]
  unfold nextOf
  rw [if_neg (by rw [hs]; decide), e]
  cases i with
  | zero => exact cutS_shortQ (by omega)
  | succ i => exact tight_lenQ hs w0 (by omega) (by omega)
def Sf.nd (S : Sf) : Prop := S.so ≠ ("count" : String) → (S.ps.map (·.2)).Nodup
theorem Sf.come_nd {S : Sf} {t : Str} (ok : S.ok) (h : S.nd) : (S.come t).nd := fun hs => by
  show ((S.ps ++ [(t, nameOf S.so S.w t S.ps)]).map (·.2)).Nodup
  rw [List.map_append, List.nodup_append]
  refine ⟨h hs, by simp, fun a ha b hb e => ?_⟩
  rw [List.map_singleton, List.mem_singleton] at hb
  have hb : b = nameOf S.so S.w t S.ps := hb
  exact nameOf_new (t := t) (w := S.w) (so := S.so) ok.ps.len hs (by rw [← hb, ← e]; exact ha)
theorem Sf.go_nd {S : Sf} {j : Nat} (h : S.nd) : (S.go j).nd := fun hs => by
  show ((S.ps.take j ++ S.ps.drop (j + 1)).map (·.2)).Nodup
  refine List.Sublist.nodup (List.Sublist.map _ ?_) (h hs)
  calc (S.ps.take j ++ S.ps.drop (j + 1)).Sublist (S.ps.take j ++ S.ps.drop j) := List.Sublist.append (List.Sublist.refl _) (by rw [← List.drop_drop]; exact List.drop_sublist _ _)
    _ = S.ps := List.take_append_drop _ _
theorem nodup_subl : ∀ {α : Type} [DecidableEq α] {a b : List α}, a.Nodup → (∀ x ∈ a, x ∈ b) → a.length ≤ b.length
  | _, _, [], b, _, _ => Nat.zero_le _
  | _, _, x :: a, b, n, s => by
    have hx := s x (List.mem_cons_self ..)
    have n2 := List.nodup_cons.mp n
    have := nodup_subl (a := a) (b := b.erase x) n2.2 fun y hy => (List.mem_erase_of_ne (fun e : y = x => n2.1 (by rw [← e]; exact hy))).mpr (s y (List.mem_cons_of_mem _ hy))
    have e := List.length_erase_of_mem hx
    have p := List.length_pos_of_mem hx
    simp only [List.length_cons]
    omega
theorem dds_all {α : Type} [DecidableEq α] {ks : List α} (n : ks.Nodup) : (dds ks).length = ks.length :=
  Nat.le_antisymm (dds_len ks) (nodup_subl n fun x hx => (mem_dds ks).mpr hx)
theorem keys52 (zs : List Str) : (zs.map (Sum.inr : Str → Key)).map kV = zs.map V.str := by
  rw [List.map_map]
  rfl
theorem keysN52 {zs : List Str} (n : zs.Nodup) : (dds (zs.map (Sum.inr : Str → Key))).length = zs.length := by
  rw [dds_all (List.Pairwise.map _ (fun a b h e => h (Sum.inr.inj e)) n), List.length_map]
theorem shT52 {n : Nat} {ys : List Str} (h : ∀ y ∈ ys, Wd n y) : SeqAt.shaped (.tuple (ys.map PyData.str)) = true := shaped_of (ds := ys.map PyData.str) fun d hd => by
  obtain ⟨y, hy, rfl⟩ := List.mem_map.mp hd
  exact ⟨wd_lay (h y hy), Nat.zero_le _⟩
structure ShlN (P : Program) (w : World) (K : PySem.W.Frag) (mg : Str → Option Value) (base : Heap) (C N : Addr) : Prop where
  len : ∃ (f : Addr) (fd : FuncData), FnOk P w K mg base CX0 1 f fd ps_Shelf_len (spLenS C N) ∧ Binds K fd ps_Shelf_len [] ∧ PySem.W.findIn K (.ref C) "__len__" = some (some (.ref f)) ∧ PySem.W.isFn K (.ref f) = true
def E0S (so : Str) (w : Int) : Sf := ⟨so, w, [], [], false⟩
theorem same_via {H H1 G : Hp} {x : Addr} (nx : H x = none) (s : Same H H1) (k : Kp [x] H1 G) : Same H G := fun b o e => k b o (s b o e) fun z => by
  rw [List.mem_singleton.mp z, nx] at e
  cases e
theorem e0_ok {so : Str} {w : Int} (h : so ∈ sorts) (w0 : 6 ≤ w) (w1 : w ≤ 40) : (E0S so w).ok := ⟨h, w0, w1, ⟨Nat.zero_le _, fun q hq => by cases hq⟩, (fun ps hps => by cases hps), Nat.zero_le _⟩
section
variable {P : Program} {w : World} {K : PySem.W.Frag} {mg : Str → Option Value} {base : Heap} {C N : Addr}
/-! a text comes -/
def spCome52 (C N : Addr) : Sp := fun vs H Q _ => ∃ (s : Addr) (S : Sf) (t : Str), vs = [.ref s, .str S.so, .int S.w, .str t] ∧ ShelfAt C N H s S ∧ S.ok ∧ S.nd ∧ S.busy = false ∧ S.past.length < 500 ∧ Wd 200 t ∧ S.ps.length < 20 ∧ ∀ G, Kp [s] H G → ShelfAt C N G s (S.come t) → Q (.bl true) G
theorem cal_come52 (B : Bi mg) (Z : ShlC K mg C) (W : ShlN P w K mg base C N) (D : At K mg "_law_come" s_law_come ps_law_come) (C_law_due : Cal P w K mg base 2 "_law_due" ps_law_due (spDue52 C N)) (M_add : CalM P w K mg base 5 C "add" ps_Shelf_add (spAdd C N)) : Cal P w K mg base 6 "_law_come" ps_law_come (spCome52 C N) := by
  obtain ⟨fL, fdL, FL, bL, sL, iL⟩ := W.len
  refine D.cal sc_law_come (fun vs H Q E h => ?_) (fun f cdv A outer s0 H vs Q E hr h => ?_)
  · obtain ⟨s, S, t, rfl, _⟩ := h
    rfl
  · obtain ⟨s, S, t, rfl, hS, ok, nd, bz, few, wt, l20, k⟩ := h
    have hr1 := hr.mono (show 2 ≤ 5 by decide)
    refine ⟨_, (pss_cons (ps_par3 (i := 4) (j := 5) (l := 6) (by rfl) sc_law_come.nd rfl rfl rfl (by decide) (by decide) (by decide) rfl rfl rfl (pa_cons (pe_own C_law_due hr (by decide) (by rfl) (pa_cons (pv 0) (pa_cons (pv 1) (pa_cons (pv 2) (pa_cons (pv 3) pa_nil))))) (pa_cons (pe_fld (pv 0) rfl) (pa_cons (pe_fld (pv 0) rfl) pa_nil))) (by rfl))
      (pss_cons (ps_if (PW.pt (pw_or (pt_cmpR op_ne (pe_mth M_add Z.cl hr (by decide) (pv 0) (pa_cons (pv 3) pa_nil)) (pv 4) (nomark _)) (pw_or (pt_cmpR (op_neD hr.units) (pe_fld (pv 0) rfl) (pe_op op_catA (pv 5) (pe_tup (pa_cons (pv 3) pa_nil))) (nomark _)) (pw_or1 (pt_cmpR (op_neD hr.units) (pe_fld (pv 0) rfl) (pe_op op_catF (pv 6) (pe_tupF (pa_cons (pv 4) pa_nil))) (nomark _)))))) (pss_one (ps_ret pe_bl)) pss_nil)
      (pss_cons (ps_if (PW.pt (pw_and (pt_cmpR op_ne (pv 1) pe_str (nomark _)) (pw_and1 (pt_cmpR op_ne (pe_lenSetK (by rfl) B.len (by rfl) B.set (pe_callTy call_list_of (by rfl) B.list (by decide +kernel) (pa_cons (pe_fld (pv 0) rfl) pa_nil))) (pe_callB (call_lenOwn (C := C) FL bL hr1 sL iL) (by rfl) B.len (by decide +kernel) (pa_cons (pv 0) pa_nil)) (nomark _))))) (pss_one (ps_ret pe_bl)) pss_nil)
      (pss_one (ps_ret (pe_or (pe_cmpR op_ne (pv 1) pe_str (nomark _)) (pe_one (pe_cmpR op_le (pe_callB call_len_str (by rfl) B.len (by decide +kernel) (pa_cons (pv 4) pa_nil)) (pv 2) (nomark _))))))))), ?_⟩
    refine ⟨_, rfl, _, rfl, _, rfl, _, rfl, s, S, t, rfl, hS, ok, wt, fun G1 s1 => ?_⟩
    have hS1 := hS.same s1
    obtain ⟨dx, n, a, b, c, e0, e1, e2, e3, e4⟩ := id hS1.ex
    refine ⟨_, rfl, s, C, dx, _, _, rfl, e0, Z.cl, Z.nT, sf_texts, _, rfl, s, C, dx, _, _, rfl, e0, Z.cl, Z.nM, sf_names, _, _, _, rfl, ?_⟩
    refine ⟨_, rfl, s, dx, _, rfl, e0, rfl, _, rfl, s, t, S, rfl, hS1, ok, bz, wt, l20, fun G2 k2 h2 => ?_⟩
    obtain ⟨dx2, n2, a2, b2, c2, f0, f1, f2, f3, f4⟩ := id h2.ex
    refine ⟨_, rfl, rfl, _, rfl, ?_⟩
    rw [show (!decide (V.str (nameOf S.so S.w t S.ps) = V.str (nameOf S.so S.w t S.ps))) = false by simp]
    have gs : G1 a = some (.tup (txts S.ps)) := e2
    have as : a ≠ s := fun z => by rw [z, e0] at e2; cases e2
    have bs : b ≠ s := fun z => by
      obtain ⟨o, eo, _⟩ := e3
      rw [z, e0] at eo
      cases eo
    have e2' := k2 _ _ e2 (off1 as)
    have e3' : FT G2 b (nms S.ps) := by
      obtain ⟨o, eo, h1, h2⟩ := e3
      exact ⟨o, k2 _ _ eo (off1 bs), h1, h2⟩
    refine ⟨_, rfl, s, C, dx2, _, _, rfl, f0, Z.cl, Z.nT, sf_texts, _, rfl, _, rfl, by show 1 ≤ sizeLine; decide, fun q nq => ?_⟩
    generalize hG : upd G2 q _ = G3
    have s3 : Same G2 G3 := hG ▸ same_new nq
    have eq : G3 q = some (.tup [.str t]) := by rw [← hG]; exact upd_same
    clear hG
    refine catU (s3 _ _ e2') eq (by rw [txts_len, List.length_singleton, sizeLine_eq]; omega) fun U G4 s4 eU => ?_
    rw [txts_cat S.ps t (nameOf S.so S.w t S.ps)] at eU
    have ok2 : PrsOk (S.come t).ps := by
      refine ⟨?_, fun q hq => ?_⟩
      · show (S.ps ++ [_]).length ≤ 20
        rw [List.length_append, List.length_singleton]
        omega
      · rcases List.mem_append.mp hq with hq | hq
        · exact ok.ps.wd q hq
        · rw [List.mem_singleton.mp hq]
          exact ⟨wt, wd_nameQ wt (by omega)⟩
    have wx : ∀ y ∈ (S.come t).ps.map (·.1), Wd 200 y := fun y hy => by
      obtain ⟨q, hq, rfl⟩ := List.mem_map.mp hy
      exact (ok2.wd q hq).1
    have wn : ∀ y ∈ (S.come t).ps.map (·.2), Wd 203 y := fun y hy => by
      obtain ⟨q, hq, rfl⟩ := List.mem_map.mp hy
      exact (ok2.wd q hq).2
    have s34 := s3.trans s4
    refine ⟨.tuple (((S.come t).ps.map (·.1)).map PyData.str), .tuple (((S.come t).ps.map (·.1)).map PyData.str), .tup (.inl (.inl (s34 _ _ f2))) (dp_strs _), .tup (.inl (.inl eU)) (dp_strs _), shT52 wx, shT52 wx, _, rfl, ?_⟩
    rw [SeqAt.eqv_refl _ (SeqAt.canLay_of_shaped (shT52 wx))]
    refine ⟨_, rfl, s, C, dx2, _, _, rfl, s34 _ _ f0, Z.cl, Z.nM, sf_names, _, rfl, _, rfl, by show 1 ≤ sizeLine; decide, fun u G5 s5 eu nu => ?_⟩
    refine ⟨b, u, _, _, rfl, rfl, (e3'.same s34).same s5, eu, (by rw [nms_len, List.length_singleton, sizeLine_eq]; omega), fun W2 G6 s6 eW => ?_⟩
    rw [nms_cat S.ps t (nameOf S.so S.w t S.ps)] at eW
    have s36 := s34.trans (s5.trans s6)
    have f3' := f3.same s36
    refine ⟨.tuple (((S.come t).ps.map (·.2)).map PyData.str), .tuple (((S.come t).ps.map (·.2)).map PyData.str), .tup f3'.sq (dp_strs _), .tup eW.sq (dp_strs _), shT52 wn, shT52 wn, _, rfl, ?_⟩
    rw [SeqAt.eqv_refl _ (SeqAt.canLay_of_shaped (shT52 wn))]
    refine iteF ?_
    have cl : (S.come t).ps.length ≤ 20 := ok2.len
    have kk : ∀ G7, Same G6 G7 → Q (.bl true) G7 := fun G7 s7 => k G7 ((Kp.same s1).trans (k2.trans (Kp.same (s36.trans s7)))) ((h2.same s36).same s7)
    have okC := Sf.come_ok ok l20 wt few
    have ndC := Sf.come_nd (t := t) ok nd
    refine ⟨_, rfl, rfl, _, rfl, ite2 (fun h1 => ?_) (fun h1 => ?_)⟩
    · rw [str_eq_iff] at h1
      have hs : S.so ≠ ("count" : String) := fun z => by
        rw [decide_eq_true z] at h1
        cases h1
      refine ⟨_, rfl, s, C, dx2, _, _, rfl, s36 _ _ f0, Z.cl, Z.nM, sf_names, b2, _, rfl, .inr f3'.sq, fun L nL => ?_⟩
      have s7 : Same G6 (upd G6 L (.lst (nms (S.come t).ps))) := same_new nL
      have eL : upd G6 L (.lst (nms (S.come t).ps)) L = some (.lst (nms (S.come t).ps)) := upd_same
      generalize upd G6 L (.lst (nms (S.come t).ps)) = G7 at s7 eL
      have ek : nms (S.come t).ps = (((S.come t).ps.map (fun q : Str × Str => q.2)).map (Sum.inr : Str → Key)).map kV := (keys52 _).symm
      rw [ek] at eL
      refine ⟨L, _, rfl, .inl (.inl (.inl eL)), by rw [List.length_map, List.length_map]; omega, ?_⟩
      have lz : (0 : Int) ≤ (((S.come t).ps.length : Nat) : Int) ∧ (((S.come t).ps.length : Nat) : Int) < 2 ^ 63 := ⟨by omega, by omega⟩
      refine ⟨_, rfl, s, dx2, _, rfl, s7 _ _ (s36 _ _ f0), s, S.come t, rfl, (h2.same s36).same s7, okC, _, rfl, lz, rfl, _, rfl, ?_⟩
      rw [keysN52 (ndC hs), List.length_map]
      refine iteNS rfl ?_
      refine ⟨_, rfl, rfl, _, rfl, ite2 (fun _ => kk G7 s7) (fun h2 => ?_)⟩
      rw [str_eq_iff] at h2
      have ht : S.so = ("tight" : String) := Classical.byContradiction fun z => h2 (by rw [decide_eq_false z]; rfl)
      have nl : (nameOf S.so S.w t S.ps).length ≤ 203 := (wd_nameQ wt (by omega)).len
      refine ⟨_, rfl, _, rfl, Nat.le_of_lt (small1000 (by omega)), _, rfl, _, _, rfl, rfl, ?_⟩
      show Q (.bl (decide (((nameOf S.so S.w t S.ps).length : Int) ≤ S.w))) G7
      rw [decide_eq_true (nameOf_tight ok.ps.len ok.w0 ht)]
      exact kk G7 s7
    · rw [str_eq_iff] at h1
      have hs : S.so = ("count" : String) := Classical.byContradiction fun z => h1 (by rw [decide_eq_false z]; rfl)
      refine ⟨_, rfl, rfl, _, rfl, ite2 (fun _ => kk G6 (Same.refl G6)) (fun h2 => ?_)⟩
      rw [str_eq_iff, hs] at h2
      exact absurd rfl h2
/-! a text goes -/
def spGone52 (C N : Addr) : Sp := fun vs H Q _ => ∃ (s : Addr) (S : Sf) (i : Nat) (y : Str), vs = [.ref s, .int (i : Nat)] ∧ ShelfAt C N H s S ∧ S.ok ∧ S.busy = false ∧ S.past.length < 500 ∧ (S.ps.map (·.2))[i]? = some y ∧ ∀ G j, j < S.ps.length → Kp [s] H G → ShelfAt C N G s (S.go j) → Q (.bl true) G
theorem cal_gone52 (B : Bi mg) (Z : ShlC K mg C) (D : At K mg "_law_gone" s_law_gone ps_law_gone) (M_remove : CalM P w K mg base 3 C "remove" ps_Shelf_remove (spRemove C N)) : Cal P w K mg base 4 "_law_gone" ps_law_gone (spGone52 C N) := by
  refine D.cal sc_law_gone (fun vs H Q E h => ?_) (fun f cdv A outer s0 H vs Q E hr h => ?_)
  · obtain ⟨s, S, i, y, rfl, _⟩ := h
    rfl
  · obtain ⟨s, S, i, y, rfl, hS, ok, bz, few, hi, k⟩ := h
    obtain ⟨dx, n, a, b, c, e0, e1, e2, e3, e4⟩ := id hS.ex
    obtain ⟨j, t, hj, first⟩ := first_of_name hi
    have jl : j < S.ps.length := (List.getElem?_eq_some_iff.mp hj).1
    have pl := ok.ps.len
    have yin : (S.ps.map (·.2))[j]? = some y := by rw [List.getElem?_map, hj]; rfl
    have iy : atI (nms S.ps) (i : Int) = some (V.str y) := atI_nat (j := i) (by unfold nms; rw [List.getElem?_map, hi]; rfl)
    refine ⟨_, (pss_cons (ps_par (i := 2) (j := 3) (by rfl) sc_law_gone.nd rfl rfl (by decide) rfl rfl (pa_cons (pe_fld (pv 0) rfl) (pa_cons (pe_fld (pv 0) rfl) pa_nil)) (by rfl))
      (pss_cons (ps_set (i := 4) sc_law_gone.nd rfl (.inl rfl) (pe_bmF PySem.F.plainAttrs_tuple PySem.F.slot_tuple_index PySem.F.type_tuple_index L2.mt_tup_index (pv 3) (pa_cons (pe_ix (r := rIxT K) ix_tup (pv 3) (pv 1) (fun _ _ => rfl)) pa_nil)))
      (pss_cons (ps_if (pt_cmpR op_ne (pe_mth M_remove Z.cl hr (by decide) (pv 0) (pa_cons (pe_ix (r := rIxT K) ix_tup (pv 3) (pv 1) (fun _ _ => rfl)) pa_nil)) (pe_ix (r := rIxT K) ix_tup (pv 2) (pv 4) (fun _ _ => rfl)) (nomark _)) (pss_one (ps_ret pe_bl)) pss_nil)
      (pss_cons (ps_if (pt_cmpR (op_neD hr.units) (pe_fld (pv 0) rfl) (pe_op op_catA (pe_slice sl_tupA (pv 2) po_none (po_some (pv 4))) (pe_slice sl_tupA (pv 2) (po_some (pe_op op_add (pv 4) pe_int)) po_none)) (nomark _)) (pss_one (ps_ret pe_bl)) pss_nil)
      (pss_one (ps_ret (pe_cmpR (op_eqD hr.units) (pe_fld (pv 0) rfl) (pe_op op_catF (pe_slice sl_tupF (pv 3) po_none (po_some (pv 4))) (pe_slice sl_tupF (pv 3) (po_some (pe_op op_add (pv 4) pe_int)) po_none)) (nomark _)))))))), ?_⟩
    refine ⟨_, rfl, s, C, dx, _, _, rfl, e0, Z.cl, Z.nT, sf_texts, _, rfl, s, C, dx, _, _, rfl, e0, Z.cl, Z.nM, sf_names, _, _, rfl, ?_⟩
    refine ⟨_, rfl, ⟨b, _, rfl, e3⟩, _, rfl, _, rfl, b, _, _, .str y, rfl, rfl, e3.sq, iy, b, S.ps.map (fun q : Str × Str => q.2), y, j, rfl, rfl, e3.sq, yin, first, ?_⟩
    refine ⟨_, rfl, s, dx, _, rfl, e0, rfl, _, rfl, _, rfl, b, _, _, .str y, rfl, rfl, e3.sq, iy, s, y, t, S, j, rfl, hS, ok, bz, hj, first, fun G2 k2 h2 => ?_⟩
    have as : a ≠ s := fun z => by rw [z, e0] at e2; cases e2
    have bs : b ≠ s := fun z => by
      obtain ⟨o, eo, _⟩ := e3
      rw [z, e0] at eo
      cases eo
    have e2' := k2 _ _ e2 (off1 as)
    have e3' : FT G2 b (nms S.ps) := by
      obtain ⟨o, eo, h1, h2⟩ := e3
      exact ⟨o, k2 _ _ eo (off1 bs), h1, h2⟩
    obtain ⟨dx2, n2, a2, b2, c2, f0, f1, f2, f3, f4⟩ := id h2.ex
    refine ⟨_, rfl, _, rfl, a, _, _, .str t, rfl, rfl, .inl (.inl e2'), atI_nat (j := j) (by unfold txts; rw [List.getElem?_map, List.getElem?_map, hj]; rfl), rfl, _, rfl, iteNS rfl ?_⟩
    have ok2 : PrsOk (S.go j).ps := (Sf.go_ok ok jl few).ps
    have wx : ∀ y ∈ (S.go j).ps.map (·.1), Wd 200 y := fun y hy => by
      obtain ⟨q, hq, rfl⟩ := List.mem_map.mp hy
      exact (ok2.wd q hq).1
    have wn : ∀ y ∈ (S.go j).ps.map (·.2), Wd 203 y := fun y hy => by
      obtain ⟨q, hq, rfl⟩ := List.mem_map.mp hy
      exact (ok2.wd q hq).2
    refine ⟨_, rfl, s, C, dx2, _, _, rfl, f0, Z.cl, Z.nT, sf_texts, _, rfl, _, rfl, _, rfl, sl_okU e2' fun U1 G3 s3 g1 => ?_⟩
    rw [cutV_hd] at g1
    refine ⟨_, rfl, _, rfl, _, _, rfl, rfl, _, rfl, noPartS (sl_okU (s3 _ _ e2') fun U2 G4 s4 g2 => ?_)⟩
    have g2 : G4 U2 = some (.tup (cutV (txts S.ps) (some ((j + 1 : Nat) : Int)) none)) := g2
    rw [cutV_bk] at g2
    refine catU (s4 _ _ g1) g2 ?_ fun U3 G5 s5 g3 => ?_
    · rw [List.length_take, List.length_drop, txts_len, sizeLine_eq]
      omega
    rw [txts_go] at g3
    have s35 := s3.trans (s4.trans s5)
    refine ⟨.tuple (((S.go j).ps.map (·.1)).map PyData.str), .tuple (((S.go j).ps.map (·.1)).map PyData.str), .tup (.inl (.inl (s35 _ _ f2))) (dp_strs _), .tup (.inl (.inl g3)) (dp_strs _), shT52 wx, shT52 wx, _, rfl, ?_⟩
    rw [SeqAt.eqv_refl _ (SeqAt.canLay_of_shaped (shT52 wx))]
    refine iteF ⟨_, rfl, s, C, dx2, _, _, rfl, s35 _ _ f0, Z.cl, Z.nM, sf_names, _, rfl, _, rfl, _, rfl, b, _, rfl, e3'.same s35, fun W1 G6 s6 q1 => ?_⟩
    rw [cutV_hd] at q1
    refine ⟨_, rfl, _, rfl, _, _, rfl, rfl, _, rfl, noPartS ⟨b, _, rfl, (e3'.same s35).same s6, fun W2 G7 s7 q2 => ?_⟩⟩
    have q2 : FT G7 W2 (cutV (nms S.ps) (some ((j + 1 : Nat) : Int)) none) := q2
    rw [cutV_bk] at q2
    refine ⟨W1, W2, _, _, rfl, rfl, q1.same s7, q2, ?_, fun W3 G8 s8 q3 => ?_⟩
    · rw [List.length_take, List.length_drop, nms_len, sizeLine_eq]
      omega
    rw [nms_go] at q3
    have s38 := s35.trans (s6.trans (s7.trans s8))
    refine ⟨.tuple (((S.go j).ps.map (·.2)).map PyData.str), .tuple (((S.go j).ps.map (·.2)).map PyData.str), .tup (f3.same s38).sq (dp_strs _), .tup q3.sq (dp_strs _), shT52 wn, shT52 wn, ?_⟩
    rw [SeqAt.eqv_refl _ (SeqAt.canLay_of_shaped (shT52 wn))]
    exact k G8 j jl (k2.trans (Kp.same s38)) (h2.same s38)
end
end Gu
namespace Gu
open PySem PySem.Spec PyProof.Rows L2 LamX
/-! ### what draws leave: the law's pairs, shelves, tables -/
def tMidT (t : TT) : TT := fun σ H Q => ∃ M : Bool → Hp → Prop, t σ H M ∧ ∀ b G, M b G → Q b G
theorem pt_mid {X : Cx} {e : Expr} {t : TT} (d : PT X e t) : PT X e (tMidT t) := ⟨fun pins s σ H Q I ⟨M, m, k⟩ => thn (d.run pins s σ H M I m) fun c s1 ⟨H1, I1, q1⟩ => ⟨H1, I1, k _ _ q1⟩⟩
section
variable {K : PySem.W.Frag} {C N p s : Addr} {l : List Addr} {H G J : Hp} {S : Sf} {T : List (Addr × Str)}
theorem shelf_pot8 (h : ShelfAt C N J s S) (hp : Pot J p) : s ≠ p := fun z => by
  obtain ⟨x, y, d, f⟩ := hp
  obtain ⟨_, _, _, _, _, e, _⟩ := h.ex
  rw [z, f] at e
  cases e
theorem ShelfAt.lad8 (L : Ladled p J G) (hp : Pot J p) (h : ShelfAt C N J s S) : ShelfAt C N G s S := h.kp (fun b hb => .inl (by rw [List.mem_singleton.mp hb]; exact hp)) (Kp.lad L) (off1 (shelf_pot8 h hp))
theorem LW.lad (a : LW T l H G) (hp : Pot G p) (L : Ladled p G J) (m : p ∈ l) : LW T l H J :=
  ⟨a.kp.trans ((KpN.kp (Kp.lad L)).mono fun b hb => by rw [List.mem_singleton.mp hb]; exact m), tabs_kp (C := 0) (N := 0) (fun b hb => .inl (by rw [List.mem_singleton.mp hb]; exact hp)) (Kp.lad L) a.tabs, a.sys.kpN (C := 0) (N := 0) (l := [p]) (fun b hb => .inl (by rw [List.mem_singleton.mp hb]; exact hp)) (KpN.kp (Kp.lad L))⟩
theorem pot_kpN (hp : Pot J p) (k : KpN l J G) (n : p ∉ l) : Pot G p := by
  obtain ⟨a, b, d, f⟩ := hp
  exact ⟨a, b, d, k _ _ f n fun _ z => by cases z⟩
theorem pot_ext (hp : Pot J p) (k : ExtN J G) : Pot G p := by
  obtain ⟨a, b, d, f⟩ := hp
  exact ⟨a, b, d, k _ _ f fun _ z => by cases z⟩
end
end Gu
namespace Gu
open PySem PySem.Spec PyProof PyProof.Rows L2 LamX
/-! ### a step of k52 -/
structure Ok52 (S : Sf) (k : Nat) : Prop where
  ok : S.ok
  nd : S.nd
  bz : S.busy = false
  past : S.past.length ≤ k
  few : S.ps.length ≤ k
theorem Ok52.mono {S : Sf} {j k : Nat} (h : Ok52 S j) (l : j ≤ k) : Ok52 S k := ⟨h.ok, h.nd, h.bz, Nat.le_trans h.past l, Nat.le_trans h.few l⟩
theorem Ok52.come {S : Sf} {k : Nat} {t : Str} (h : Ok52 S k) (l : k < 20) (wt : Wd 200 t) : Ok52 (S.come t) (k + 1) := by
  have a := h.few
  have b := h.past
  refine ⟨Sf.come_ok h.ok (by omega) wt (by omega), Sf.come_nd h.ok h.nd, h.bz, ?_, ?_⟩
  · show (S.past ++ [_]).length ≤ _
    rw [List.length_append, List.length_singleton]
    omega
  · show (S.ps ++ [_]).length ≤ _
    rw [List.length_append, List.length_singleton]
    omega
theorem Ok52.go {S : Sf} {k j : Nat} (h : Ok52 S k) (l : k < 20) (hj : j < S.ps.length) : Ok52 (S.go j) (k + 1) := by
  have a := h.few
  have b := h.past
  refine ⟨Sf.go_ok h.ok hj (by omega), Sf.go_nd h.nd, h.bz, ?_, ?_⟩
  · show (S.past ++ [_]).length ≤ _
    rw [List.length_append, List.length_singleton]
    omega
  · have := go_len hj
    show (S.ps.take j ++ S.ps.drop (j + 1)).length ≤ _
    omega
theorem kp2 {p s : Addr} {H G : Hp} (k : Kp [s] H G) : Kp [p, s] H G := k.mono fun b hb => List.mem_cons_of_mem _ hb
theorem kp1 {p s : Addr} {H G : Hp} (k : Kp [p] H G) : Kp [p, s] H G := k.mono fun b hb => by rw [List.mem_singleton.mp hb]; exact List.mem_cons_self ..
theorem canT52 {n : Nat} {ys : List Str} (h : ∀ y ∈ ys, Wd n y) : (PyData.tuple (ys.map PyData.str)).canLay0 = true ∧ (PyData.tuple (ys.map PyData.str)).depth ≤ 10 := by
  have a : PyData.canLayAll0 (ys.map PyData.str) = true ∧ PyData.depthAll (ys.map PyData.str) = 0 := by
    induction ys with
    | nil => exact ⟨rfl, rfl⟩
    | cons y ys ih =>
      obtain ⟨i1, i2⟩ := ih fun z hz => h z (List.mem_cons_of_mem _ hz)
      refine ⟨?_, ?_⟩
      · show ((PyData.str y).canLay0 && _) = true
        rw [wd_lay (h y (List.mem_cons_self ..)), i1]
        rfl
      · show max 0 _ = 0
        rw [i2]
        rfl
  refine ⟨a.1, ?_⟩
  show PyData.depthAll _ + 1 ≤ 10
  rw [a.2]
  decide
def two52 (ps : Prs) : PyData := .list [.tuple ((ps.map (·.1)).map PyData.str), .tuple ((ps.map (·.2)).map PyData.str)]
theorem shTwo52 {ps : Prs} (h : PrsOk ps) : SeqAt.shaped (two52 ps) = true := shaped_of fun d hd => by
  simp only [List.mem_cons, List.not_mem_nil, or_false] at hd
  rcases hd with rfl | rfl
  · exact canT52 (n := 200) fun y hy => by
      obtain ⟨q, hq, rfl⟩ := List.mem_map.mp hy
      exact (h.wd q hq).1
  · exact canT52 (n := 203) fun y hy => by
      obtain ⟨q, hq, rfl⟩ := List.mem_map.mp hy
      exact (h.wd q hq).2
theorem dpTwo52 {K : PySem.W.Frag} {H : Hp} {q a b : Addr} {ps : Prs} (e : H q = some (.lst [.ref a, .ref b])) (ha : H a = some (.tup (txts ps))) (hb : FT H b (nms ps)) : Dp K H (.ref q) (two52 ps) :=
  .lst (.inl (.inl e)) (.cons (.tup (.inl (.inl ha)) (dp_strs _)) (.cons (.tup hb.sq (dp_strs _)) .nil))
section
variable {P : Program} {w : World} {K : PySem.W.Frag} {mg : Str → Option Value} {base : Heap} {C N : Addr}
def spStep52 (C N : Addr) : Sp := fun vs H Q _ => ∃ (p s st : Addr) (S : Sf) (k : Nat) (y1 y2 : Str), vs = [.ref p, .ref s, .str S.so, .int S.w, .ref st] ∧ ShelfAt C N H s S ∧ Ok52 S k ∧ k < 19 ∧ Pot H p ∧ H st = some (.lst ([y1, y2].map V.str)) ∧ (∀ y ∈ [y1, y2], 0 < y.cps.toList.length ∧ Wd 12 y) ∧
  ∀ G S2, Kp [p, s] H G → Pot G p → ShelfAt C N G s S2 → Ok52 S2 (k + 1) → S2.so = S.so → S2.w = S.w → Q (.bl true) G
theorem cal_step52 (B : Bi mg) (Z : ShlC K mg C) (W : ShlN P w K mg base C N) (D : At K mg "_law_step" s_law_step ps_law_step) (C_law_draw : Cal P w K mg base 1 "_law_draw" ps_law_draw spLadle) (C_law_word : Cal P w K mg base 3 "_law_word" ps_law_word (spWord K)) (C_law_come : Cal P w K mg base 6 "_law_come" ps_law_come (spCome52 C N)) (C_law_gone : Cal P w K mg base 4 "_law_gone" ps_law_gone (spGone52 C N)) (M_undo : CalM P w K mg base 2 C "undo" ps_Shelf_undo (spUndo C N)) : Cal P w K mg base 7 "_law_step" ps_law_step (spStep52 C N) := by
  obtain ⟨fL, fdL, FL, bL, sL, iL⟩ := W.len
  refine D.cal sc_law_step (fun vs H Q E h => ?_) (fun f cdv A outer s0 H vs Q E hr h => ?_)
  · obtain ⟨p, s, st, S, k, y1, y2, rfl, _⟩ := h
    rfl
  · obtain ⟨p, s, st, S, k, y1, y2, rfl, hS, ok, k19, hp, hst, yl, q⟩ := h
    have hr1 := hr.mono (show 2 ≤ 6 by decide)
    refine ⟨_, (pss_cons (ps_par3 (i := 5) (j := 6) (l := 7) (by rfl) sc_law_step.nd rfl rfl rfl (by decide) (by decide) (by decide) rfl rfl rfl (pa_cons (pe_own C_law_draw hr (by decide) (by rfl) (pa_cons (pv 0) (pa_cons pe_int pa_nil))) (pa_cons (pe_own C_law_word hr (by decide) (by rfl) (pa_cons (pv 0) (pa_cons (pv 4) pa_nil))) (pa_cons (pe_own C_law_draw hr (by decide) (by rfl) (pa_cons (pv 0) (pa_cons pe_int pa_nil))) pa_nil))) (by rfl))
      (pss_cons (ps_if (pt_mid (PW.pt (pw_and (pt_cmpR op_eq (pv 5) pe_int (nomark _)) (pw_and1 (pt_cmpR op_gt (pe_callB (call_lenOwn (C := C) FL bL hr1 sL iL) (by rfl) B.len (by decide +kernel) (pa_cons (pv 1) pa_nil)) pe_int (nomark _)))))) (pss_one (ps_ret (pe_own C_law_gone hr (by decide) (by rfl) (pa_cons (pv 1) (pa_cons (pe_op op_mod (pe_callTy call_int1 (by rfl) B.int (by decide +kernel) (pa_cons (pv 7) pa_nil)) (pe_callB (call_lenOwn (C := C) FL bL hr1 sL iL) (by rfl) B.len (by decide +kernel) (pa_cons (pv 1) pa_nil))) pa_nil))))) pss_nil)
      (pss_cons (ps_if (pt_mid (PW.pt (pw_and (pt_cmpR op_eq (pv 5) pe_int (nomark _)) (pw_and1 (pt_cmpR op_gt (pe_callB (call_lenOwn (C := C) FL bL hr1 sL iL) (by rfl) B.len (by decide +kernel) (pa_cons (pv 1) pa_nil)) pe_int (nomark _)))))) (pss_cons (ps_set (i := 8) sc_law_step.nd rfl (.inl rfl) (pe_lst (pa_cons (pe_fld (pv 1) rfl) (pa_cons (pe_fld (pv 1) rfl) pa_nil))))
      (pss_one (ps_if (PW.pt (pw_or (pt_not (pt_val (pe_own C_law_come hr (by decide) (by rfl) (pa_cons (pv 1) (pa_cons (pv 2) (pa_cons (pv 3) (pa_cons (pv 6) pa_nil))))))) (pw_or (pt_cmpR op_notN (pe_mth0 M_undo Z.cl hr (by decide) (pv 1)) pe_non (nomark _)) (pw_or1 (pt_cmpR (op_neD hr.units) (pe_lst (pa_cons (pe_fld (pv 1) rfl) (pa_cons (pe_fld (pv 1) rfl) pa_nil))) (pv 8) (nomark _)))))) (pss_one (ps_ret pe_bl)) pss_nil))) pss_nil)
      (pss_one (ps_ret (pe_own C_law_come hr (by decide) (by rfl) (pa_cons (pv 1) (pa_cons (pv 2) (pa_cons (pv 3) (pa_cons (pv 6) pa_nil)))))))))), ?_⟩
    have stp : st ≠ p := fun z => by
      obtain ⟨a, b, d, f⟩ := hp
      rw [← z, hst] at f
      cases f
    have few := ok.few
    have past := ok.past
    refine ⟨_, rfl, p, 6, rfl, hp, by decide, by decide, fun way G1 e0 e1 L1 => ?_⟩
    refine ⟨_, rfl, _, rfl, p, st, [y1, y2], rfl, L1.pot, .inl (.inl (L1.keep _ _ hst stp)), stp, Nat.succ_pos _, (by show 2 < 1000; decide), yl, fun t G2 L2 wt => ?_⟩
    refine ⟨_, rfl, p, 20, rfl, (L1.trans L2).pot, by decide, by decide, fun spot G3 f0 f1 L3 => ?_⟩
    have M3 := (L1.trans L2).trans L3
    have hS3 := hS.lad8 M3 hp
    have k3 : Kp [p, s] H G3 := kp1 (Kp.lad M3)
    obtain ⟨dx, n, a, b, c, e0, e1, e2, e3, e4⟩ := id hS3.ex
    have hp3 := M3.pot
    have ps3 := (shelf_pot8 hS3 hp3).symm
    have lz : (0 : Int) ≤ ((S.ps.length : Nat) : Int) ∧ ((S.ps.length : Nat) : Int) < 2 ^ 63 := ⟨by omega, by omega⟩
    refine ⟨_, _, _, rfl, ?_⟩
    refine ⟨fun z J => (z = true → 0 < S.ps.length) ∧ G3 = J, ⟨_, rfl, rfl, _, rfl, ite2 (fun _ => ?_) (fun _ => ⟨(fun z => by cases z), rfl⟩)⟩, ?_⟩
    · refine ⟨_, rfl, s, dx, _, rfl, e0, s, S, rfl, hS3, ok.ok, _, rfl, lz, _, _, rfl, rfl, _, rfl, fun z => ?_, rfl⟩
      have := of_decide_eq_true z
      omega
    rintro z0 _ ⟨hl, rfl⟩
    refine ite2 (fun h1 => ?_) (fun _ => ?_)
    · have hl := hl h1
      obtain ⟨i, hi, il⟩ : ∃ i : Nat, spot % ((S.ps.length : Nat) : Int) = (i : Int) ∧ i < S.ps.length := by
        have a1 := Int.emod_nonneg spot (b := ((S.ps.length : Nat) : Int)) (by omega)
        have a2 := Int.emod_lt_of_pos spot (b := ((S.ps.length : Nat) : Int)) (by omega)
        exact ⟨(spot % ((S.ps.length : Nat) : Int)).toNat, by omega, by omega⟩
      obtain ⟨y, hy⟩ : ∃ y, (S.ps.map (·.2))[i]? = some y := ⟨_, List.getElem?_eq_getElem (by rw [List.length_map]; exact il)⟩
      refine ⟨_, rfl, _, rfl, .inl ⟨spot, rfl, _, rfl, s, dx, _, rfl, e0, s, S, rfl, hS3, ok.ok, _, rfl, lz, _, _, rfl, rfl, by omega, s, S, i, y, (by show [V.ref s, V.int (spot % ((S.ps.length : Nat) : Int))] = _; rw [hi]), hS3, ok.ok, ok.bz, by omega, hy, fun G4 j jl k4 h4 => ?_⟩⟩
      exact q G4 (S.go j) (k3.trans (kp2 k4)) (pot_kp hp3 k4 ps3) h4 (ok.go (by omega) jl) rfl rfl
    refine ⟨fun z J => G3 = J, ⟨_, rfl, rfl, _, rfl, ite2 (fun _ => ?_) (fun _ => rfl)⟩, ?_⟩
    · exact ⟨_, rfl, s, dx, _, rfl, e0, s, S, rfl, hS3, ok.ok, _, rfl, lz, _, _, rfl, rfl, _, rfl, rfl⟩
    rintro z1 _ rfl
    refine ite2 (fun _ => ?_) (fun _ => ?_)
    · refine ⟨_, rfl, s, C, dx, _, _, rfl, e0, Z.cl, Z.nT, sf_texts, _, rfl, s, C, dx, _, _, rfl, e0, Z.cl, Z.nM, sf_names, by show 2 ≤ sizeLine; decide, fun B nB => ?_⟩
      generalize hG : upd G3 B _ = G4
      have s4 : Same G3 G4 := hG ▸ same_new nB
      have eB : G4 B = some (.lst [.ref a, .ref b]) := by rw [← hG]; exact upd_same
      clear hG
      have hS4 := hS3.same s4
      have e0' := s4 _ _ e0
      have e2' := s4 _ _ e2
      have e3' := e3.same s4
      have as : a ∉ [s] := off1 fun z => by rw [z, e0'] at e2'; cases e2'
      have bs : b ∉ [s] := off1 fun z => by
        obtain ⟨o, eo, _⟩ := e3'
        rw [z, e0'] at eo
        cases eo
      have Bs : B ∉ [s] := off1 (lst_no_shelf hS4 eB)
      refine ⟨_, rfl, _, rfl, _, rfl, _, rfl, s, S, t, rfl, hS4, ok.ok, ok.nd, ok.bz, by omega, wt, by omega, fun G5 k5 h5 => ?_⟩
      obtain ⟨dx5, _, _, _, _, f0, _⟩ := id h5.ex
      refine ⟨_, rfl, ?_⟩
      refine ⟨_, rfl, s, dx5, _, rfl, f0, rfl, s, S.come t, S.past, S.ps, rfl, h5, ok.bz, rfl, fun G6 k6 h6 => ?_⟩
      have k46 := k5.trans k6
      have h6 : ShelfAt C N G6 s S := h6
      obtain ⟨dx6, n6, a6, b6, c6, g0, g1, g2, g3, g4⟩ := id h6.ex
      refine ⟨rfl, _, rfl, ?_⟩
      rw [show (!decide (V.non = V.non)) = false by simp]
      refine ⟨_, rfl, s, C, dx6, _, _, rfl, g0, Z.cl, Z.nT, sf_texts, _, rfl, s, C, dx6, _, _, rfl, g0, Z.cl, Z.nM, sf_names, by show 2 ≤ sizeLine; decide, fun B2 nB2 => ?_⟩
      generalize hG : upd G6 B2 _ = G7
      have s7 : Same G6 G7 := hG ▸ same_new nB2
      have eB2 : G7 B2 = some (.lst [.ref a6, .ref b6]) := by rw [← hG]; exact upd_same
      clear hG
      have keep : ∀ {x o}, G4 x = some o → x ∉ [s] → G7 x = some o := fun e n => s7 _ _ (k46 _ _ e n)
      have e3k : FT G7 b (nms S.ps) := by
        obtain ⟨o, eo, h1, h2⟩ := e3'
        exact ⟨o, keep eo bs, h1, h2⟩
      refine ⟨_, rfl, two52 S.ps, two52 S.ps, dpTwo52 eB2 (s7 _ _ g2) (g3.same s7), dpTwo52 (keep eB Bs) (keep e2' as) e3k, shTwo52 ok.ok.ps, shTwo52 ok.ok.ps, _, rfl, ?_⟩
      rw [SeqAt.eqv_refl _ (SeqAt.canLay_of_shaped (shTwo52 ok.ok.ps))]
      refine iteF ?_
      have h7 := h6.same s7
      have k37 : Kp [s] G3 G7 := (Kp.same s4).trans (k46.trans (Kp.same s7))
      refine ⟨_, rfl, _, rfl, _, rfl, _, rfl, s, S, t, rfl, h7, ok.ok, ok.nd, ok.bz, by omega, wt, by omega, fun G8 k8 h8 => ?_⟩
      have k38 := k37.trans k8
      exact q G8 (S.come t) (k3.trans (kp2 k38)) (pot_kp hp3 k38 ps3) h8 (ok.come (by omega) wt) rfl rfl
    · refine ⟨_, rfl, _, rfl, _, rfl, _, rfl, s, S, t, rfl, hS3, ok.ok, ok.nd, ok.bz, by omega, wt, by omega, fun G4 k4 h4 => ?_⟩
      exact q G4 (S.come t) (k3.trans (kp2 k4)) (pot_kp hp3 k4 ps3) h4 (ok.come (by omega) wt) rfl rfl
end
end Gu
namespace Gu
open PySem PySem.Spec PyProof PyProof.Rows L2 LamX
/-! ### _law_right of k52 -/
structure Came (so : Str) (w : Int) (ts : List Str) (S : Sf) : Prop where
  ok : Ok52 S ts.length
  eso : S.so = so
  ew : S.w = w
  ps : S.ps = pairsOf so w ts
theorem Came.nil {so : Str} {w : Int} (h : so ∈ sorts) (w0 : 6 ≤ w) (w1 : w ≤ 40) : Came so w [] (E0S so w) := ⟨⟨e0_ok h w0 w1, fun _ => List.nodup_nil, rfl, Nat.le_refl _, Nat.le_refl _⟩, rfl, rfl, rfl⟩
theorem Came.next {so : Str} {w : Int} {ts : List Str} {S : Sf} {t : Str} (h : Came so w ts S) (l : ts.length < 6) (wt : Wd 200 t) : Came so w (ts ++ [t]) (S.come t) := by
  refine ⟨?_, h.eso, h.ew, ?_⟩
  · rw [List.length_append]
    exact h.ok.come (by omega) wt
  · show S.ps ++ [(t, nameOf S.so S.w t S.ps)] = _
    rw [h.eso, h.ew, h.ps, pairsOf_snoc]
theorem noPart52 {σ : L2.St} {H : Hp} {Q : Option Int → Hp → Prop} (h : Q none H) : tNoPart σ H Q := h
def spRightT (T : List (Addr × Str)) : Sp := fun vs H Q _ => ∃ (p : Addr), vs = [.ref p] ∧ Pot H p ∧ Tabs T H ∧ Sys H ∧ ∀ G, LadT T p H G → Q (.bl true) G
section
variable {C N p s : Addr} {l r : List Addr} {H G J : Hp} {S : Sf} {T : List (Addr × Str)}
theorem tabs_ins (m : Ins r H) (k : Kp r H G) (t : Tabs T H) : Tabs T G := fun q hq => by
  obtain ⟨ps, h1, h2, h3⟩ := t q hq
  refine ⟨ps, k _ _ h1 (m.off h1 fun _ _ _ z => by cases z), h2, fun pos cv hc => ?_⟩
  obtain ⟨c, e1, e2⟩ := h3 pos cv hc
  exact ⟨c, e1, k _ _ e2 (m.off e2 fun _ _ _ z => by unfold CodeO at z; cases z)⟩
theorem sys_ins (m : Ins r H) (k : Kp r H G) (h : Sys H) : Sys G := by
  obtain ⟨o, u, e⟩ := h
  exact ⟨o, u, k _ _ e (m.off e fun _ _ _ z => by cases z)⟩
/-- at s stood nothing, or a table -/
def Nw (H : Hp) (s : Addr) : Prop := ∀ o, H s = some o → (∀ ps, o ≠ .tbl ps) → False
theorem LW.insN (a : LW T l H G) (m : Ins r G) (k : Kp r G J) (n : ∀ b ∈ r, b ∉ l → Nw H b) : LW T l H J := ⟨fun b o e nb q => k _ _ (a.kp b o e nb q) fun z => n b z nb o e q, tabs_ins m k a.tabs, sys_ins m k a.sys⟩
theorem ins_sh (h : ShelfAt C N H s S) : Ins [s] H := fun b hb => by
  rw [List.mem_singleton.mp hb]
  obtain ⟨dx, _, _, _, _, e, _⟩ := h.ex
  exact ⟨_, _, _, e⟩
theorem LW.sh (a : LW T [p] H G) (h : ShelfAt C N G s S) (k : Kp [s] G J) (n : Nw H s) : LW T [p] H J := a.insN (ins_sh h) k fun b hb _ => by rw [List.mem_singleton.mp hb]; exact n
theorem LW.ladT (a : LW T [p] H G) (hp : Pot G p) : LadT T p H G := ⟨hp, fun c o e n q => a.kp c o e (fun z => n (List.mem_singleton.mp z)) q, a.tabs, a.sys⟩
theorem LW.nw (a : LW T [p] H G) (e : G s = none) (n : s ≠ p) : Nw H s := fun o f q => by
  have := a.kp s o f (fun z => n (List.mem_singleton.mp z)) q
  rw [e] at this
  cases this
end
/-- what stands while the sorts are gone through -/
structure B52 (T : List (Addr × Str)) (H J : Hp) (p q Y F : Addr) (y1 y2 : Str) (ts : List Str) : Prop where
  lw : LW T [p] H J
  pot : Pot J p
  nq : q ≠ p
  nF : F ≠ p
  eq : J q = some (.lst [.str y1, .str y2])
  eY : J Y = some (.tup (ts.map V.str))
  eF : J F = some (.lst [.str "count", .str "free", .str "tight"])
section
variable {C N p s q Y F : Addr} {l r : List Addr} {H G J : Hp} {S : Sf} {T : List (Addr × Str)} {y1 y2 : Str} {ts : List Str}
theorem B52.gen (b : B52 T H J p q Y F y1 y2 ts) (lw : LW T [p] H G) (hp : Pot G p) (k : KpN l J G) (h : ∀ x o, J x = some o → (∀ a b c, o ≠ .ins a b c) → x ≠ p → x ∉ l) : B52 T H G p q Y F y1 y2 ts := by
  refine ⟨lw, hp, b.nq, b.nF, k _ _ b.eq (h _ _ b.eq (fun _ _ _ z => by cases z) b.nq) fun _ z => (by cases z), k _ _ b.eY (h _ _ b.eY (fun _ _ _ z => by cases z) fun z => ?_) fun _ z => (by cases z), k _ _ b.eF (h _ _ b.eF (fun _ _ _ z => by cases z) b.nF) fun _ z => (by cases z)⟩
  obtain ⟨x, y, d, f⟩ := b.pot
  have e := b.eY
  rw [z, f] at e
  cases e
theorem B52.same (b : B52 T H J p q Y F y1 y2 ts) (k : Same J G) : B52 T H G p q Y F y1 y2 ts := b.gen (l := []) (b.lw.same k) (b.pot.same k) (.same k) fun _ _ _ _ _ => List.not_mem_nil
theorem B52.ext (b : B52 T H J p q Y F y1 y2 ts) (k : ExtN J G) (t : Tabs T G) : B52 T H G p q Y F y1 y2 ts := b.gen (l := []) (b.lw.lam k t) (pot_ext b.pot k) (.ext k) fun _ _ _ _ _ => List.not_mem_nil
theorem pot_ins (m : Ins r J) (k : Kp r J G) (hp : Pot J p) : Pot G p := by
  obtain ⟨x, y, d, f⟩ := hp
  exact ⟨x, y, d, k _ _ f (m.off f fun _ _ _ z => by cases z)⟩
theorem B52.ins (b : B52 T H J p q Y F y1 y2 ts) (m : Ins r J) (k : Kp r J G) (n : ∀ b ∈ r, Nw H b) : B52 T H G p q Y F y1 y2 ts := b.gen (l := r) (b.lw.insN m k fun x hx _ => n x hx) (pot_ins m k b.pot) (.kp k) fun _ _ e n _ => m.off e n
theorem B52.sh (b : B52 T H J p q Y F y1 y2 ts) (h : ShelfAt C N J s S) (k : Kp [s] J G) (n : Nw H s) : B52 T H G p q Y F y1 y2 ts := b.ins (ins_sh h) k fun x hx => by rw [List.mem_singleton.mp hx]; exact n
theorem B52.step (b : B52 T H J p q Y F y1 y2 ts) (h : ShelfAt C N J s S) (k : Kp [p, s] J G) (hp : Pot G p) (n : Nw H s) : B52 T H G p q Y F y1 y2 ts := by
  have mu := muts_two b.pot h
  refine b.gen (l := [p, s]) ⟨fun x o e nx q => k _ _ (b.lw.kp x o e nx q) fun z => ?_, tabs_kp mu k b.lw.tabs, b.lw.sys.kpN mu (.kp k)⟩ hp (.kp k) fun x o e ni nx z => ?_
  · rcases List.mem_cons.mp z with z | z
    · exact nx (List.mem_singleton.mpr z)
    · rw [List.mem_singleton.mp z] at e
      exact n o e q
  · rcases List.mem_cons.mp z with z | z
    · exact nx z
    · exact (ins_sh h).off e ni z
theorem B52.nw (b : B52 T H J p q Y F y1 y2 ts) (e : J s = none) : Nw H s := b.lw.nw e fun z => by
  obtain ⟨x, y, d, f⟩ := b.pot
  rw [z, f] at e
  cases e
end
abbrev lamQ_law_right : Str := (envOfC "_law_right" (defScope s_law_right) 0 0 .none).qual ++ "<lambda>"
section
variable {P : Program} {w : World} {K : PySem.W.Frag} {mg : Str → Option Value} {base : Heap} {C N Ct Ce cc PT : Addr} {T : List (Addr × Str)}
set_option maxHeartbeats 4000000 in
theorem cal_right (B : Bi mg) (Z : ShlC K mg C) (W : ShlN P w K mg base C N) (D : AtC K mg "_law_right" s_law_right ps_law_right cc) (TB : TabB base mg cc PT) (mT : (PT, lamQ_law_right) ∈ T) (hU : ∀ p ∈ T, p.1 = PT → p.2 = lamQ_law_right) (C_law_draw : Cal P w K mg base 1 "_law_draw" ps_law_draw spLadle) (C_law_one : Cal P w K mg base 2 "_law_one" ps_law_one (spOneOf K)) (C_law_stem : Cal P w K mg base 2 "_law_stem" ps_law_stem spStem) (C_law_word : Cal P w K mg base 3 "_law_word" ps_law_word (spWord K))
    (M_nm : Mak P w K mg base 2 "Namer" N (spNInit N (NmAt N))) (MK_shl : MakK P w K mg base 2 "Shelf" C ["namer"] rev2 (spShInit C N)) (C_law_come : Cal P w K mg base 6 "_law_come" ps_law_come (spCome52 C N)) (C_law_step : Cal P w K mg base 7 "_law_step" ps_law_step (spStep52 C N)) (C_names : Cal P w K mg base 5 "names" ps_names (spNamesP K (NmAt N))) (M_add : CalM P w K mg base 5 C "add" ps_Shelf_add (spAdd C N))
    (CK_attempt : CalAK P w K mg base 6 8 "attempt" ps_attempt ["act", "shelf"] (spAttempt C N Ct Ce)) : CalG P w K mg base 9 "_law_right" ps_law_right (spRightT T) := by
  obtain ⟨fL, fdL, FL, bL, sL, iL⟩ := W.len
  refine D.calG sc_law_right (fun vs H Q E h => ?_) (fun f A outer s0 H vs Q E hr quiet h => ?_)
  · obtain ⟨p, rfl, _⟩ := h
    rfl
  · obtain ⟨p, rfl, hp, hT, hY, k⟩ := h
    refine ⟨_, (pss_cons (ps_asg (pe_tup (pa_cons (pe_lst (pa_cons (pe_own C_law_stem hr (by decide) (by rfl) (pa_cons (pv 0) (pa_cons pe_int pa_nil))) (pa_cons (pe_own C_law_stem hr (by decide) (by rfl) (pa_cons (pv 0) (pa_cons pe_int pa_nil))) pa_nil))) (pa_cons (pe_op op_add pe_int (pe_own C_law_draw hr (by decide) (by rfl) (pa_cons (pv 0) (pa_cons (pe_own C_law_one hr (by decide) (by rfl) (pa_cons (pv 0) (pa_cons (pe_lst (pa_cons pe_int (pa_cons pe_int (pa_cons pe_int pa_nil)))) pa_nil))) pa_nil)))) pa_nil))) (pg_tup rfl (pgs_cons (pg_name (i := 1) sc_law_right.nd rfl (.inr rfl)) (pgs_cons (pg_name (i := 2) sc_law_right.nd rfl (.inr rfl)) pgs_nil))))
      (pss_cons (ps_set (i := 3) sc_law_right.nd rfl (.inl rfl) (pe_callTy call_tuple_of (by rfl) B.tuple (by decide +kernel) (pa_cons (pe_lc (own := [("_law_k", 7)]) (by rfl) sc_law_right.nd (pi_range1 (by rfl) B.range (pa_cons pe_int pa_nil)) (blkOk_by (own := [("_law_k", 7)]) (N := ["_law_source_here", "_law_stems", "_law_size", "_law_line", "_law_sort", "_law_mine", "_law_turn", "_law_k", "_law_text_here"]) (sc := defScope s_law_right) (by decide +kernel)) (fun _ _ _ _ _ => pg_name (i := 7) sc_law_right.nd rfl (.inl rfl)) (fun _ _ _ _ _ => pts_nil) (fun _ _ _ _ _ => (pe_own C_law_word hr (by decide) (by rfl) (pa_cons (pv 0) (pa_cons (pv 1) pa_nil))))) pa_nil)))
      (pss_cons (ps_for PassesOwn.never rfl (pi_list (pe_lst (pa_cons pe_str (pa_cons pe_str (pa_cons pe_str pa_nil))))) (pg_name (i := 4) sc_law_right.nd rfl (.inr rfl))
      (pss_cons (ps_set (i := 5) sc_law_right.nd rfl (.inr rfl) (pe_newK MK_shl hr (by decide) (by rfl) (pk_cons (pe_new M_nm hr (by decide) (by rfl) (pa_cons (pv 4) (pa_cons (pv 2) pa_nil))) pk_nil)))
      (pss_cons (ps_if (pt_cmpR (op_neD hr.units) (pe_lc (own := [("_law_text_here", 8)]) (by rfl) sc_law_right.nd (pi_tup (pv 3)) (blkOk_by (own := [("_law_text_here", 8)]) (N := ["_law_source_here", "_law_stems", "_law_size", "_law_line", "_law_sort", "_law_mine", "_law_turn", "_law_k", "_law_text_here"]) (sc := defScope s_law_right) (by decide +kernel)) (fun _ _ _ _ _ => pg_name (i := 8) sc_law_right.nd rfl (.inl rfl)) (fun _ _ _ _ _ => (pts_one (pt_not (pt_val (pe_own C_law_come hr (by decide) (by rfl) (pa_cons (pv 5) (pa_cons (pv 4) (pa_cons (pv 2) (pa_cons (pv 8) pa_nil))))))))) (fun _ _ _ _ _ => (pv 8))) (pe_lst pa_nil) (nomark _)) (pss_one (ps_ret pe_bl)) pss_nil)
      (pss_cons (ps_if (PW.pt (pw_or (pt_cmpR (op_neD hr.units) (pe_fld (pv 5) rfl) (pe_own C_names hr (by decide) (by rfl) (pa_cons (pe_new M_nm hr (by decide) (by rfl) (pa_cons (pv 4) (pa_cons (pv 2) pa_nil))) (pa_cons (pv 3) pa_nil))) (nomark _)) (pw_or1 (pt_cmpR (op_neD hr.units) (pe_fld (pv 5) rfl) (pv 3) (nomark _))))) (pss_one (ps_ret pe_bl)) pss_nil)
      (pss_cons (ps_for PassesOwn.never rfl (pi_range1 (by rfl) B.range (pa_cons pe_int pa_nil)) (pg_name (i := 6) sc_law_right.nd rfl (.inl rfl))
      (pss_one (ps_if (pt_not (pt_val (pe_own C_law_step hr (by decide) (by rfl) (pa_cons (pv 0) (pa_cons (pv 5) (pa_cons (pv 4) (pa_cons (pv 2) (pa_cons (pv 1) pa_nil)))))))) (pss_one (ps_ret pe_bl)) pss_nil)))
      (pss_one (ps_if (pt_cmpR op_ne (pe_handLamK (T := T) (j := 5) (i := 5) CK_attempt TB rfl mT hU (lamS1_by (sc := defScope s_law_right) (by decide +kernel)) (show (("_law_here" : String) : Str) ∉ (["_law_source_here", "_law_stems", "_law_size", "_law_line", "_law_sort", "_law_mine", "_law_turn", "_law_k", "_law_text_here"] : List Str) by decide) rfl (fun _ _ _ _ _ _ => rfl) (fun A2 outer2 s2 H2 E2 f2 c2 hr => (pe_ix (r := rIxL K) ix_list (pe_lst (pa_cons (pe_callB (call_lenOwn (C := C) FL bL (hr.mono (by decide)) sL iL) (by rfl) B.len (by decide +kernel) (pa_cons (pv 9) pa_nil)) (pa_cons (pe_mth M_add Z.cl hr (by decide) (pv 9) (pa_cons pe_str pa_nil)) pa_nil))) pe_int (fun _ _ => rfl))) hr (by decide) (by rfl) rfl (by first | exact .inl rfl | exact .inr (.inl rfl) | exact .inr (.inr rfl))) (pe_callB call_len_seq (by rfl) B.len (by decide +kernel) (pa_cons (pe_fld (pv 5) rfl) pa_nil)) (nomark _)) (pss_one (ps_ret pe_bl)) pss_nil)))))))
      (pss_one (ps_ret pe_bl))))), ?_⟩
    -- the stems, the width
    refine ⟨_, rfl, p, 9, rfl, hp, by decide, by decide, fun y1 G1 L1 z1 w1 => ?_⟩
    refine ⟨_, rfl, p, 6, rfl, L1.pot, by decide, by decide, fun y2 G2 L2 z2 w2 => ?_⟩
    have M2 := L1.trans L2
    refine ⟨by show 2 ≤ sizeLine; decide, fun q nq => ?_⟩
    have M3 := M2.new (o := .lst [.str y1, .str y2]) nq
    have nqp : q ≠ p := M2.pot.off nq
    have eq : upd G2 q (.lst [.str y1, .str y2]) q = some (.lst [.str y1, .str y2]) := upd_same
    generalize upd G2 q (.lst [.str y1, .str y2]) = G3 at M3 eq
    refine ⟨_, rfl, _, rfl, by show 3 ≤ sizeLine; decide, fun q1 n1 => ?_⟩
    refine ⟨p, M3.pot.same (same_new n1), q1, _, rfl, .inl (.inl upd_same), M3.pot.off n1, by decide, by decide, fun v G4 hv L4 => ?_⟩
    obtain ⟨b, b0, b1, rfl⟩ : ∃ b : Int, 0 < b ∧ b ≤ 35 ∧ v = .int b := by
      rcases List.mem_cons.mp hv with rfl | hv
      · exact ⟨1, by decide, by decide, rfl⟩
      rcases List.mem_cons.mp hv with rfl | hv
      · exact ⟨6, by decide, by decide, rfl⟩
      rcases List.mem_cons.mp hv with rfl | hv
      · exact ⟨35, by decide, by decide, rfl⟩
      cases hv
    have M4 := (M3.new (o := .lst [.int 1, .int 6, .int 35]) n1).trans L4
    have eq4 : G4 q = some (.lst [.str y1, .str y2]) := L4.keep _ _ (same_new n1 _ _ eq) nqp
    refine ⟨p, b, rfl, M4.pot, b0, by omega, fun d2 G5 d0 d1 L5 => ⟨_, _, rfl, rfl, ?_⟩⟩
    refine ⟨by show 2 ≤ sizeLine; decide, fun U nU => ?_⟩
    have M5 := (M4.trans L5).new (o := .tup [.ref q, .int (6 + d2)]) nU
    have eq5 := same_new (o := .tup [.ref q, .int (6 + d2)]) nU _ _ (L5.keep _ _ eq4 nqp)
    have eT5 : upd G5 U (.tup [.ref q, .int (6 + d2)]) U = some (.tup [.ref q, .int (6 + d2)]) := upd_same
    refine ⟨U, _, rfl, .inl (.inl eT5), rfl, _, _, rfl, _, _, rfl, rfl, ?_⟩
    generalize upd G5 U (.tup [.ref q, .int (6 + d2)]) = G5b at M5 eq5 eT5
    have sz0 : 6 ≤ 6 + d2 := by omega
    have sz1 : 6 + d2 ≤ 40 := by omega
    generalize 6 + d2 = wd at sz0 sz1
    clear M4 M3 M2 L1 L2 L4 L5 eq4 eq
    have yw : ∀ y ∈ [y1, y2], 0 < y.cps.toList.length ∧ Wd 12 y := fun y hy => by
      rcases List.mem_cons.mp hy with rfl | hy
      · exact ⟨z1, w1.mono (by decide)⟩
      rcases List.mem_cons.mp hy with rfl | hy
      · exact ⟨z2, w2.mono (by decide)⟩
      cases hy
    have w5 : LW T [p] H G5b := (LW.refl hT hY).lad hp M5 (List.mem_singleton.mpr rfl)
    -- the line
    refine ⟨_, rfl, by decide, by decide, fun X nX => lc_range (lo := 0) (n := 6) (fun i J => ∃ ts : List Str, ts.length = i ∧ (∀ t ∈ ts, Wd 200 t) ∧ J X = some (.lst (ts.map V.str)) ∧ Ladled p H J ∧ J q = some (.lst [.str y1, .str y2]))
      ⟨[], rfl, (fun t ht => by cases ht), upd_same, M5.mut (M5.free nX) (M5.pot.off nX), by rw [upd_ne (ne_of_none eq5 nX)]; exact eq5⟩ ?_ ?_⟩
    · rintro j2 J2 hj ⟨ts, rfl, wt, eX, LJ, eqJ⟩
      have nXp : X ≠ p := M5.pot.off nX
      have nXq : q ≠ X := ne_of_none eq5 nX
      refine ⟨rfl, yes (iteT ⟨_, rfl, _, rfl, p, q, [y1, y2], rfl, LJ.pot, .inl (.inl eqJ), nqp, by show 0 < 2; decide, by show 2 < 1000; decide, yw, fun y GJ Ly wy => ?_⟩)⟩
      have gX := Ly.keep _ _ eX nXp
      refine ⟨_, gX, small1000 (by rw [List.length_map]; omega), ts ++ [y], by rw [List.length_append]; rfl, fun t ht => ?_, ?_, (LJ.trans Ly).mut (M5.free nX) nXp, ?_⟩
      · rcases List.mem_append.mp ht with ht | ht
        · exact wt t ht
        · rw [List.mem_singleton.mp ht]
          exact wy
      · rw [upd_same, List.map_append]
        rfl
      · rw [upd_ne nXq]
        exact Ly.keep _ _ eqJ nqp
    rintro J2 ⟨ts, tl, wt, eX, LJ, eqJ2⟩
    refine ⟨X, _, rfl, .inl ⟨.inl (.inl eX), fun Y nY => ?_⟩⟩
    have M7 := LJ.new (o := .tup (ts.map V.str)) nY
    have eq7 := same_new (o := .tup (ts.map V.str)) nY _ _ eqJ2
    have eY : upd J2 Y (.tup (ts.map V.str)) Y = some (.tup (ts.map V.str)) := upd_same
    generalize upd J2 Y (.tup (ts.map V.str)) = J3 at M7 eq7 eY
    have w7 : LW T [p] H J3 := (LW.refl hT hY).lad hp M7 (List.mem_singleton.mpr rfl)
    have pJ3 := M7.pot
    clear M7 LJ eqJ2 eX nX M5 eq5 eT5 nY nU w5
    -- the three sorts
    refine ⟨by show 3 ≤ sizeLine; decide, fun F nF => ?_⟩
    have sF : Same J3 (upd J3 F (.lst [.str "count", .str "free", .str "tight"])) := same_new nF
    have eF : upd J3 F (.lst [.str "count", .str "free", .str "tight"]) F = some (.lst [.str "count", .str "free", .str "tight"]) := upd_same
    generalize upd J3 F (.lst [.str "count", .str "free", .str "tight"]) = JF at sF eF
    have hB : B52 T H JF p q Y F y1 y2 ts := ⟨w7.same sF, pJ3.same sF, nqp, pJ3.off nF, sF _ _ eq7, sF _ _ eY, eF⟩
    clear eF sF nF eY eq7 w7 pJ3
    refine ⟨F, rfl, ⟨_, .inl (.inl hB.eF)⟩, for_list (K := K) (a := F) (xs := [.str "count", .str "free", .str "tight"]) (fun i σ J => ∃ a b c, σ = [some (.ref p), some (.ref q), some (.int wd), some (.ref Y), a, b, c, none, none] ∧ B52 T H J p q Y F y1 y2 ts) ⟨_, _, _, rfl, hB⟩ (fun i σ J _ ⟨_, _, _, _, hB⟩ => .inl (.inl hB.eF)) ?_ ?_⟩
    · rintro i v σ J hi ⟨a1, a2, a3, rfl, hB⟩
      have hv := List.mem_of_getElem? hi
      obtain ⟨so, rfl, hso⟩ : ∃ so : Str, v = .str so ∧ so ∈ sorts := by
        simp only [List.mem_cons, List.not_mem_nil, or_false] at hv
        rcases hv with rfl | rfl | rfl
        · exact ⟨_, rfl, by decide⟩
        · exact ⟨_, rfl, by decide⟩
        · exact ⟨_, rfl, by decide⟩
      refine ⟨_, rfl, _, rfl, fun x dx nx nd ne => ⟨x, dx, so, wd, rfl, upd_same, hso, sz0, sz1, fun G2 hN kN => ⟨rfl, ?_⟩⟩⟩
      have s2 : Same J G2 := fun c o e => kN c o (by rw [upd_ne (ne_of_none e nx), upd_ne (ne_of_none e nd)]; exact e) (ne_of_none e nx)
      have hB := hB.same s2
      refine ⟨rfl, rfl, fun s d1 ns nd1 ne1 => ⟨s, d1, x, so, wd, rfl, upd_same, hN.same (same_mk ns nd1 ne1), fun G4 k4 hS => ⟨rfl, ?_⟩⟩⟩
      have nw := hB.nw ns
      have s4 : Same G2 G4 := same_via ns (same_mk ns nd1 ne1) k4
      have hB := hB.same s4
      have hS : ShelfAt C N G4 s (E0S so wd) := hS
      clear s2 s4 k4 kN hN nx nd ne ns nd1 ne1
      have wT : ∀ t ∈ ts, Wd 200 t := wt
      -- all texts come
      refine ⟨_, rfl, Y, rfl, ⟨_, .inl (.inl hB.eY)⟩, fun M nM => lc_tup (K := K) (a := Y) (xs := ts.map V.str) (fun i J2 => ∃ S, J2 M = some (.lst []) ∧ ShelfAt C N J2 s S ∧ Came so wd (ts.take i) S ∧ B52 T H J2 p q Y F y1 y2 ts)
        ⟨_, upd_same, hS.same (same_new nM), .nil hso sz0 sz1, hB.same (same_new nM)⟩ (fun i J2 _ ⟨_, _, _, _, b⟩ => .inl (.inl b.eY)) ?_ ?_⟩
      · rintro i2 v J2 hi2 ⟨S, eM, hS, cm, hB⟩
        obtain ⟨t, ht, rfl, mt⟩ := atP_strs hi2
        have il : i2 < ts.length := (List.getElem?_eq_some_iff.mp ht).1
        have tkl : (ts.take i2).length = i2 := by rw [List.length_take]; omega
        have c1 := cm.ok.past
        have c2 := cm.ok.few
        rw [tkl] at c1 c2
        refine ⟨rfl, ⟨_, rfl, _, rfl, _, rfl, _, rfl, s, S, t, by rw [cm.eso, cm.ew]; rfl, hS, cm.ok.ok, cm.ok.nd, cm.ok.bz, by omega, wT t mt, by omega, fun G kG hG => ?_⟩⟩
        have nMs : M ∉ [s] := off1 (lst_no_shelf hS eM)
        refine ⟨_, rfl, iteF ⟨S.come t, kG _ _ eM nMs, hG, ?_, hB.sh hS kG nw⟩⟩
        rw [take_next ht]
        exact cm.next (by rw [tkl]; omega) (wT t mt)
      · rintro J2 ⟨S, eM, hS, cm, hB⟩
        rw [List.length_map, List.take_length] at cm
        refine ⟨Nat.zero_le _, fun e ne => ?_⟩
        have s2 : Same J2 (upd J2 e (.lst [])) := same_new ne
        refine ⟨.list [], .list [], .lst (.inl (.inl (s2 _ _ eM))) .nil, .lst (.inl (.inl upd_same)) .nil, by decide +kernel, by decide +kernel, _, rfl, iteF ?_⟩
        have hB := hB.same s2
        have hS := hS.same s2
        generalize upd J2 e (.lst []) = J3 at hB hS
        clear s2 ne eM nM
        -- names, texts
        have eN : S.ps.map (·.2) = namesOf so wd ts := by rw [cm.ps]; rfl
        have eX : S.ps.map (·.1) = ts := by rw [cm.ps]; exact pairsOf_fst so wd ts.length ts rfl
        have wN : ∀ y ∈ namesOf so wd ts, Wd 202 y := names_wd (by omega) wT
        obtain ⟨dx, n, a, b, c, e0, e1, e2, e3, e4⟩ := id hS.ex
        refine ⟨_, rfl, s, C, dx, _, _, rfl, e0, Z.cl, Z.nM, sf_names, ?_⟩
        refine ⟨_, rfl, _, rfl, fun x2 dx2 nx nd ne => ⟨x2, dx2, so, wd, rfl, upd_same, hso, sz0, sz1, fun G2 hN kN => ⟨rfl, ?_⟩⟩⟩
        have s2 : Same J3 G2 := fun c o e => kN c o (by rw [upd_ne (ne_of_none e nx), upd_ne (ne_of_none e nd)]; exact e) (ne_of_none e nx)
        have hB := hB.same s2
        refine ⟨_, rfl, x2, Y, so, wd, ts, rfl, hN, hso, sz0, sz1, .inl (.inl hB.eY), by omega, wT, fun r G3 hr s3 => ?_⟩
        have hB := hB.same s3
        have s23 := s2.trans s3
        have e3' : FT G3 b ((namesOf so wd ts).map V.str) := by
          rw [← eN]
          exact e3.same s23
        have e2' : G3 a = some (.tup (ts.map V.str)) := by
          have := s23 _ _ e2
          unfold txts at this
          rwa [eX] at this
        refine ⟨.tuple ((namesOf so wd ts).map PyData.str), .tuple ((namesOf so wd ts).map PyData.str), .tup e3'.sq (dp_strs _), .tup hr (dp_strs _), shT52 wN, shT52 wN, _, rfl, ?_⟩
        rw [SeqAt.eqv_refl _ (SeqAt.canLay_of_shaped (shT52 wN))]
        refine ⟨_, rfl, s, C, dx, _, _, rfl, s23 _ _ e0, Z.cl, Z.nT, sf_texts, _, rfl, ?_⟩
        refine ⟨.tuple (ts.map PyData.str), .tuple (ts.map PyData.str), .tup (.inl (.inl e2')) (dp_strs _), .tup (.inl (.inl hB.eY)) (dp_strs _), shT52 wT, shT52 wT, _, rfl, ?_⟩
        rw [SeqAt.eqv_refl _ (SeqAt.canLay_of_shaped (shT52 wT))]
        refine iteF ?_
        have hS := hS.same s23
        clear e0 e1 e2 e3 e4 e2' e3' hr s2 s3 s23 kN hN nx nd ne
        -- six steps
        refine ⟨_, rfl, by decide, by decide, for_range (lo := 0) (n := 6) (fun i σ J => ∃ (S : Sf) (u : Option V), σ = [some (.ref p), some (.ref q), some (.int wd), some (.ref Y), some (.str so), some (.ref s), u, none, none] ∧ B52 T H J p q Y F y1 y2 ts ∧ ShelfAt C N J s S ∧ Ok52 S (6 + i) ∧ S.so = so ∧ S.w = wd) ⟨S, _, rfl, hB, hS, cm.ok.mono (by omega), cm.eso, cm.ew⟩ ?_ ?_⟩
        · rintro i2 σ J4 hi2 ⟨S, u, rfl, hB, hS, ok, es, ew⟩
          refine ⟨_, rfl, _, rfl, _, rfl, _, rfl, _, rfl, p, s, q, S, 6 + i2, y1, y2, by rw [es, ew]; rfl, hS, ok, by omega, hB.pot, hB.eq, yw, fun G S2 kG pG hG ok2 es2 ew2 => ?_⟩
          exact ⟨_, rfl, iteF ⟨S2, _, rfl, hB.step hS kG pG nw, hG, ok2, by rw [es2, es], by rw [ew2, ew]⟩⟩
        · rintro σ J4 ⟨S, u, rfl, hB, hS, ok, es, ew⟩
          have few := ok.few
          have past := ok.past
          have pl : S.ps.length < 20 := by omega
          refine ⟨hB.lw.tabs, _, rfl, fun c' H2 ex tb hc => ?_⟩
          have hB2 := hB.ext ex tb
          refine ⟨s, S, rfl, hS.ext ex, ok.bz, fun t e G a b c sG nt hTr hE hSG ea fb pc => ?_⟩
          have hB3 := hB2.same sG
          obtain ⟨dx, _, _, _, _, e0, _⟩ := id hSG.ex
          have lz : (0 : Int) ≤ ((S.ps.length : Nat) : Int) ∧ ((S.ps.length : Nat) : Int) < 2 ^ 63 := ⟨by omega, by omega⟩
          refine ⟨_, rfl, s, dx, _, rfl, e0, s, S, rfl, hSG, ok.ok, _, rfl, lz, ?_⟩
          refine ⟨_, rfl, s, dx, _, rfl, e0, rfl, s, _, S, rfl, hSG, ok.ok, ok.bz, ⟨by decide +kernel, by decide +kernel⟩, pl, fun J kJ hJ => ?_⟩
          refine ⟨by show 2 ≤ sizeLine; decide, fun m nm => ⟨m, _, _, _, rfl, rfl, .inl (.inl upd_same), rfl, ?_⟩⟩
          have sJ : Same J (upd J m (.lst [.int ((S.ps.length : Nat) : Int), .str (nameOf S.so S.w (("a" : String) : Str) S.ps)])) := same_new nm
          have hJ := hJ.same sJ
          refine exit_ok (fun x hx => .inr ⟨S, by rw [List.mem_singleton.mp hx]; exact hSG⟩) ((KpN.kp kJ).trans (.same sJ)) hTr hE ea fb pc hJ fun L kL ins hTL hSL => ?_
          have hSL : ShelfAt C N L s S := hSL
          have hB4 := ((hB3.sh hSG kJ nw).same sJ).ins ins kL fun x hx => by
            rcases List.mem_cons.mp hx with rfl | hx
            · exact hB2.nw nt
            · rw [List.mem_singleton.mp hx]
              exact nw
          obtain ⟨dx5, n5, a5, b5, c5, f0, f1, f2, f3, f4⟩ := id hSL.ex
          refine ⟨_, rfl, s, C, dx5, _, _, rfl, f0, Z.cl, Z.nT, sf_texts, a5, _, rfl, .inr (.inl (.inl f2)), ?_⟩
          rw [txts_len]
          refine ⟨rfl, _, rfl, iteBF (by simp) ⟨_, _, _, rfl, hB4⟩⟩
    · rintro σ J ⟨a1, a2, a3, rfl, hB⟩
      exact k J (hB.lw.ladT hB.pot)
end
end Gu
namespace Gu
open PySem PySem.Spec PyProof.Rows L2 LamX
theorem tabs_updS {T : List (Addr × Str)} {G : Hp} {q : Addr} {xs : List V} {o : HO} (t : Tabs T G) (e : G q = some (.lst xs)) : Tabs T (upd G q o) := fun r hr => by
  obtain ⟨ps, h1, h2, h3⟩ := t r hr
  refine ⟨ps, by rw [upd_ne fun z => by rw [z, e] at h1; cases h1]; exact h1, h2, fun pos cv hc => ?_⟩
  obtain ⟨c, e1, e2⟩ := h3 pos cv hc
  refine ⟨c, e1, ?_⟩
  rw [upd_ne fun z => by
    rw [z, e] at e2
    have y := Option.some.inj e2
    unfold CodeO at y
    cases y]
  exact e2
section
variable {P : Program} {w : World} {K : PySem.W.Frag} {mg : Str → Option Value} {base : Heap}
theorem stL {K : PySem.W.Frag} {H G : Hp} {a : Addr} {xs : List V} (s : Same H G) (h : SqL K H a xs) : SqL K G a xs := (Same.n s).sqL h
def spLawT (T : List (Addr × Str)) (K : PySem.W.Frag) : Sp := fun vs H Q _ => ∃ (a : Addr) (ns : List Int), vs = [.ref a] ∧ SqL K H a (ns.map V.int) ∧ ns.length ≤ 63 ∧ Tabs T H ∧ Sys H ∧ ∀ G, Q (.bl true) G
theorem cal_lawT {n : Nat} {T : List (Addr × Str)} (B : Bi mg) {f : Addr} {fd : FuncData} (F : Fun K "law" "law" s_law f fd) (n1 : 1 ≤ n) (C_law_source : Cal P w K mg base 1 "_law_source" ps_law_source (spPot K)) (C_law_right : CalG P w K mg base n "_law_right" ps_law_right (spRightT T)) : FnG P w K mg base (n + 1) f fd ps_law (spLawT T K) := by
  refine okG F sc_law (fun vs H Q E h => ?_) (fun cdv A outer s H vs Q E hr quiet h => ?_)
  · obtain ⟨a, ns, rfl, _⟩ := h
    rfl
  · obtain ⟨a, ns, rfl, hS, hl, hT, hY, k⟩ := h
    have hk1 := n1
    refine ⟨_, (pss_one (ps_ret (pe_callB (cr_all rfl) (by rfl) B.all (by decide +kernel) (pa_cons (pe_lc (own := [("_law_k", 1)]) (by rfl) sc_law.nd (pi_range1 (by rfl) B.range (pa_cons (pe_callB (call_max2 rfl) (by rfl) B.max (by decide +kernel) (pa_cons pe_int (pa_cons (pe_callB (call_min2 rfl) (by rfl) B.min (by decide +kernel) (pa_cons (pe_callB call_len_seq (by rfl) B.len (by decide +kernel) (pa_cons (pv 0) pa_nil)) (pa_cons pe_int pa_nil))) pa_nil))) pa_nil)) (blkOk_by (own := [("_law_k", 1)]) (N := ["_law_script", "_law_k"]) (sc := defScope s_law) (by decide +kernel)) (fun _ _ _ _ _ => pg_name (i := 1) sc_law.nd rfl (.inl rfl)) (fun _ _ _ _ _ => pts_nil) (fun _ _ _ _ _ => (pe_ownG C_law_right hr (Nat.le_refl _) quiet (by rfl) (pa_cons (pe_own C_law_source hr hk1 (by rfl) (pa_cons (pv 0) (pa_cons (pv 1) pa_nil))) pa_nil)))) pa_nil)))), ?_⟩
    refine ⟨_, rfl, a, _, rfl, .inl hS, _, _, rfl, _, _, rfl, ?_⟩
    rw [List.length_map]
    generalize hm : (if (4 : Int) < (ns.length : Int) then (4 : Int) else (ns.length : Int)) = m
    have m1 : m ≤ 4 := by rw [← hm]; split <;> omega
    refine ⟨_, rfl, by split <;> omega, by split <;> omega, fun D nD => ?_⟩
    refine lc_range (lo := 0) (n := (if m > (2 : Int) then m else 2).toNat) (fun i J => ∃ bs : List Bool, bs.length = i ∧ bs.all id = true ∧ J D = some (.lst (bs.map V.bl)) ∧ SameN H J ∧ Tabs T J) ⟨[], rfl, rfl, upd_same, Same.n (same_new nD), hT.ext (same_new nD)⟩ ?_ ?_
    · rintro i J hi ⟨bs, rfl, ha, eD, sJ, tJ⟩
      have i5 : bs.length < 7 := by
        revert hi
        split <;> omega
      refine ⟨rfl, yes (iteT ⟨_, rfl, _, rfl, a, bs.length, ns, ?_, sJ.sqL hS, by omega, fun p G np hp sG => ?_⟩)⟩
      · rw [Int.zero_add]
        rfl
      · refine ⟨p, rfl, hp, tJ.ext sG, (sJ.sys hY).same sG, fun G2 L => ?_⟩
        have nDp : D ≠ p := ne_of_none eD np
        have gD : G2 D = some (.lst (bs.map V.bl)) := L.keep _ _ (sG _ _ eD) nDp fun _ z => by cases z
        refine ⟨_, gD, small1000 (by rw [List.length_map]; omega), bs ++ [true], by rw [List.length_append]; rfl, by rw [List.all_append, ha]; rfl, ?_, fun b o e nt => ?_, ?_⟩
        · rw [upd_same, List.map_append]
          rfl
        · rw [upd_ne (ne_of_none e nD)]
          exact L.keep _ _ (sG _ _ (sJ _ _ e nt)) (ne_of_none (sJ _ _ e nt) np) nt
        · exact tabs_updS L.tabs gD
    · rintro J ⟨bs, el, ha, eD, _⟩
      refine ⟨D, bs, rfl, .inl (.inl eD), ?_⟩
      rw [ha]
      exact k J
end
end Gu
namespace Gu
open PySem PySem.Spec PyProof.Rows L2
theorem at_mk {K : PySem.W.Frag} {h : Heap} {mg : Str → Option Value} {x : Str} {st : Stmt} {ps : List Str} {f : Addr} {oc : Value} {od an : Option Addr} {sl : Array (Option Value)} {kV dc pm cd ct : Value} (X : K.In h) (G : h.Ns mainGlobals mg)
    (hb : ∀ (kV doc pm : Value) (an : Option Addr) (cdv ct : Value) (us : List Value), us.length = ps.length → bindArgs (PySem.W.fnOf x x (defArgs st) (defBody st) (defScope st) .none kV doc pm an cdv ct) ⟨us, []⟩ = pure (ps.zip us))
    (a : PySem.W.nsIn K mainGlobals x = some (some (.ref f))) (l : K.lookup f = some ⟨oc, od, .func (PySem.W.fnOf x x (defArgs st) (defBody st) (defScope st) .none kV dc pm an cd ct), sl⟩) (c : PySem.W.codeIn K cd x = true) (k : PySem.W.keepIn K (.ref f) = true) : At K mg x st ps :=
  ⟨f, _, fun_mk l c k, (fun_mk l c k).binds hb, PySem.W.mg_of X G a⟩
theorem cst_mk {K : PySem.W.Frag} {h : Heap} {mg : Str → Option Value} {x : Str} {v : V} {u : Value} (X : K.In h) (G : h.Ns mainGlobals mg) (r : RelV v u) (a : PySem.W.nsIn K mainGlobals x = some (some u)) : ∃ u, mg x = some u ∧ RelV v u := ⟨u, PySem.W.mg_of X G a, r⟩
end Gu
namespace Gu
open PySem PySem.Spec PyProof.Rows L2
structure LenFn (K : PySem.W.Frag) (C : Addr) : Prop where
  ex : ∃ (f : Addr) (fd : FuncData), PySem.W.findIn K (.ref C) "__len__" = some (some (.ref f)) ∧ PySem.W.isFn K (.ref f) = true ∧ Fun K "__len__" "Shelf.__len__" s_Shelf_len f fd ∧ Binds K fd ps_Shelf_len []
end Gu
namespace Gu
open PySem PySem.Spec PyProof.Rows L2
theorem fin {P : Program} {w : World} {K : PySem.W.Frag} {mg : Str → Option Value} {base : Heap} {N C Ct Ce cc_law_right PP_law_right f : Addr} {fd : FuncData} (B : Bi mg)   (AC_law_right : AtC K mg "_law_right" s_law_right ps_law_right cc_law_right) (TB_law_right : LamX.TabB base mg cc_law_right PP_law_right) (Sn : NmC K mg N) (In : NInitAt K N) (Sh : ShlC K mg C) (Ih : ShInitAt K C) (Yh : ShlI K C) (D_Shelf_become : MethAt K C "become" "Shelf.become" s_Shelf_become ps_Shelf_become) (D_Shelf_let_come : MethAt K C "let_come" "Shelf.let_come" s_Shelf_let_come ps_Shelf_let_come) (D_Shelf_let_go : MethAt K C "let_go" "Shelf.let_go" s_Shelf_let_go ps_Shelf_let_go) (D_Shelf_check_not_busy : MethAt K C "check_not_busy" "Shelf.check_not_busy" s_Shelf_check_not_busy ps_Shelf_check_not_busy) (D_Shelf_add : MethAt K C "add" "Shelf.add" s_Shelf_add ps_Shelf_add) (D_Shelf_remove : MethAt K C "remove" "Shelf.remove" s_Shelf_remove ps_Shelf_remove) (D_Shelf_undo : MethAt K C "undo" "Shelf.undo" s_Shelf_undo ps_Shelf_undo) (D_Shelf_trial : MethAt K C "trial" "Shelf.trial" s_Shelf_trial ps_Shelf_trial) (D_Shelf_len : LenFn K C) (St : TriC K mg Ct) (It : TriInitAt K Ct) (D_Trial_enter : MethAt K Ct "__enter__" "Trial.__enter__" s_Trial_enter ps_Trial_enter) (D_Trial_exit : MethAt K Ct "__exit__" "Trial.__exit__" s_Trial_exit ps_Trial_exit) (Se : EntC K mg Ce) (Ie : EntInitAt K Ce)
    (A_is_integer : At K mg "is_integer" s_is_integer ps_is_integer) (A_is_tuple : At K mg "is_tuple" s_is_tuple ps_is_tuple) (A_is_text : At K mg "is_text" s_is_text ps_is_text) (A_check_text : At K mg "check_text" s_check_text ps_check_text) (A_check_texts : At K mg "check_texts" s_check_texts ps_check_texts) (A_check_namer : At K mg "check_namer" s_check_namer ps_check_namer) (A_base_of : At K mg "base_of" s_base_of ps_base_of) (A_numbered : At K mg "numbered" s_numbered ps_numbered) (A_counted_name : At K mg "counted_name" s_counted_name ps_counted_name) (A_free_name : At K mg "free_name" s_free_name ps_free_name) (A_name_of_next : At K mg "name_of_next" s_name_of_next ps_name_of_next) (A_named : At K mg "named" s_named ps_named) (A_names : At K mg "names" s_names ps_names) (A_within : At K mg "within" s_within ps_within) (A_attempt : At K mg "attempt" s_attempt ps_attempt) (A_law_source : At K mg "_law_source" s_law_source ps_law_source) (A_law_draw : At K mg "_law_draw" s_law_draw ps_law_draw) (A_law_one : At K mg "_law_one" s_law_one ps_law_one) (A_law_stem : At K mg "_law_stem" s_law_stem ps_law_stem) (A_law_word : At K mg "_law_word" s_law_word ps_law_word) (A_law_made : At K mg "_law_made" s_law_made ps_law_made) (A_law_due : At K mg "_law_due" s_law_due ps_law_due) (A_law_come : At K mg "_law_come" s_law_come ps_law_come) (A_law_gone : At K mg "_law_gone" s_law_gone ps_law_gone) (A_law_step : At K mg "_law_step" s_law_step ps_law_step)
    (F : Fun K "law" "law" s_law f fd) : FnG P w K mg base 10 f fd ps_law (spLawT [(PP_law_right, lamQ_law_right)] K) := by
  have c1 : Cal P w K mg base 1 "_law_draw" ps_law_draw spLadle := cal_draw B A_law_draw
  have c2 : Cal P w K mg base 2 "_law_one" ps_law_one (spOneOf K) := cal_one B A_law_one c1
  have c3 : Cal P w K mg base 2 "_law_stem" ps_law_stem spStem := cal_stem B A_law_stem c1
  have c4 : Cal P w K mg base 3 "_law_word" ps_law_word (spWord K) := cal_word B A_law_word c1 c2 c3
  have p1 : Cal P w K mg base 1 "is_integer" ps_is_integer (spIsInteger K) := cal_isInteger B A_is_integer
  have p2 : Cal P w K mg base 1 "is_text" ps_is_text (spIsText K) := cal_isText B A_is_text
  have p3 : Cal P w K mg base 2 "check_text" ps_check_text spCheckTextW := cal_checkTextW B A_check_text p2
  have pt : Cal P w K mg base 1 "is_tuple" ps_is_tuple (spIsTuple K) := cal_isTuple B A_is_tuple
  have pc : Cal P w K mg base 2 "check_texts" ps_check_texts (spCheckTexts K) := cal_checkTexts B A_check_texts pt p2
  have p4 : Cal P w K mg base 1 "check_namer" ps_check_namer (spCheckNamer N) := cal_checkNamer B Sn A_check_namer
  have p5 : Cal P w K mg base 1 "base_of" ps_base_of (spBaseOf N) := cal_baseOf B Sn A_base_of
  have p6 : Cal P w K mg base 1 "numbered" ps_numbered (spNumQ N) := cal_numQ B Sn A_numbered
  have p7 : Cal P w K mg base 2 "counted_name" ps_counted_name (spCountedQ K N) := cal_countedQ B Sn A_counted_name p5 p6
  have p8 : Cal P w K mg base 2 "free_name" ps_free_name (spFreeQ K N) := cal_freeQ B A_free_name p6
  have p9 : Cal P w K mg base 3 "name_of_next" ps_name_of_next (spNextQ K N) := cal_nextQ B Sn A_name_of_next p5 p7 p8
  have p8l : Cal P w K mg base 2 "free_name" ps_free_name (spFreeL K N) := cal_freeL B A_free_name p6
  have p9l : Cal P w K mg base 3 "name_of_next" ps_name_of_next (spNextL K N) := cal_nextL B Sn A_name_of_next p5 p7 p8l
  have p10 : Cal P w K mg base 4 "named" ps_named (spNamesP K (NmAt N)) := cal_named B A_named p9l
  have d1 : Cal P w K mg base 5 "names" ps_names (spNamesP K (NmAt N)) := cal_namesP B A_names p4 pc p10
  have m1 : Mak P w K mg base 2 "Namer" N (spNInit N (NmAt N)) := mak_nm B Sn In p1
  have b1 : CalM P w K mg base 1 C "become" ps_Shelf_become (spBecome C N) := cal_become B Sh D_Shelf_become
  have b2 : CalM P w K mg base 4 C "let_come" ps_Shelf_let_come (spLetCome C N) := cal_letCome B Sh D_Shelf_let_come p3 p9 b1
  have b4 : CalM P w K mg base 1 C "check_not_busy" ps_Shelf_check_not_busy (spCalmS C N) := cal_notBusy B Sh D_Shelf_check_not_busy
  have b5 : CalM P w K mg base 5 C "add" ps_Shelf_add (spAdd C N) := cal_add B Sh D_Shelf_add b4 b2
  obtain ⟨fL, fdL, sL, iL, FL, bL⟩ := D_Shelf_len.ex
  have W : ShlN P w K mg base C N := ⟨fL, fdL, ok_lenS B Sh FL, bL, sL, iL⟩
  have b3 : CalM P w K mg base 2 C "let_go" ps_Shelf_let_go (spLetGo C N) := cal_letGo B Sh D_Shelf_let_go b1
  have b6 : CalM P w K mg base 3 C "remove" ps_Shelf_remove (spRemove C N) := cal_remove B Sh D_Shelf_remove b4 b3
  have b7 : CalM P w K mg base 2 C "undo" ps_Shelf_undo (spUndo C N) := cal_undo B Sh D_Shelf_undo b4
  have m2 := makk_shl (P := P) (w := w) (base := base) B Sh Ih p4
  have m3 : Mak P w K mg base 2 "Trial" Ct (spTriInit Ct) := mak_tri B St It
  have m4 : Mak P w K mg base 2 "Entry" Ce (spEntInit C Ce) := mak_ent B Sh Se Ie
  have t1 : CalM P w K mg base 4 Ct "__enter__" ps_Trial_enter (spEnter C Ct Ce) := cal_enter B St D_Trial_enter m4
  have t2 : CalM P w K mg base 2 Ct "__exit__" ps_Trial_exit (spExit C Ct Ce) := cal_exit B Sh St Se D_Trial_exit
  have t3 : CalM P w K mg base 4 C "trial" ps_Shelf_trial (spTrial C N Ct) := cal_trial B Sh D_Shelf_trial b4 m3
  have t4 : CalA P w K mg base 6 7 "within" ps_within (spWithin C Ct Ce) := cal_within B A_within (by decide) (by decide) t1 t2
  have t5 : CalAK P w K mg base 6 8 "attempt" ps_attempt ["act", "shelf"] (spAttempt C N Ct Ce) := cal_attemptK B Sh Yh A_attempt (by decide) t3 t4
  obtain ⟨fL, fdL, sL, iL, FL, bL⟩ := D_Shelf_len.ex
  have W : ShlN P w K mg base C N := ⟨fL, fdL, ok_lenS B Sh FL, bL, sL, iL⟩
  have q1 := cal_made52 (P := P) (w := w) (K := K) (base := base) B A_law_made
  have q2 : Cal P w K mg base 2 "_law_due" ps_law_due (spDue52 C N) := cal_due52 B Sh A_law_due q1
  have q3 : Cal P w K mg base 6 "_law_come" ps_law_come (spCome52 C N) := cal_come52 B Sh W A_law_come q2 b5
  have q4 : Cal P w K mg base 4 "_law_gone" ps_law_gone (spGone52 C N) := cal_gone52 B Sh A_law_gone b6
  have q5 : Cal P w K mg base 7 "_law_step" ps_law_step (spStep52 C N) := cal_step52 B Sh W A_law_step c1 c4 q3 q4 b7
  have r1 : CalG P w K mg base 9 "_law_right" ps_law_right (spRightT [(PP_law_right, lamQ_law_right)]) := cal_right B Sh W AC_law_right TB_law_right (List.mem_singleton.mpr rfl) (fun p hp _ => by rw [List.mem_singleton.mp hp]) c1 c2 c3 c4 m1 m2 q3 q5 d1 b5 t5
  exact cal_lawT B F (by decide) (cal_source B A_law_source) r1
end Gu
namespace Gu
open PySem PySem.Spec PyProof.Rows L2
set_option maxHeartbeats 0 in
theorem all_mk {l : PySem.W.OpenLaw} {q : Program} {w : World} {K : PySem.W.Frag} {h : Heap} {mg : Str → Option Value} {fa : Addr} {f_is_integer : Addr} {oc_is_integer kV_is_integer dc_is_integer pm_is_integer cd_is_integer ct_is_integer : Value} {od_is_integer an_is_integer : Option Addr} {sl_is_integer : Array (Option Value)} {f_is_tuple : Addr} {oc_is_tuple kV_is_tuple dc_is_tuple pm_is_tuple cd_is_tuple ct_is_tuple : Value} {od_is_tuple an_is_tuple : Option Addr} {sl_is_tuple : Array (Option Value)} {f_is_text : Addr} {oc_is_text kV_is_text dc_is_text pm_is_text cd_is_text ct_is_text : Value} {od_is_text an_is_text : Option Addr} {sl_is_text : Array (Option Value)} {f_check_text : Addr} {oc_check_text kV_check_text dc_check_text pm_check_text cd_check_text ct_check_text : Value} {od_check_text an_check_text : Option Addr} {sl_check_text : Array (Option Value)} {f_check_texts : Addr} {oc_check_texts kV_check_texts dc_check_texts pm_check_texts cd_check_texts ct_check_texts : Value} {od_check_texts an_check_texts : Option Addr} {sl_check_texts : Array (Option Value)} {f_check_namer : Addr} {oc_check_namer kV_check_namer dc_check_namer pm_check_namer cd_check_namer ct_check_namer : Value} {od_check_namer an_check_namer : Option Addr} {sl_check_namer : Array (Option Value)} {f_base_of : Addr} {oc_base_of kV_base_of dc_base_of pm_base_of cd_base_of ct_base_of : Value} {od_base_of an_base_of : Option Addr} {sl_base_of : Array (Option Value)} {f_numbered : Addr} {oc_numbered kV_numbered dc_numbered pm_numbered cd_numbered ct_numbered : Value} {od_numbered an_numbered : Option Addr} {sl_numbered : Array (Option Value)} {f_counted_name : Addr} {oc_counted_name kV_counted_name dc_counted_name pm_counted_name cd_counted_name ct_counted_name : Value} {od_counted_name an_counted_name : Option Addr} {sl_counted_name : Array (Option Value)} {f_free_name : Addr} {oc_free_name kV_free_name dc_free_name pm_free_name cd_free_name ct_free_name : Value} {od_free_name an_free_name : Option Addr} {sl_free_name : Array (Option Value)} {f_name_of_next : Addr} {oc_name_of_next kV_name_of_next dc_name_of_next pm_name_of_next cd_name_of_next ct_name_of_next : Value} {od_name_of_next an_name_of_next : Option Addr} {sl_name_of_next : Array (Option Value)} {f_named : Addr} {oc_named kV_named dc_named pm_named cd_named ct_named : Value} {od_named an_named : Option Addr} {sl_named : Array (Option Value)} {f_names : Addr} {oc_names kV_names dc_names pm_names cd_names ct_names : Value} {od_names an_names : Option Addr} {sl_names : Array (Option Value)} {f_within : Addr} {oc_within kV_within dc_within pm_within cd_within ct_within : Value} {od_within an_within : Option Addr} {sl_within : Array (Option Value)} {f_attempt : Addr} {oc_attempt kV_attempt dc_attempt pm_attempt cd_attempt ct_attempt : Value} {od_attempt an_attempt : Option Addr} {sl_attempt : Array (Option Value)} {f_law_source : Addr} {oc_law_source kV_law_source dc_law_source pm_law_source cd_law_source ct_law_source : Value} {od_law_source an_law_source : Option Addr} {sl_law_source : Array (Option Value)} {f_law_draw : Addr} {oc_law_draw kV_law_draw dc_law_draw pm_law_draw cd_law_draw ct_law_draw : Value} {od_law_draw an_law_draw : Option Addr} {sl_law_draw : Array (Option Value)} {f_law_one : Addr} {oc_law_one kV_law_one dc_law_one pm_law_one cd_law_one ct_law_one : Value} {od_law_one an_law_one : Option Addr} {sl_law_one : Array (Option Value)} {f_law_stem : Addr} {oc_law_stem kV_law_stem dc_law_stem pm_law_stem cd_law_stem ct_law_stem : Value} {od_law_stem an_law_stem : Option Addr} {sl_law_stem : Array (Option Value)} {f_law_word : Addr} {oc_law_word kV_law_word dc_law_word pm_law_word cd_law_word ct_law_word : Value} {od_law_word an_law_word : Option Addr} {sl_law_word : Array (Option Value)} {f_law_made : Addr} {oc_law_made kV_law_made dc_law_made pm_law_made cd_law_made ct_law_made : Value} {od_law_made an_law_made : Option Addr} {sl_law_made : Array (Option Value)} {f_law_due : Addr} {oc_law_due kV_law_due dc_law_due pm_law_due cd_law_due ct_law_due : Value} {od_law_due an_law_due : Option Addr} {sl_law_due : Array (Option Value)} {f_law_come : Addr} {oc_law_come kV_law_come dc_law_come pm_law_come cd_law_come ct_law_come : Value} {od_law_come an_law_come : Option Addr} {sl_law_come : Array (Option Value)} {f_law_gone : Addr} {oc_law_gone kV_law_gone dc_law_gone pm_law_gone cd_law_gone ct_law_gone : Value} {od_law_gone an_law_gone : Option Addr} {sl_law_gone : Array (Option Value)} {f_law_step : Addr} {oc_law_step kV_law_step dc_law_step pm_law_step cd_law_step ct_law_step : Value} {od_law_step an_law_step : Option Addr} {sl_law_step : Array (Option Value)} {f_law_right : Addr} {oc_law_right kV_law_right dc_law_right pm_law_right cd_law_right ct_law_right : Value} {od_law_right an_law_right : Option Addr} {sl_law_right : Array (Option Value)} {f_law : Addr} {oc_law kV_law dc_law pm_law cd_law ct_law : Value} {od_law an_law : Option Addr} {sl_law : Array (Option Value)} {N : Addr} {f_in : Addr} {oc_in kV_in dc_in pm_in cd_in ct_in : Value} {od_in an_in : Option Addr} {sl_in : Array (Option Value)} {C : Addr} {f_ih : Addr} {oc_ih kV_ih dc_ih pm_ih cd_ih ct_ih : Value} {od_ih an_ih : Option Addr} {sl_ih : Array (Option Value)} {f_hm_become : Addr} {oc_hm_become kV_hm_become dc_hm_become pm_hm_become cd_hm_become ct_hm_become : Value} {od_hm_become an_hm_become : Option Addr} {sl_hm_become : Array (Option Value)} {f_hm_let_come : Addr} {oc_hm_let_come kV_hm_let_come dc_hm_let_come pm_hm_let_come cd_hm_let_come ct_hm_let_come : Value} {od_hm_let_come an_hm_let_come : Option Addr} {sl_hm_let_come : Array (Option Value)} {f_hm_let_go : Addr} {oc_hm_let_go kV_hm_let_go dc_hm_let_go pm_hm_let_go cd_hm_let_go ct_hm_let_go : Value} {od_hm_let_go an_hm_let_go : Option Addr} {sl_hm_let_go : Array (Option Value)} {f_hm_check_not_busy : Addr} {oc_hm_check_not_busy kV_hm_check_not_busy dc_hm_check_not_busy pm_hm_check_not_busy cd_hm_check_not_busy ct_hm_check_not_busy : Value} {od_hm_check_not_busy an_hm_check_not_busy : Option Addr} {sl_hm_check_not_busy : Array (Option Value)} {f_hm_add : Addr} {oc_hm_add kV_hm_add dc_hm_add pm_hm_add cd_hm_add ct_hm_add : Value} {od_hm_add an_hm_add : Option Addr} {sl_hm_add : Array (Option Value)} {f_hm_remove : Addr} {oc_hm_remove kV_hm_remove dc_hm_remove pm_hm_remove cd_hm_remove ct_hm_remove : Value} {od_hm_remove an_hm_remove : Option Addr} {sl_hm_remove : Array (Option Value)} {f_hm_undo : Addr} {oc_hm_undo kV_hm_undo dc_hm_undo pm_hm_undo cd_hm_undo ct_hm_undo : Value} {od_hm_undo an_hm_undo : Option Addr} {sl_hm_undo : Array (Option Value)} {f_hm_trial : Addr} {oc_hm_trial kV_hm_trial dc_hm_trial pm_hm_trial cd_hm_trial ct_hm_trial : Value} {od_hm_trial an_hm_trial : Option Addr} {sl_hm_trial : Array (Option Value)} {f_hlen : Addr} {oc_hlen kV_hlen dc_hlen pm_hlen cd_hlen ct_hlen : Value} {od_hlen an_hlen : Option Addr} {sl_hlen : Array (Option Value)} {Ct : Addr} {f_it : Addr} {oc_it kV_it dc_it pm_it cd_it ct_it : Value} {od_it an_it : Option Addr} {sl_it : Array (Option Value)} {f_tm___enter__ : Addr} {oc_tm___enter__ kV_tm___enter__ dc_tm___enter__ pm_tm___enter__ cd_tm___enter__ ct_tm___enter__ : Value} {od_tm___enter__ an_tm___enter__ : Option Addr} {sl_tm___enter__ : Array (Option Value)} {f_tm___exit__ : Addr} {oc_tm___exit__ kV_tm___exit__ dc_tm___exit__ pm_tm___exit__ cd_tm___exit__ ct_tm___exit__ : Value} {od_tm___exit__ an_tm___exit__ : Option Addr} {sl_tm___exit__ : Array (Option Value)} {Ce : Addr} {f_ie : Addr} {oc_ie kV_ie dc_ie pm_ie cd_ie ct_ie : Value} {od_ie an_ie : Option Addr} {sl_ie : Array (Option Value)} {cc_law_right PP_law_right : Addr} {rd_law_right : DefRec} {u_MOST_SIGNS : Tok} {u_MOST_TEXT : Tok} {u_MOST_LISTED : Tok} {u_MOST_SHELVED : Tok} {u_SIGNS : Tok} {T_RULES : Addr} {td_RULES : Option Addr} {ts_RULES : Array (Option Value)} {tn_RULES : Nat} {e_RULES_0 e_RULES_1 e_RULES_2 : Tok} {u_LEAST_WIDTH : Tok} {T_DEED_WORDS : Addr} {td_DEED_WORDS : Option Addr} {ts_DEED_WORDS : Array (Option Value)} {tn_DEED_WORDS : Nat} {e_DEED_WORDS_0 e_DEED_WORDS_1 : Tok}
    (X : K.In h) (G : h.Ns mainGlobals mg) (TO : TabsOf q K h) (hfa : mg "law" = some (.ref fa))
    (a_is_integer : PySem.W.nsIn K mainGlobals "is_integer" = some (some (.ref f_is_integer)))
    (l_is_integer : K.lookup f_is_integer = some ⟨oc_is_integer, od_is_integer, .func (PySem.W.fnOf "is_integer" "is_integer" (defArgs s_is_integer) (defBody s_is_integer) (defScope s_is_integer) .none kV_is_integer dc_is_integer pm_is_integer an_is_integer cd_is_integer ct_is_integer), sl_is_integer⟩)
    (c_is_integer : PySem.W.codeIn K cd_is_integer "is_integer" = true)
    (k_is_integer : PySem.W.keepIn K (.ref f_is_integer) = true)
    (a_is_tuple : PySem.W.nsIn K mainGlobals "is_tuple" = some (some (.ref f_is_tuple)))
    (l_is_tuple : K.lookup f_is_tuple = some ⟨oc_is_tuple, od_is_tuple, .func (PySem.W.fnOf "is_tuple" "is_tuple" (defArgs s_is_tuple) (defBody s_is_tuple) (defScope s_is_tuple) .none kV_is_tuple dc_is_tuple pm_is_tuple an_is_tuple cd_is_tuple ct_is_tuple), sl_is_tuple⟩)
    (c_is_tuple : PySem.W.codeIn K cd_is_tuple "is_tuple" = true)
    (k_is_tuple : PySem.W.keepIn K (.ref f_is_tuple) = true)
    (a_is_text : PySem.W.nsIn K mainGlobals "is_text" = some (some (.ref f_is_text)))
    (l_is_text : K.lookup f_is_text = some ⟨oc_is_text, od_is_text, .func (PySem.W.fnOf "is_text" "is_text" (defArgs s_is_text) (defBody s_is_text) (defScope s_is_text) .none kV_is_text dc_is_text pm_is_text an_is_text cd_is_text ct_is_text), sl_is_text⟩)
    (c_is_text : PySem.W.codeIn K cd_is_text "is_text" = true)
    (k_is_text : PySem.W.keepIn K (.ref f_is_text) = true)
    (a_check_text : PySem.W.nsIn K mainGlobals "check_text" = some (some (.ref f_check_text)))
    (l_check_text : K.lookup f_check_text = some ⟨oc_check_text, od_check_text, .func (PySem.W.fnOf "check_text" "check_text" (defArgs s_check_text) (defBody s_check_text) (defScope s_check_text) .none kV_check_text dc_check_text pm_check_text an_check_text cd_check_text ct_check_text), sl_check_text⟩)
    (c_check_text : PySem.W.codeIn K cd_check_text "check_text" = true)
    (k_check_text : PySem.W.keepIn K (.ref f_check_text) = true)
    (a_check_texts : PySem.W.nsIn K mainGlobals "check_texts" = some (some (.ref f_check_texts)))
    (l_check_texts : K.lookup f_check_texts = some ⟨oc_check_texts, od_check_texts, .func (PySem.W.fnOf "check_texts" "check_texts" (defArgs s_check_texts) (defBody s_check_texts) (defScope s_check_texts) .none kV_check_texts dc_check_texts pm_check_texts an_check_texts cd_check_texts ct_check_texts), sl_check_texts⟩)
    (c_check_texts : PySem.W.codeIn K cd_check_texts "check_texts" = true)
    (k_check_texts : PySem.W.keepIn K (.ref f_check_texts) = true)
    (a_check_namer : PySem.W.nsIn K mainGlobals "check_namer" = some (some (.ref f_check_namer)))
    (l_check_namer : K.lookup f_check_namer = some ⟨oc_check_namer, od_check_namer, .func (PySem.W.fnOf "check_namer" "check_namer" (defArgs s_check_namer) (defBody s_check_namer) (defScope s_check_namer) .none kV_check_namer dc_check_namer pm_check_namer an_check_namer cd_check_namer ct_check_namer), sl_check_namer⟩)
    (c_check_namer : PySem.W.codeIn K cd_check_namer "check_namer" = true)
    (k_check_namer : PySem.W.keepIn K (.ref f_check_namer) = true)
    (a_base_of : PySem.W.nsIn K mainGlobals "base_of" = some (some (.ref f_base_of)))
    (l_base_of : K.lookup f_base_of = some ⟨oc_base_of, od_base_of, .func (PySem.W.fnOf "base_of" "base_of" (defArgs s_base_of) (defBody s_base_of) (defScope s_base_of) .none kV_base_of dc_base_of pm_base_of an_base_of cd_base_of ct_base_of), sl_base_of⟩)
    (c_base_of : PySem.W.codeIn K cd_base_of "base_of" = true)
    (k_base_of : PySem.W.keepIn K (.ref f_base_of) = true)
    (a_numbered : PySem.W.nsIn K mainGlobals "numbered" = some (some (.ref f_numbered)))
    (l_numbered : K.lookup f_numbered = some ⟨oc_numbered, od_numbered, .func (PySem.W.fnOf "numbered" "numbered" (defArgs s_numbered) (defBody s_numbered) (defScope s_numbered) .none kV_numbered dc_numbered pm_numbered an_numbered cd_numbered ct_numbered), sl_numbered⟩)
    (c_numbered : PySem.W.codeIn K cd_numbered "numbered" = true)
    (k_numbered : PySem.W.keepIn K (.ref f_numbered) = true)
    (a_counted_name : PySem.W.nsIn K mainGlobals "counted_name" = some (some (.ref f_counted_name)))
    (l_counted_name : K.lookup f_counted_name = some ⟨oc_counted_name, od_counted_name, .func (PySem.W.fnOf "counted_name" "counted_name" (defArgs s_counted_name) (defBody s_counted_name) (defScope s_counted_name) .none kV_counted_name dc_counted_name pm_counted_name an_counted_name cd_counted_name ct_counted_name), sl_counted_name⟩)
    (c_counted_name : PySem.W.codeIn K cd_counted_name "counted_name" = true)
    (k_counted_name : PySem.W.keepIn K (.ref f_counted_name) = true)
    (a_free_name : PySem.W.nsIn K mainGlobals "free_name" = some (some (.ref f_free_name)))
    (l_free_name : K.lookup f_free_name = some ⟨oc_free_name, od_free_name, .func (PySem.W.fnOf "free_name" "free_name" (defArgs s_free_name) (defBody s_free_name) (defScope s_free_name) .none kV_free_name dc_free_name pm_free_name an_free_name cd_free_name ct_free_name), sl_free_name⟩)
    (c_free_name : PySem.W.codeIn K cd_free_name "free_name" = true)
    (k_free_name : PySem.W.keepIn K (.ref f_free_name) = true)
    (a_name_of_next : PySem.W.nsIn K mainGlobals "name_of_next" = some (some (.ref f_name_of_next)))
    (l_name_of_next : K.lookup f_name_of_next = some ⟨oc_name_of_next, od_name_of_next, .func (PySem.W.fnOf "name_of_next" "name_of_next" (defArgs s_name_of_next) (defBody s_name_of_next) (defScope s_name_of_next) .none kV_name_of_next dc_name_of_next pm_name_of_next an_name_of_next cd_name_of_next ct_name_of_next), sl_name_of_next⟩)
    (c_name_of_next : PySem.W.codeIn K cd_name_of_next "name_of_next" = true)
    (k_name_of_next : PySem.W.keepIn K (.ref f_name_of_next) = true)
    (a_named : PySem.W.nsIn K mainGlobals "named" = some (some (.ref f_named)))
    (l_named : K.lookup f_named = some ⟨oc_named, od_named, .func (PySem.W.fnOf "named" "named" (defArgs s_named) (defBody s_named) (defScope s_named) .none kV_named dc_named pm_named an_named cd_named ct_named), sl_named⟩)
    (c_named : PySem.W.codeIn K cd_named "named" = true)
    (k_named : PySem.W.keepIn K (.ref f_named) = true)
    (a_names : PySem.W.nsIn K mainGlobals "names" = some (some (.ref f_names)))
    (l_names : K.lookup f_names = some ⟨oc_names, od_names, .func (PySem.W.fnOf "names" "names" (defArgs s_names) (defBody s_names) (defScope s_names) .none kV_names dc_names pm_names an_names cd_names ct_names), sl_names⟩)
    (c_names : PySem.W.codeIn K cd_names "names" = true)
    (k_names : PySem.W.keepIn K (.ref f_names) = true)
    (a_within : PySem.W.nsIn K mainGlobals "within" = some (some (.ref f_within)))
    (l_within : K.lookup f_within = some ⟨oc_within, od_within, .func (PySem.W.fnOf "within" "within" (defArgs s_within) (defBody s_within) (defScope s_within) .none kV_within dc_within pm_within an_within cd_within ct_within), sl_within⟩)
    (c_within : PySem.W.codeIn K cd_within "within" = true)
    (k_within : PySem.W.keepIn K (.ref f_within) = true)
    (a_attempt : PySem.W.nsIn K mainGlobals "attempt" = some (some (.ref f_attempt)))
    (l_attempt : K.lookup f_attempt = some ⟨oc_attempt, od_attempt, .func (PySem.W.fnOf "attempt" "attempt" (defArgs s_attempt) (defBody s_attempt) (defScope s_attempt) .none kV_attempt dc_attempt pm_attempt an_attempt cd_attempt ct_attempt), sl_attempt⟩)
    (c_attempt : PySem.W.codeIn K cd_attempt "attempt" = true)
    (k_attempt : PySem.W.keepIn K (.ref f_attempt) = true)
    (a_law_source : PySem.W.nsIn K mainGlobals "_law_source" = some (some (.ref f_law_source)))
    (l_law_source : K.lookup f_law_source = some ⟨oc_law_source, od_law_source, .func (PySem.W.fnOf "_law_source" "_law_source" (defArgs s_law_source) (defBody s_law_source) (defScope s_law_source) .none kV_law_source dc_law_source pm_law_source an_law_source cd_law_source ct_law_source), sl_law_source⟩)
    (c_law_source : PySem.W.codeIn K cd_law_source "_law_source" = true)
    (k_law_source : PySem.W.keepIn K (.ref f_law_source) = true)
    (a_law_draw : PySem.W.nsIn K mainGlobals "_law_draw" = some (some (.ref f_law_draw)))
    (l_law_draw : K.lookup f_law_draw = some ⟨oc_law_draw, od_law_draw, .func (PySem.W.fnOf "_law_draw" "_law_draw" (defArgs s_law_draw) (defBody s_law_draw) (defScope s_law_draw) .none kV_law_draw dc_law_draw pm_law_draw an_law_draw cd_law_draw ct_law_draw), sl_law_draw⟩)
    (c_law_draw : PySem.W.codeIn K cd_law_draw "_law_draw" = true)
    (k_law_draw : PySem.W.keepIn K (.ref f_law_draw) = true)
    (a_law_one : PySem.W.nsIn K mainGlobals "_law_one" = some (some (.ref f_law_one)))
    (l_law_one : K.lookup f_law_one = some ⟨oc_law_one, od_law_one, .func (PySem.W.fnOf "_law_one" "_law_one" (defArgs s_law_one) (defBody s_law_one) (defScope s_law_one) .none kV_law_one dc_law_one pm_law_one an_law_one cd_law_one ct_law_one), sl_law_one⟩)
    (c_law_one : PySem.W.codeIn K cd_law_one "_law_one" = true)
    (k_law_one : PySem.W.keepIn K (.ref f_law_one) = true)
    (a_law_stem : PySem.W.nsIn K mainGlobals "_law_stem" = some (some (.ref f_law_stem)))
    (l_law_stem : K.lookup f_law_stem = some ⟨oc_law_stem, od_law_stem, .func (PySem.W.fnOf "_law_stem" "_law_stem" (defArgs s_law_stem) (defBody s_law_stem) (defScope s_law_stem) .none kV_law_stem dc_law_stem pm_law_stem an_law_stem cd_law_stem ct_law_stem), sl_law_stem⟩)
    (c_law_stem : PySem.W.codeIn K cd_law_stem "_law_stem" = true)
    (k_law_stem : PySem.W.keepIn K (.ref f_law_stem) = true)
    (a_law_word : PySem.W.nsIn K mainGlobals "_law_word" = some (some (.ref f_law_word)))
    (l_law_word : K.lookup f_law_word = some ⟨oc_law_word, od_law_word, .func (PySem.W.fnOf "_law_word" "_law_word" (defArgs s_law_word) (defBody s_law_word) (defScope s_law_word) .none kV_law_word dc_law_word pm_law_word an_law_word cd_law_word ct_law_word), sl_law_word⟩)
    (c_law_word : PySem.W.codeIn K cd_law_word "_law_word" = true)
    (k_law_word : PySem.W.keepIn K (.ref f_law_word) = true)
    (a_law_made : PySem.W.nsIn K mainGlobals "_law_made" = some (some (.ref f_law_made)))
    (l_law_made : K.lookup f_law_made = some ⟨oc_law_made, od_law_made, .func (PySem.W.fnOf "_law_made" "_law_made" (defArgs s_law_made) (defBody s_law_made) (defScope s_law_made) .none kV_law_made dc_law_made pm_law_made an_law_made cd_law_made ct_law_made), sl_law_made⟩)
    (c_law_made : PySem.W.codeIn K cd_law_made "_law_made" = true)
    (k_law_made : PySem.W.keepIn K (.ref f_law_made) = true)
    (a_law_due : PySem.W.nsIn K mainGlobals "_law_due" = some (some (.ref f_law_due)))
    (l_law_due : K.lookup f_law_due = some ⟨oc_law_due, od_law_due, .func (PySem.W.fnOf "_law_due" "_law_due" (defArgs s_law_due) (defBody s_law_due) (defScope s_law_due) .none kV_law_due dc_law_due pm_law_due an_law_due cd_law_due ct_law_due), sl_law_due⟩)
    (c_law_due : PySem.W.codeIn K cd_law_due "_law_due" = true)
    (k_law_due : PySem.W.keepIn K (.ref f_law_due) = true)
    (a_law_come : PySem.W.nsIn K mainGlobals "_law_come" = some (some (.ref f_law_come)))
    (l_law_come : K.lookup f_law_come = some ⟨oc_law_come, od_law_come, .func (PySem.W.fnOf "_law_come" "_law_come" (defArgs s_law_come) (defBody s_law_come) (defScope s_law_come) .none kV_law_come dc_law_come pm_law_come an_law_come cd_law_come ct_law_come), sl_law_come⟩)
    (c_law_come : PySem.W.codeIn K cd_law_come "_law_come" = true)
    (k_law_come : PySem.W.keepIn K (.ref f_law_come) = true)
    (a_law_gone : PySem.W.nsIn K mainGlobals "_law_gone" = some (some (.ref f_law_gone)))
    (l_law_gone : K.lookup f_law_gone = some ⟨oc_law_gone, od_law_gone, .func (PySem.W.fnOf "_law_gone" "_law_gone" (defArgs s_law_gone) (defBody s_law_gone) (defScope s_law_gone) .none kV_law_gone dc_law_gone pm_law_gone an_law_gone cd_law_gone ct_law_gone), sl_law_gone⟩)
    (c_law_gone : PySem.W.codeIn K cd_law_gone "_law_gone" = true)
    (k_law_gone : PySem.W.keepIn K (.ref f_law_gone) = true)
    (a_law_step : PySem.W.nsIn K mainGlobals "_law_step" = some (some (.ref f_law_step)))
    (l_law_step : K.lookup f_law_step = some ⟨oc_law_step, od_law_step, .func (PySem.W.fnOf "_law_step" "_law_step" (defArgs s_law_step) (defBody s_law_step) (defScope s_law_step) .none kV_law_step dc_law_step pm_law_step an_law_step cd_law_step ct_law_step), sl_law_step⟩)
    (c_law_step : PySem.W.codeIn K cd_law_step "_law_step" = true)
    (k_law_step : PySem.W.keepIn K (.ref f_law_step) = true)
    (a_law_right : PySem.W.nsIn K mainGlobals "_law_right" = some (some (.ref f_law_right)))
    (l_law_right : K.lookup f_law_right = some ⟨oc_law_right, od_law_right, .func (PySem.W.fnOf "_law_right" "_law_right" (defArgs s_law_right) (defBody s_law_right) (defScope s_law_right) .none kV_law_right dc_law_right pm_law_right an_law_right cd_law_right ct_law_right), sl_law_right⟩)
    (c_law_right : PySem.W.codeIn K cd_law_right "_law_right" = true)
    (k_law_right : PySem.W.keepIn K (.ref f_law_right) = true)
    (a_law : PySem.W.nsIn K mainGlobals "law" = some (some (.ref f_law)))
    (l_law : K.lookup f_law = some ⟨oc_law, od_law, .func (PySem.W.fnOf "law" "law" (defArgs s_law) (defBody s_law) (defScope s_law) .none kV_law dc_law pm_law an_law cd_law ct_law), sl_law⟩)
    (c_law : PySem.W.codeIn K cd_law "law" = true)
    (k_law : PySem.W.keepIn K (.ref f_law) = true)
    (qn : PySem.W.specialIn K (.builtin "object.__class__") "__get__" = some (some (.builtin "getset_descriptor.__get__")))
    (qt : PySem.W.takesIn K (.builtin "object.__class__") = some true)
    (anC : PySem.W.nsIn K mainGlobals "Namer" = some (some (.ref N)))
    (a_in : PySem.W.findIn K (.ref N) "__init__" = some (some (.ref f_in)))
    (l_in : K.lookup f_in = some ⟨oc_in, od_in, .func (PySem.W.fnOf "__init__" "Namer.__init__" (defArgs s_Namer_init) (defBody s_Namer_init) (defScope s_Namer_init) .none kV_in dc_in pm_in an_in cd_in ct_in), sl_in⟩)
    (c_in : PySem.W.codeIn K cd_in "Namer.__init__" = true)
    (k_in : PySem.W.keepIn K (.ref f_in) = true)
    (i_in : PySem.W.isFn K (.ref f_in) = true)
    (pgn : PySem.W.plainGet K N Str.empty = true)
    (hdn : PySem.W.hasDictIn K N = true)
    (pon : PySem.W.plainOver K N = true)
    (san : PySem.W.findIn K (.ref N) "__setattr__" = some (some (.builtin "object.__setattr__")))
    (mknC : PySem.W.makesIn K N = true)
    (knC : PySem.W.keepIn K (.ref N) = true)
    (nn_rule : PySem.W.findIn K (.ref N) "rule" = some none)
    (nn_width : PySem.W.findIn K (.ref N) "width" = some none)
    (qan : PySem.W.findIn K (.ref N) "__class__" = some (some (.builtin "object.__class__")))
    (qmn : PySem.W.mroIn K N (.type "object") = some true)
    (ahC : PySem.W.nsIn K mainGlobals "Shelf" = some (some (.ref C)))
    (a_ih : PySem.W.findIn K (.ref C) "__init__" = some (some (.ref f_ih)))
    (l_ih : K.lookup f_ih = some ⟨oc_ih, od_ih, .func (PySem.W.fnOf "__init__" "Shelf.__init__" (defArgs s_Shelf_init) (defBody s_Shelf_init) (defScope s_Shelf_init) .none kV_ih dc_ih pm_ih an_ih cd_ih ct_ih), sl_ih⟩)
    (c_ih : PySem.W.codeIn K cd_ih "Shelf.__init__" = true)
    (k_ih : PySem.W.keepIn K (.ref f_ih) = true)
    (i_ih : PySem.W.isFn K (.ref f_ih) = true)
    (pgh : PySem.W.plainGet K C Str.empty = true)
    (hdh : PySem.W.hasDictIn K C = true)
    (poh : PySem.W.plainOver K C = true)
    (sah : PySem.W.findIn K (.ref C) "__setattr__" = some (some (.builtin "object.__setattr__")))
    (mkhC : PySem.W.makesIn K C = true)
    (khC : PySem.W.keepIn K (.ref C) = true)
    (nh_namer : PySem.W.findIn K (.ref C) "namer" = some none)
    (nh_busy : PySem.W.findIn K (.ref C) "busy" = some none)
    (nh_texts : PySem.W.findIn K (.ref C) "texts" = some none)
    (nh_names : PySem.W.findIn K (.ref C) "names" = some none)
    (nh_past : PySem.W.findIn K (.ref C) "past" = some none)
    (qah : PySem.W.findIn K (.ref C) "__class__" = some (some (.builtin "object.__class__")))
    (qmh : PySem.W.mroIn K C (.type "object") = some true)
    (a_hm_become : PySem.W.findIn K (.ref C) "become" = some (some (.ref f_hm_become)))
    (l_hm_become : K.lookup f_hm_become = some ⟨oc_hm_become, od_hm_become, .func (PySem.W.fnOf "become" "Shelf.become" (defArgs s_Shelf_become) (defBody s_Shelf_become) (defScope s_Shelf_become) .none kV_hm_become dc_hm_become pm_hm_become an_hm_become cd_hm_become ct_hm_become), sl_hm_become⟩)
    (c_hm_become : PySem.W.codeIn K cd_hm_become "Shelf.become" = true)
    (k_hm_become : PySem.W.keepIn K (.ref f_hm_become) = true)
    (i_hm_become : PySem.W.isFn K (.ref f_hm_become) = true)
    (a_hm_let_come : PySem.W.findIn K (.ref C) "let_come" = some (some (.ref f_hm_let_come)))
    (l_hm_let_come : K.lookup f_hm_let_come = some ⟨oc_hm_let_come, od_hm_let_come, .func (PySem.W.fnOf "let_come" "Shelf.let_come" (defArgs s_Shelf_let_come) (defBody s_Shelf_let_come) (defScope s_Shelf_let_come) .none kV_hm_let_come dc_hm_let_come pm_hm_let_come an_hm_let_come cd_hm_let_come ct_hm_let_come), sl_hm_let_come⟩)
    (c_hm_let_come : PySem.W.codeIn K cd_hm_let_come "Shelf.let_come" = true)
    (k_hm_let_come : PySem.W.keepIn K (.ref f_hm_let_come) = true)
    (i_hm_let_come : PySem.W.isFn K (.ref f_hm_let_come) = true)
    (a_hm_let_go : PySem.W.findIn K (.ref C) "let_go" = some (some (.ref f_hm_let_go)))
    (l_hm_let_go : K.lookup f_hm_let_go = some ⟨oc_hm_let_go, od_hm_let_go, .func (PySem.W.fnOf "let_go" "Shelf.let_go" (defArgs s_Shelf_let_go) (defBody s_Shelf_let_go) (defScope s_Shelf_let_go) .none kV_hm_let_go dc_hm_let_go pm_hm_let_go an_hm_let_go cd_hm_let_go ct_hm_let_go), sl_hm_let_go⟩)
    (c_hm_let_go : PySem.W.codeIn K cd_hm_let_go "Shelf.let_go" = true)
    (k_hm_let_go : PySem.W.keepIn K (.ref f_hm_let_go) = true)
    (i_hm_let_go : PySem.W.isFn K (.ref f_hm_let_go) = true)
    (a_hm_check_not_busy : PySem.W.findIn K (.ref C) "check_not_busy" = some (some (.ref f_hm_check_not_busy)))
    (l_hm_check_not_busy : K.lookup f_hm_check_not_busy = some ⟨oc_hm_check_not_busy, od_hm_check_not_busy, .func (PySem.W.fnOf "check_not_busy" "Shelf.check_not_busy" (defArgs s_Shelf_check_not_busy) (defBody s_Shelf_check_not_busy) (defScope s_Shelf_check_not_busy) .none kV_hm_check_not_busy dc_hm_check_not_busy pm_hm_check_not_busy an_hm_check_not_busy cd_hm_check_not_busy ct_hm_check_not_busy), sl_hm_check_not_busy⟩)
    (c_hm_check_not_busy : PySem.W.codeIn K cd_hm_check_not_busy "Shelf.check_not_busy" = true)
    (k_hm_check_not_busy : PySem.W.keepIn K (.ref f_hm_check_not_busy) = true)
    (i_hm_check_not_busy : PySem.W.isFn K (.ref f_hm_check_not_busy) = true)
    (a_hm_add : PySem.W.findIn K (.ref C) "add" = some (some (.ref f_hm_add)))
    (l_hm_add : K.lookup f_hm_add = some ⟨oc_hm_add, od_hm_add, .func (PySem.W.fnOf "add" "Shelf.add" (defArgs s_Shelf_add) (defBody s_Shelf_add) (defScope s_Shelf_add) .none kV_hm_add dc_hm_add pm_hm_add an_hm_add cd_hm_add ct_hm_add), sl_hm_add⟩)
    (c_hm_add : PySem.W.codeIn K cd_hm_add "Shelf.add" = true)
    (k_hm_add : PySem.W.keepIn K (.ref f_hm_add) = true)
    (i_hm_add : PySem.W.isFn K (.ref f_hm_add) = true)
    (a_hm_remove : PySem.W.findIn K (.ref C) "remove" = some (some (.ref f_hm_remove)))
    (l_hm_remove : K.lookup f_hm_remove = some ⟨oc_hm_remove, od_hm_remove, .func (PySem.W.fnOf "remove" "Shelf.remove" (defArgs s_Shelf_remove) (defBody s_Shelf_remove) (defScope s_Shelf_remove) .none kV_hm_remove dc_hm_remove pm_hm_remove an_hm_remove cd_hm_remove ct_hm_remove), sl_hm_remove⟩)
    (c_hm_remove : PySem.W.codeIn K cd_hm_remove "Shelf.remove" = true)
    (k_hm_remove : PySem.W.keepIn K (.ref f_hm_remove) = true)
    (i_hm_remove : PySem.W.isFn K (.ref f_hm_remove) = true)
    (a_hm_undo : PySem.W.findIn K (.ref C) "undo" = some (some (.ref f_hm_undo)))
    (l_hm_undo : K.lookup f_hm_undo = some ⟨oc_hm_undo, od_hm_undo, .func (PySem.W.fnOf "undo" "Shelf.undo" (defArgs s_Shelf_undo) (defBody s_Shelf_undo) (defScope s_Shelf_undo) .none kV_hm_undo dc_hm_undo pm_hm_undo an_hm_undo cd_hm_undo ct_hm_undo), sl_hm_undo⟩)
    (c_hm_undo : PySem.W.codeIn K cd_hm_undo "Shelf.undo" = true)
    (k_hm_undo : PySem.W.keepIn K (.ref f_hm_undo) = true)
    (i_hm_undo : PySem.W.isFn K (.ref f_hm_undo) = true)
    (a_hm_trial : PySem.W.findIn K (.ref C) "trial" = some (some (.ref f_hm_trial)))
    (l_hm_trial : K.lookup f_hm_trial = some ⟨oc_hm_trial, od_hm_trial, .func (PySem.W.fnOf "trial" "Shelf.trial" (defArgs s_Shelf_trial) (defBody s_Shelf_trial) (defScope s_Shelf_trial) .none kV_hm_trial dc_hm_trial pm_hm_trial an_hm_trial cd_hm_trial ct_hm_trial), sl_hm_trial⟩)
    (c_hm_trial : PySem.W.codeIn K cd_hm_trial "Shelf.trial" = true)
    (k_hm_trial : PySem.W.keepIn K (.ref f_hm_trial) = true)
    (i_hm_trial : PySem.W.isFn K (.ref f_hm_trial) = true)
    (a_hlen : PySem.W.findIn K (.ref C) "__len__" = some (some (.ref f_hlen)))
    (l_hlen : K.lookup f_hlen = some ⟨oc_hlen, od_hlen, .func (PySem.W.fnOf "__len__" "Shelf.__len__" (defArgs s_Shelf_len) (defBody s_Shelf_len) (defScope s_Shelf_len) .none kV_hlen dc_hlen pm_hlen an_hlen cd_hlen ct_hlen), sl_hlen⟩)
    (c_hlen : PySem.W.codeIn K cd_hlen "Shelf.__len__" = true)
    (k_hlen : PySem.W.keepIn K (.ref f_hlen) = true)
    (i_hlen : PySem.W.isFn K (.ref f_hlen) = true)
    (atC : PySem.W.nsIn K mainGlobals "Trial" = some (some (.ref Ct)))
    (a_it : PySem.W.findIn K (.ref Ct) "__init__" = some (some (.ref f_it)))
    (l_it : K.lookup f_it = some ⟨oc_it, od_it, .func (PySem.W.fnOf "__init__" "Trial.__init__" (defArgs s_Trial_init) (defBody s_Trial_init) (defScope s_Trial_init) .none kV_it dc_it pm_it an_it cd_it ct_it), sl_it⟩)
    (c_it : PySem.W.codeIn K cd_it "Trial.__init__" = true)
    (k_it : PySem.W.keepIn K (.ref f_it) = true)
    (i_it : PySem.W.isFn K (.ref f_it) = true)
    (pgt : PySem.W.plainGet K Ct Str.empty = true)
    (hdt : PySem.W.hasDictIn K Ct = true)
    (pot : PySem.W.plainOver K Ct = true)
    (sat : PySem.W.findIn K (.ref Ct) "__setattr__" = some (some (.builtin "object.__setattr__")))
    (mktC : PySem.W.makesIn K Ct = true)
    (ktC : PySem.W.keepIn K (.ref Ct) = true)
    (nt_shelf : PySem.W.findIn K (.ref Ct) "shelf" = some none)
    (nt_entry : PySem.W.findIn K (.ref Ct) "entry" = some none)
    (a_tm___enter__ : PySem.W.findIn K (.ref Ct) "__enter__" = some (some (.ref f_tm___enter__)))
    (l_tm___enter__ : K.lookup f_tm___enter__ = some ⟨oc_tm___enter__, od_tm___enter__, .func (PySem.W.fnOf "__enter__" "Trial.__enter__" (defArgs s_Trial_enter) (defBody s_Trial_enter) (defScope s_Trial_enter) .none kV_tm___enter__ dc_tm___enter__ pm_tm___enter__ an_tm___enter__ cd_tm___enter__ ct_tm___enter__), sl_tm___enter__⟩)
    (c_tm___enter__ : PySem.W.codeIn K cd_tm___enter__ "Trial.__enter__" = true)
    (k_tm___enter__ : PySem.W.keepIn K (.ref f_tm___enter__) = true)
    (i_tm___enter__ : PySem.W.isFn K (.ref f_tm___enter__) = true)
    (a_tm___exit__ : PySem.W.findIn K (.ref Ct) "__exit__" = some (some (.ref f_tm___exit__)))
    (l_tm___exit__ : K.lookup f_tm___exit__ = some ⟨oc_tm___exit__, od_tm___exit__, .func (PySem.W.fnOf "__exit__" "Trial.__exit__" (defArgs s_Trial_exit) (defBody s_Trial_exit) (defScope s_Trial_exit) .none kV_tm___exit__ dc_tm___exit__ pm_tm___exit__ an_tm___exit__ cd_tm___exit__ ct_tm___exit__), sl_tm___exit__⟩)
    (c_tm___exit__ : PySem.W.codeIn K cd_tm___exit__ "Trial.__exit__" = true)
    (k_tm___exit__ : PySem.W.keepIn K (.ref f_tm___exit__) = true)
    (i_tm___exit__ : PySem.W.isFn K (.ref f_tm___exit__) = true)
    (aeC : PySem.W.nsIn K mainGlobals "Entry" = some (some (.ref Ce)))
    (a_ie : PySem.W.findIn K (.ref Ce) "__init__" = some (some (.ref f_ie)))
    (l_ie : K.lookup f_ie = some ⟨oc_ie, od_ie, .func (PySem.W.fnOf "__init__" "Entry.__init__" (defArgs s_Entry_init) (defBody s_Entry_init) (defScope s_Entry_init) .none kV_ie dc_ie pm_ie an_ie cd_ie ct_ie), sl_ie⟩)
    (c_ie : PySem.W.codeIn K cd_ie "Entry.__init__" = true)
    (k_ie : PySem.W.keepIn K (.ref f_ie) = true)
    (i_ie : PySem.W.isFn K (.ref f_ie) = true)
    (pge : PySem.W.plainGet K Ce Str.empty = true)
    (hde : PySem.W.hasDictIn K Ce = true)
    (poe : PySem.W.plainOver K Ce = true)
    (sae : PySem.W.findIn K (.ref Ce) "__setattr__" = some (some (.builtin "object.__setattr__")))
    (mkeC : PySem.W.makesIn K Ce = true)
    (keC : PySem.W.keepIn K (.ref Ce) = true)
    (ne_texts : PySem.W.findIn K (.ref Ce) "texts" = some none)
    (ne_names : PySem.W.findIn K (.ref Ce) "names" = some none)
    (ne_past : PySem.W.findIn K (.ref Ce) "past" = some none)
    (ne_outer : PySem.W.findIn K (.ref Ce) "outer" = some none)
    (tab_law_right : PySem.W.tabIn K "_law_right" = some (cc_law_right, PP_law_right))
    (cde_law_right : cd_law_right = .ref cc_law_right)
    (notab_law_right : K.lookup PP_law_right = none)
    (rec_law_right : (recsOf q).find? (fun e => e.name == ("_law_right" : Str)) = some rd_law_right)
    (z_ArithmeticError : PySem.W.nsIn K mainGlobals "ArithmeticError" = some none)
    (z_LookupError : PySem.W.nsIn K mainGlobals "LookupError" = some none)
    (z_ValueError : PySem.W.nsIn K mainGlobals "ValueError" = some none)
    (z_abs : PySem.W.nsIn K mainGlobals "abs" = some none)
    (z_all : PySem.W.nsIn K mainGlobals "all" = some none)
    (z_bool : PySem.W.nsIn K mainGlobals "bool" = some none)
    (z_divmod : PySem.W.nsIn K mainGlobals "divmod" = some none)
    (z_enumerate : PySem.W.nsIn K mainGlobals "enumerate" = some none)
    (z_int : PySem.W.nsIn K mainGlobals "int" = some none)
    (z_isinstance : PySem.W.nsIn K mainGlobals "isinstance" = some none)
    (z_len : PySem.W.nsIn K mainGlobals "len" = some none)
    (z_list : PySem.W.nsIn K mainGlobals "list" = some none)
    (z_max : PySem.W.nsIn K mainGlobals "max" = some none)
    (z_min : PySem.W.nsIn K mainGlobals "min" = some none)
    (z_range : PySem.W.nsIn K mainGlobals "range" = some none)
    (z_set : PySem.W.nsIn K mainGlobals "set" = some none)
    (z_str : PySem.W.nsIn K mainGlobals "str" = some none)
    (z_tuple : PySem.W.nsIn K mainGlobals "tuple" = some none)
    (z_MOST_SIGNS : PySem.W.nsIn K mainGlobals "MOST_SIGNS" = some (some (.int 40 u_MOST_SIGNS)))
    (z_MOST_TEXT : PySem.W.nsIn K mainGlobals "MOST_TEXT" = some (some (.int 200 u_MOST_TEXT)))
    (z_MOST_LISTED : PySem.W.nsIn K mainGlobals "MOST_LISTED" = some (some (.int 6 u_MOST_LISTED)))
    (z_MOST_SHELVED : PySem.W.nsIn K mainGlobals "MOST_SHELVED" = some (some (.int 20 u_MOST_SHELVED)))
    (z_SIGNS : PySem.W.nsIn K mainGlobals "SIGNS" = some (some (.str ".0123456789abcdefghijklmnopqrstuvwxyz~" u_SIGNS)))
    (z_RULES : PySem.W.nsIn K mainGlobals "RULES" = some (some (.ref T_RULES)))
    (zl_RULES : K.lookup T_RULES = some ⟨.type "tuple", td_RULES, .seq #[.str "count" e_RULES_0, .str "free" e_RULES_1, .str "tight" e_RULES_2] tn_RULES, ts_RULES⟩)
    (z_LEAST_WIDTH : PySem.W.nsIn K mainGlobals "LEAST_WIDTH" = some (some (.int 6 u_LEAST_WIDTH)))
    (z_DEED_WORDS : PySem.W.nsIn K mainGlobals "DEED_WORDS" = some (some (.ref T_DEED_WORDS)))
    (zl_DEED_WORDS : K.lookup T_DEED_WORDS = some ⟨.type "tuple", td_DEED_WORDS, .seq #[.str "add" e_DEED_WORDS_0, .str "remove" e_DEED_WORDS_1] tn_DEED_WORDS, ts_DEED_WORDS⟩) :
    ∃ (fd : FuncData) (cs : List (Addr × Addr)) (sp : Sp), (∀ p ∈ cs, PySem.W.CodeHd h p.1 p.2 ∧ h.get? p.2 = some tabNil ∧ K.lookup p.2 = none) ∧ (∀ (s : Shared) (u : Value), BindsTo s fd ⟨[u], []⟩ [("_law_script", u)]) ∧ (∀ (H : Hp) (a : Addr) (ns : List Int), ns.length ≤ 63 → (∀ p ∈ cs, H p.2 = some (.tbl #[])) → Sys H → SqL K H a (ns.map V.int) → sp [.ref a] H (fun v _ => v = .bl true) fun _ _ _ => False) ∧ ∀ base : Heap, K.In base → base.Ns mainGlobals mg → (∀ p ∈ cs, LamX.TabB base mg p.1 p.2) → FnG l.prog w K mg base 10 fa fd ["_law_script"] sp := by
  have e := hfa.symm.trans (PySem.W.mg_of X G a_law)
  cases e
  have B : Bi mg := ⟨PySem.W.mg_none_of X G z_ArithmeticError, PySem.W.mg_none_of X G z_LookupError, PySem.W.mg_none_of X G z_ValueError, PySem.W.mg_none_of X G z_abs, PySem.W.mg_none_of X G z_all, PySem.W.mg_none_of X G z_bool, PySem.W.mg_none_of X G z_divmod, PySem.W.mg_none_of X G z_enumerate, PySem.W.mg_none_of X G z_int, PySem.W.mg_none_of X G z_isinstance, PySem.W.mg_none_of X G z_len, PySem.W.mg_none_of X G z_list, PySem.W.mg_none_of X G z_max, PySem.W.mg_none_of X G z_min, PySem.W.mg_none_of X G z_range, PySem.W.mg_none_of X G z_set, PySem.W.mg_none_of X G z_str, PySem.W.mg_none_of X G z_tuple, cst_mk X G ⟨_, rfl⟩ z_MOST_SIGNS, cst_mk X G ⟨_, rfl⟩ z_MOST_TEXT, cst_mk X G ⟨_, rfl⟩ z_MOST_LISTED, cst_mk X G ⟨_, rfl⟩ z_MOST_SHELVED, cst_mk X G ⟨_, rfl⟩ z_SIGNS, cst_mk X G ⟨_, rfl⟩ z_LEAST_WIDTH⟩
  have Sn : NmC K mg N := ⟨⟨pgn, hdn, pon, san⟩, nn_rule, nn_width, PySem.W.mg_of X G anC, qan, qn, qt, qmn, if_pos (beq_self_eq_true _), ⟨T_RULES, PySem.W.mg_of X G z_RULES, fun H => .inr ⟨_, _, _, zl_RULES, rfl, rfl, by show 3 ≤ sizeLine; decide, (.cons ⟨_, rfl⟩ (.cons ⟨_, rfl⟩ (.cons ⟨_, rfl⟩ .nil)))⟩⟩⟩
  have In : NInitAt K N := ⟨f_in, _, ⟨mknC, a_in, i_in, knC⟩, fun_mk l_in c_in k_in, (fun_mk l_in c_in k_in).binds fun _ _ _ _ _ _ us hl => match us, hl with | [_, _, _], _ => rfl⟩
  have Sh : ShlC K mg C := ⟨⟨pgh, hdh, poh, sah⟩, nh_namer, nh_busy, nh_texts, nh_names, nh_past, PySem.W.mg_of X G ahC⟩
  have D_Shelf_become : MethAt K C "become" "Shelf.become" s_Shelf_become ps_Shelf_become := ⟨f_hm_become, _, ⟨a_hm_become, i_hm_become, k_hm_become⟩, fun_mk l_hm_become c_hm_become k_hm_become, (fun_mk l_hm_become c_hm_become k_hm_become).binds fun _ _ _ _ _ _ us hl => match us, hl with | [_, _, _], _ => rfl⟩
  have D_Shelf_let_come : MethAt K C "let_come" "Shelf.let_come" s_Shelf_let_come ps_Shelf_let_come := ⟨f_hm_let_come, _, ⟨a_hm_let_come, i_hm_let_come, k_hm_let_come⟩, fun_mk l_hm_let_come c_hm_let_come k_hm_let_come, (fun_mk l_hm_let_come c_hm_let_come k_hm_let_come).binds fun _ _ _ _ _ _ us hl => match us, hl with | [_, _], _ => rfl⟩
  have D_Shelf_let_go : MethAt K C "let_go" "Shelf.let_go" s_Shelf_let_go ps_Shelf_let_go := ⟨f_hm_let_go, _, ⟨a_hm_let_go, i_hm_let_go, k_hm_let_go⟩, fun_mk l_hm_let_go c_hm_let_go k_hm_let_go, (fun_mk l_hm_let_go c_hm_let_go k_hm_let_go).binds fun _ _ _ _ _ _ us hl => match us, hl with | [_, _], _ => rfl⟩
  have D_Shelf_check_not_busy : MethAt K C "check_not_busy" "Shelf.check_not_busy" s_Shelf_check_not_busy ps_Shelf_check_not_busy := ⟨f_hm_check_not_busy, _, ⟨a_hm_check_not_busy, i_hm_check_not_busy, k_hm_check_not_busy⟩, fun_mk l_hm_check_not_busy c_hm_check_not_busy k_hm_check_not_busy, (fun_mk l_hm_check_not_busy c_hm_check_not_busy k_hm_check_not_busy).binds fun _ _ _ _ _ _ us hl => match us, hl with | [_], _ => rfl⟩
  have D_Shelf_add : MethAt K C "add" "Shelf.add" s_Shelf_add ps_Shelf_add := ⟨f_hm_add, _, ⟨a_hm_add, i_hm_add, k_hm_add⟩, fun_mk l_hm_add c_hm_add k_hm_add, (fun_mk l_hm_add c_hm_add k_hm_add).binds fun _ _ _ _ _ _ us hl => match us, hl with | [_, _], _ => rfl⟩
  have D_Shelf_remove : MethAt K C "remove" "Shelf.remove" s_Shelf_remove ps_Shelf_remove := ⟨f_hm_remove, _, ⟨a_hm_remove, i_hm_remove, k_hm_remove⟩, fun_mk l_hm_remove c_hm_remove k_hm_remove, (fun_mk l_hm_remove c_hm_remove k_hm_remove).binds fun _ _ _ _ _ _ us hl => match us, hl with | [_, _], _ => rfl⟩
  have D_Shelf_undo : MethAt K C "undo" "Shelf.undo" s_Shelf_undo ps_Shelf_undo := ⟨f_hm_undo, _, ⟨a_hm_undo, i_hm_undo, k_hm_undo⟩, fun_mk l_hm_undo c_hm_undo k_hm_undo, (fun_mk l_hm_undo c_hm_undo k_hm_undo).binds fun _ _ _ _ _ _ us hl => match us, hl with | [_], _ => rfl⟩
  have D_Shelf_trial : MethAt K C "trial" "Shelf.trial" s_Shelf_trial ps_Shelf_trial := ⟨f_hm_trial, _, ⟨a_hm_trial, i_hm_trial, k_hm_trial⟩, fun_mk l_hm_trial c_hm_trial k_hm_trial, (fun_mk l_hm_trial c_hm_trial k_hm_trial).binds fun _ _ _ _ _ _ us hl => match us, hl with | [_], _ => rfl⟩
  have D_Shelf_len : LenFn K C := ⟨f_hlen, _, a_hlen, i_hlen, fun_mk l_hlen c_hlen k_hlen, (fun_mk l_hlen c_hlen k_hlen).binds fun _ _ _ _ _ _ us hl => match us, hl with | [_], _ => rfl⟩
  have Yh : ShlI K C := ⟨fun e => .base (.ins e ⟨pgh, hdh, poh, sah⟩ qah qn qt qmh), if_pos (beq_self_eq_true _), .own _⟩
  have Ih : ShInitAt K C := ⟨f_ih, _, ⟨mkhC, a_ih, i_ih, khC⟩, fun_mk l_ih c_ih k_ih, (fun_mk l_ih c_ih k_ih).binds fun _ _ _ _ _ _ us hl => match us, hl with | [_, _], _ => rfl⟩
  have St : TriC K mg Ct := ⟨⟨pgt, hdt, pot, sat⟩, nt_shelf, nt_entry, PySem.W.mg_of X G atC⟩
  have D_Trial_enter : MethAt K Ct "__enter__" "Trial.__enter__" s_Trial_enter ps_Trial_enter := ⟨f_tm___enter__, _, ⟨a_tm___enter__, i_tm___enter__, k_tm___enter__⟩, fun_mk l_tm___enter__ c_tm___enter__ k_tm___enter__, (fun_mk l_tm___enter__ c_tm___enter__ k_tm___enter__).binds fun _ _ _ _ _ _ us hl => match us, hl with | [_], _ => rfl⟩
  have D_Trial_exit : MethAt K Ct "__exit__" "Trial.__exit__" s_Trial_exit ps_Trial_exit := ⟨f_tm___exit__, _, ⟨a_tm___exit__, i_tm___exit__, k_tm___exit__⟩, fun_mk l_tm___exit__ c_tm___exit__ k_tm___exit__, (fun_mk l_tm___exit__ c_tm___exit__ k_tm___exit__).binds fun _ _ _ _ _ _ us hl => match us, hl with | [_, _, _, _], _ => rfl⟩
  have It : TriInitAt K Ct := ⟨f_it, _, ⟨mktC, a_it, i_it, ktC⟩, fun_mk l_it c_it k_it, (fun_mk l_it c_it k_it).binds fun _ _ _ _ _ _ us hl => match us, hl with | [_, _], _ => rfl⟩
  have Se : EntC K mg Ce := ⟨⟨pge, hde, poe, sae⟩, ne_texts, ne_names, ne_past, ne_outer, PySem.W.mg_of X G aeC⟩
  have Ie : EntInitAt K Ce := ⟨f_ie, _, ⟨mkeC, a_ie, i_ie, keC⟩, fun_mk l_ie c_ie k_ie, (fun_mk l_ie c_ie k_ie).binds fun _ _ _ _ _ _ us hl => match us, hl with | [_, _, _], _ => rfl⟩
  have AC_law_right : AtC K mg "_law_right" s_law_right ps_law_right cc_law_right := ⟨f_law_right, _, fun_mk l_law_right c_law_right k_law_right, (fun_mk l_law_right c_law_right k_law_right).binds (fun _ _ _ _ _ _ us hl => match us, hl with | [_], _ => rfl), PySem.W.mg_of X G a_law_right, cde_law_right⟩
  have TO_law_right := TO "_law_right" rd_law_right cc_law_right PP_law_right rec_law_right tab_law_right
  have A_is_integer : At K mg "is_integer" s_is_integer ps_is_integer := at_mk X G (fun _ _ _ _ _ _ us hl => match us, hl with | [_, _, _], _ => rfl) a_is_integer l_is_integer c_is_integer k_is_integer
  have A_is_tuple : At K mg "is_tuple" s_is_tuple ps_is_tuple := at_mk X G (fun _ _ _ _ _ _ us hl => match us, hl with | [_, _, _], _ => rfl) a_is_tuple l_is_tuple c_is_tuple k_is_tuple
  have A_is_text : At K mg "is_text" s_is_text ps_is_text := at_mk X G (fun _ _ _ _ _ _ us hl => match us, hl with | [_, _], _ => rfl) a_is_text l_is_text c_is_text k_is_text
  have A_check_text : At K mg "check_text" s_check_text ps_check_text := at_mk X G (fun _ _ _ _ _ _ us hl => match us, hl with | [_], _ => rfl) a_check_text l_check_text c_check_text k_check_text
  have A_check_texts : At K mg "check_texts" s_check_texts ps_check_texts := at_mk X G (fun _ _ _ _ _ _ us hl => match us, hl with | [_, _], _ => rfl) a_check_texts l_check_texts c_check_texts k_check_texts
  have A_check_namer : At K mg "check_namer" s_check_namer ps_check_namer := at_mk X G (fun _ _ _ _ _ _ us hl => match us, hl with | [_], _ => rfl) a_check_namer l_check_namer c_check_namer k_check_namer
  have A_base_of : At K mg "base_of" s_base_of ps_base_of := at_mk X G (fun _ _ _ _ _ _ us hl => match us, hl with | [_, _], _ => rfl) a_base_of l_base_of c_base_of k_base_of
  have A_numbered : At K mg "numbered" s_numbered ps_numbered := at_mk X G (fun _ _ _ _ _ _ us hl => match us, hl with | [_, _, _], _ => rfl) a_numbered l_numbered c_numbered k_numbered
  have A_counted_name : At K mg "counted_name" s_counted_name ps_counted_name := at_mk X G (fun _ _ _ _ _ _ us hl => match us, hl with | [_, _, _], _ => rfl) a_counted_name l_counted_name c_counted_name k_counted_name
  have A_free_name : At K mg "free_name" s_free_name ps_free_name := at_mk X G (fun _ _ _ _ _ _ us hl => match us, hl with | [_, _, _], _ => rfl) a_free_name l_free_name c_free_name k_free_name
  have A_name_of_next : At K mg "name_of_next" s_name_of_next ps_name_of_next := at_mk X G (fun _ _ _ _ _ _ us hl => match us, hl with | [_, _, _, _], _ => rfl) a_name_of_next l_name_of_next c_name_of_next k_name_of_next
  have A_named : At K mg "named" s_named ps_named := at_mk X G (fun _ _ _ _ _ _ us hl => match us, hl with | [_, _], _ => rfl) a_named l_named c_named k_named
  have A_names : At K mg "names" s_names ps_names := at_mk X G (fun _ _ _ _ _ _ us hl => match us, hl with | [_, _], _ => rfl) a_names l_names c_names k_names
  have A_within : At K mg "within" s_within ps_within := at_mk X G (fun _ _ _ _ _ _ us hl => match us, hl with | [_, _], _ => rfl) a_within l_within c_within k_within
  have A_attempt : At K mg "attempt" s_attempt ps_attempt := at_mk X G (fun _ _ _ _ _ _ us hl => match us, hl with | [_, _], _ => rfl) a_attempt l_attempt c_attempt k_attempt
  have A_law_source : At K mg "_law_source" s_law_source ps_law_source := at_mk X G (fun _ _ _ _ _ _ us hl => match us, hl with | [_, _], _ => rfl) a_law_source l_law_source c_law_source k_law_source
  have A_law_draw : At K mg "_law_draw" s_law_draw ps_law_draw := at_mk X G (fun _ _ _ _ _ _ us hl => match us, hl with | [_, _], _ => rfl) a_law_draw l_law_draw c_law_draw k_law_draw
  have A_law_one : At K mg "_law_one" s_law_one ps_law_one := at_mk X G (fun _ _ _ _ _ _ us hl => match us, hl with | [_, _], _ => rfl) a_law_one l_law_one c_law_one k_law_one
  have A_law_stem : At K mg "_law_stem" s_law_stem ps_law_stem := at_mk X G (fun _ _ _ _ _ _ us hl => match us, hl with | [_, _], _ => rfl) a_law_stem l_law_stem c_law_stem k_law_stem
  have A_law_word : At K mg "_law_word" s_law_word ps_law_word := at_mk X G (fun _ _ _ _ _ _ us hl => match us, hl with | [_, _], _ => rfl) a_law_word l_law_word c_law_word k_law_word
  have A_law_made : At K mg "_law_made" s_law_made ps_law_made := at_mk X G (fun _ _ _ _ _ _ us hl => match us, hl with | [_, _, _, _], _ => rfl) a_law_made l_law_made c_law_made k_law_made
  have A_law_due : At K mg "_law_due" s_law_due ps_law_due := at_mk X G (fun _ _ _ _ _ _ us hl => match us, hl with | [_, _, _, _], _ => rfl) a_law_due l_law_due c_law_due k_law_due
  have A_law_come : At K mg "_law_come" s_law_come ps_law_come := at_mk X G (fun _ _ _ _ _ _ us hl => match us, hl with | [_, _, _, _], _ => rfl) a_law_come l_law_come c_law_come k_law_come
  have A_law_gone : At K mg "_law_gone" s_law_gone ps_law_gone := at_mk X G (fun _ _ _ _ _ _ us hl => match us, hl with | [_, _], _ => rfl) a_law_gone l_law_gone c_law_gone k_law_gone
  have A_law_step : At K mg "_law_step" s_law_step ps_law_step := at_mk X G (fun _ _ _ _ _ _ us hl => match us, hl with | [_, _, _, _, _], _ => rfl) a_law_step l_law_step c_law_step k_law_step
  refine ⟨PySem.W.fnOf "law" "law" (defArgs s_law) (defBody s_law) (defScope s_law) .none kV_law dc_law pm_law an_law cd_law ct_law, [(cc_law_right, PP_law_right)], spLawT [(PP_law_right, lamQ_law_right)] K, fun p hp => by
      simp only [List.mem_cons, List.not_mem_nil, or_false] at hp
      subst hp
      exact ⟨TO_law_right.1, TO_law_right.2, notab_law_right⟩
, fun s v => .of_eq rfl, fun H a ns hl hT hY hS => ⟨a, ns, rfl, hS, hl, fun p hp => ?_, hY, fun _ => rfl⟩, fun base _ _ tb => ?_⟩
  · simp only [List.mem_cons, List.not_mem_nil, or_false] at hp
    subst hp
    exact LamX.TabS.nil (hT (cc_law_right, PP_law_right) (by simp))
  · exact fin B   AC_law_right (tb (cc_law_right, PP_law_right) (by simp)) Sn In Sh Ih Yh D_Shelf_become D_Shelf_let_come D_Shelf_let_go D_Shelf_check_not_busy D_Shelf_add D_Shelf_remove D_Shelf_undo D_Shelf_trial D_Shelf_len St It D_Trial_enter D_Trial_exit Se Ie A_is_integer A_is_tuple A_is_text A_check_text A_check_texts A_check_namer A_base_of A_numbered A_counted_name A_free_name A_name_of_next A_named A_names A_within A_attempt A_law_source A_law_draw A_law_one A_law_stem A_law_word A_law_made A_law_due A_law_come A_law_gone A_law_step (fun_mk l_law c_law k_law)
end Gu
open PySem PySem.W PyProof.Rows
set_option maxHeartbeats 0 in
theorem PySem.Challenge.cw_shownshort_k52_whole_names_on_shelves_holds : PySem.Challenge.rw_shownshort_k52_whole_names_on_shelves.Holds := by
  w_on; o_law; k_head; (case hw => w_witness2)
  k_fill
  refine Gu.walkGT (l := PySem.Challenge.rw_shownshort_k52_whole_names_on_shelves) (n := 63) (k := 10) (x := "_law_script") rfl (by decide) rfl ⟨rfl, by decide, by decide⟩ ?alone ?noSys (fun w h Y => PySem.W.km_in_of Y) ?F
  case alone => first | rfl | decide +kernel
  case noSys => first | (intro w; rfl) | (intro w; k_is)
  case F =>
    intro w mg fa h KX G TO hmg
    refine' Gu.all_mk KX G TO hmg ?a_is_integer ?l_is_integer ?c_is_integer ?k_is_integer ?a_is_tuple ?l_is_tuple ?c_is_tuple ?k_is_tuple ?a_is_text ?l_is_text ?c_is_text ?k_is_text ?a_check_text ?l_check_text ?c_check_text ?k_check_text ?a_check_texts ?l_check_texts ?c_check_texts ?k_check_texts ?a_check_namer ?l_check_namer ?c_check_namer ?k_check_namer ?a_base_of ?l_base_of ?c_base_of ?k_base_of ?a_numbered ?l_numbered ?c_numbered ?k_numbered ?a_counted_name ?l_counted_name ?c_counted_name ?k_counted_name ?a_free_name ?l_free_name ?c_free_name ?k_free_name ?a_name_of_next ?l_name_of_next ?c_name_of_next ?k_name_of_next ?a_named ?l_named ?c_named ?k_named ?a_names ?l_names ?c_names ?k_names ?a_within ?l_within ?c_within ?k_within ?a_attempt ?l_attempt ?c_attempt ?k_attempt ?a_law_source ?l_law_source ?c_law_source ?k_law_source ?a_law_draw ?l_law_draw ?c_law_draw ?k_law_draw ?a_law_one ?l_law_one ?c_law_one ?k_law_one ?a_law_stem ?l_law_stem ?c_law_stem ?k_law_stem ?a_law_word ?l_law_word ?c_law_word ?k_law_word ?a_law_made ?l_law_made ?c_law_made ?k_law_made ?a_law_due ?l_law_due ?c_law_due ?k_law_due ?a_law_come ?l_law_come ?c_law_come ?k_law_come ?a_law_gone ?l_law_gone ?c_law_gone ?k_law_gone ?a_law_step ?l_law_step ?c_law_step ?k_law_step ?a_law_right ?l_law_right ?c_law_right ?k_law_right ?a_law ?l_law ?c_law ?k_law ?qn ?qt ?anC ?a_in ?l_in ?c_in ?k_in ?i_in ?pgn ?hdn ?pon ?san ?mknC ?knC ?nn_rule ?nn_width ?qan ?qmn ?ahC ?a_ih ?l_ih ?c_ih ?k_ih ?i_ih ?pgh ?hdh ?poh ?sah ?mkhC ?khC ?nh_namer ?nh_busy ?nh_texts ?nh_names ?nh_past ?qah ?qmh ?a_hm_become ?l_hm_become ?c_hm_become ?k_hm_become ?i_hm_become ?a_hm_let_come ?l_hm_let_come ?c_hm_let_come ?k_hm_let_come ?i_hm_let_come ?a_hm_let_go ?l_hm_let_go ?c_hm_let_go ?k_hm_let_go ?i_hm_let_go ?a_hm_check_not_busy ?l_hm_check_not_busy ?c_hm_check_not_busy ?k_hm_check_not_busy ?i_hm_check_not_busy ?a_hm_add ?l_hm_add ?c_hm_add ?k_hm_add ?i_hm_add ?a_hm_remove ?l_hm_remove ?c_hm_remove ?k_hm_remove ?i_hm_remove ?a_hm_undo ?l_hm_undo ?c_hm_undo ?k_hm_undo ?i_hm_undo ?a_hm_trial ?l_hm_trial ?c_hm_trial ?k_hm_trial ?i_hm_trial ?a_hlen ?l_hlen ?c_hlen ?k_hlen ?i_hlen ?atC ?a_it ?l_it ?c_it ?k_it ?i_it ?pgt ?hdt ?pot ?sat ?mktC ?ktC ?nt_shelf ?nt_entry ?a_tm___enter__ ?l_tm___enter__ ?c_tm___enter__ ?k_tm___enter__ ?i_tm___enter__ ?a_tm___exit__ ?l_tm___exit__ ?c_tm___exit__ ?k_tm___exit__ ?i_tm___exit__ ?aeC ?a_ie ?l_ie ?c_ie ?k_ie ?i_ie ?pge ?hde ?poe ?sae ?mkeC ?keC ?ne_texts ?ne_names ?ne_past ?ne_outer ?tab_law_right ?cde_law_right ?notab_law_right ?rec_law_right ?z_ArithmeticError ?z_LookupError ?z_ValueError ?z_abs ?z_all ?z_bool ?z_divmod ?z_enumerate ?z_int ?z_isinstance ?z_len ?z_list ?z_max ?z_min ?z_range ?z_set ?z_str ?z_tuple ?z_MOST_SIGNS ?z_MOST_TEXT ?z_MOST_LISTED ?z_MOST_SHELVED ?z_SIGNS ?z_RULES ?zl_RULES ?z_LEAST_WIDTH ?z_DEED_WORDS ?zl_DEED_WORDS
    (case a_is_integer => k_is)
    (case l_is_integer => k_is)
    (case c_is_integer => k_is)
    (case k_is_integer => k_is)
    (case a_is_tuple => k_is)
    (case l_is_tuple => k_is)
    (case c_is_tuple => k_is)
    (case k_is_tuple => k_is)
    (case a_is_text => k_is)
    (case l_is_text => k_is)
    (case c_is_text => k_is)
    (case k_is_text => k_is)
    (case a_check_text => k_is)
    (case l_check_text => k_is)
    (case c_check_text => k_is)
    (case k_check_text => k_is)
    (case a_check_texts => k_is)
    (case l_check_texts => k_is)
    (case c_check_texts => k_is)
    (case k_check_texts => k_is)
    (case a_check_namer => k_is)
    (case l_check_namer => k_is)
    (case c_check_namer => k_is)
    (case k_check_namer => k_is)
    (case a_base_of => k_is)
    (case l_base_of => k_is)
    (case c_base_of => k_is)
    (case k_base_of => k_is)
    (case a_numbered => k_is)
    (case l_numbered => k_is)
    (case c_numbered => k_is)
    (case k_numbered => k_is)
    (case a_counted_name => k_is)
    (case l_counted_name => k_is)
    (case c_counted_name => k_is)
    (case k_counted_name => k_is)
    (case a_free_name => k_is)
    (case l_free_name => k_is)
    (case c_free_name => k_is)
    (case k_free_name => k_is)
    (case a_name_of_next => k_is)
    (case l_name_of_next => k_is)
    (case c_name_of_next => k_is)
    (case k_name_of_next => k_is)
    (case a_named => k_is)
    (case l_named => k_is)
    (case c_named => k_is)
    (case k_named => k_is)
    (case a_names => k_is)
    (case l_names => k_is)
    (case c_names => k_is)
    (case k_names => k_is)
    (case a_within => k_is)
    (case l_within => k_is)
    (case c_within => k_is)
    (case k_within => k_is)
    (case a_attempt => k_is)
    (case l_attempt => k_is)
    (case c_attempt => k_is)
    (case k_attempt => k_is)
    (case a_law_source => k_is)
    (case l_law_source => k_is)
    (case c_law_source => k_is)
    (case k_law_source => k_is)
    (case a_law_draw => k_is)
    (case l_law_draw => k_is)
    (case c_law_draw => k_is)
    (case k_law_draw => k_is)
    (case a_law_one => k_is)
    (case l_law_one => k_is)
    (case c_law_one => k_is)
    (case k_law_one => k_is)
    (case a_law_stem => k_is)
    (case l_law_stem => k_is)
    (case c_law_stem => k_is)
    (case k_law_stem => k_is)
    (case a_law_word => k_is)
    (case l_law_word => k_is)
    (case c_law_word => k_is)
    (case k_law_word => k_is)
    (case a_law_made => k_is)
    (case l_law_made => k_is)
    (case c_law_made => k_is)
    (case k_law_made => k_is)
    (case a_law_due => k_is)
    (case l_law_due => k_is)
    (case c_law_due => k_is)
    (case k_law_due => k_is)
    (case a_law_come => k_is)
    (case l_law_come => k_is)
    (case c_law_come => k_is)
    (case k_law_come => k_is)
    (case a_law_gone => k_is)
    (case l_law_gone => k_is)
    (case c_law_gone => k_is)
    (case k_law_gone => k_is)
    (case a_law_step => k_is)
    (case l_law_step => k_is)
    (case c_law_step => k_is)
    (case k_law_step => k_is)
    (case a_law_right => k_is)
    (case l_law_right => k_is)
    (case c_law_right => k_is)
    (case k_law_right => k_is)
    (case a_law => k_is)
    (case l_law => k_is)
    (case c_law => k_is)
    (case k_law => k_is)
    (case qn => k_is)
    (case qt => k_is)
    (case anC => k_is)
    (case a_in => k_is)
    (case l_in => k_is)
    (case c_in => k_is)
    (case k_in => k_is)
    (case i_in => k_is)
    (case pgn => k_is)
    (case hdn => k_is)
    (case pon => k_is)
    (case san => k_is)
    (case mknC => k_is)
    (case knC => k_is)
    (case nn_rule => k_is)
    (case nn_width => k_is)
    (case qan => k_is)
    (case qmn => k_is)
    (case ahC => k_is)
    (case a_ih => k_is)
    (case l_ih => k_is)
    (case c_ih => k_is)
    (case k_ih => k_is)
    (case i_ih => k_is)
    (case pgh => k_is)
    (case hdh => k_is)
    (case poh => k_is)
    (case sah => k_is)
    (case mkhC => k_is)
    (case khC => k_is)
    (case nh_namer => k_is)
    (case nh_busy => k_is)
    (case nh_texts => k_is)
    (case nh_names => k_is)
    (case nh_past => k_is)
    (case qah => k_is)
    (case qmh => k_is)
    (case a_hm_become => k_is)
    (case l_hm_become => k_is)
    (case c_hm_become => k_is)
    (case k_hm_become => k_is)
    (case i_hm_become => k_is)
    (case a_hm_let_come => k_is)
    (case l_hm_let_come => k_is)
    (case c_hm_let_come => k_is)
    (case k_hm_let_come => k_is)
    (case i_hm_let_come => k_is)
    (case a_hm_let_go => k_is)
    (case l_hm_let_go => k_is)
    (case c_hm_let_go => k_is)
    (case k_hm_let_go => k_is)
    (case i_hm_let_go => k_is)
    (case a_hm_check_not_busy => k_is)
    (case l_hm_check_not_busy => k_is)
    (case c_hm_check_not_busy => k_is)
    (case k_hm_check_not_busy => k_is)
    (case i_hm_check_not_busy => k_is)
    (case a_hm_add => k_is)
    (case l_hm_add => k_is)
    (case c_hm_add => k_is)
    (case k_hm_add => k_is)
    (case i_hm_add => k_is)
    (case a_hm_remove => k_is)
    (case l_hm_remove => k_is)
    (case c_hm_remove => k_is)
    (case k_hm_remove => k_is)
    (case i_hm_remove => k_is)
    (case a_hm_undo => k_is)
    (case l_hm_undo => k_is)
    (case c_hm_undo => k_is)
    (case k_hm_undo => k_is)
    (case i_hm_undo => k_is)
    (case a_hm_trial => k_is)
    (case l_hm_trial => k_is)
    (case c_hm_trial => k_is)
    (case k_hm_trial => k_is)
    (case i_hm_trial => k_is)
    (case a_hlen => k_is)
    (case l_hlen => k_is)
    (case c_hlen => k_is)
    (case k_hlen => k_is)
    (case i_hlen => k_is)
    (case atC => k_is)
    (case a_it => k_is)
    (case l_it => k_is)
    (case c_it => k_is)
    (case k_it => k_is)
    (case i_it => k_is)
    (case pgt => k_is)
    (case hdt => k_is)
    (case pot => k_is)
    (case sat => k_is)
    (case mktC => k_is)
    (case ktC => k_is)
    (case nt_shelf => k_is)
    (case nt_entry => k_is)
    (case a_tm___enter__ => k_is)
    (case l_tm___enter__ => k_is)
    (case c_tm___enter__ => k_is)
    (case k_tm___enter__ => k_is)
    (case i_tm___enter__ => k_is)
    (case a_tm___exit__ => k_is)
    (case l_tm___exit__ => k_is)
    (case c_tm___exit__ => k_is)
    (case k_tm___exit__ => k_is)
    (case i_tm___exit__ => k_is)
    (case aeC => k_is)
    (case a_ie => k_is)
    (case l_ie => k_is)
    (case c_ie => k_is)
    (case k_ie => k_is)
    (case i_ie => k_is)
    (case pge => k_is)
    (case hde => k_is)
    (case poe => k_is)
    (case sae => k_is)
    (case mkeC => k_is)
    (case keC => k_is)
    (case ne_texts => k_is)
    (case ne_names => k_is)
    (case ne_past => k_is)
    (case ne_outer => k_is)
    (case tab_law_right => first | rfl | decide +kernel | k_is)
    (case cde_law_right => rfl)
    (case notab_law_right => first | rfl | decide +kernel | k_is)
    (case rec_law_right => first | rfl | decide +kernel | k_is)
    (case z_ArithmeticError => k_is)
    (case z_LookupError => k_is)
    (case z_ValueError => k_is)
    (case z_abs => k_is)
    (case z_all => k_is)
    (case z_bool => k_is)
    (case z_divmod => k_is)
    (case z_enumerate => k_is)
    (case z_int => k_is)
    (case z_isinstance => k_is)
    (case z_len => k_is)
    (case z_list => k_is)
    (case z_max => k_is)
    (case z_min => k_is)
    (case z_range => k_is)
    (case z_set => k_is)
    (case z_str => k_is)
    (case z_tuple => k_is)
    (case z_MOST_SIGNS => k_is)
    (case z_MOST_TEXT => k_is)
    (case z_MOST_LISTED => k_is)
    (case z_MOST_SHELVED => k_is)
    (case z_SIGNS => k_is)
    (case z_RULES => k_is)
    (case zl_RULES => k_is)
    (case z_LEAST_WIDTH => k_is)
    (case z_DEED_WORDS => k_is)
    (case zl_DEED_WORDS => k_is)
