import PyProof.Rows.All
import Wide.All
import OpenK.AllK
import Wide.FinOn
import HandS.Base
import HandS.Call
import HandS.List
import HandS.Comp
import HandS.Ends
import HandS.Dict
import HandS.Iter
import HandS.Text
import HandS.Words
import HandS.WordsList
import HandS.WordsDict
import HandS.Conv
import HandS.Walk
import HandS.IsInst
import HandS.MakeKw
import HandS.MakeKwOnly
import HandS.Flow
import HandS.TupAny
import HandS.TupMul
import HandS.FStr
import HandS.Zip
import HandS.Style
import HandS.Codes
import HandS.TupLe
import HandS.SetKeys
import HandS.Strs
import HandS.SetFor
import HandS.Deep
import HandS.SortInts
import HandS.More
import HandS.CallLocal
import HandS.HeadHook3
import HandS.Exc
import HandS.TryOnly
import HandS.TryMany
import HandS.WordsExc
import HandS.ExcField
import HandS.ExcIs
import HandS.ExcInit
import HandS.Lambda
import HandS.Finally
import HandS.HotCalls
import HandS.Star
import HandS.Head0
import HandS.Head1
import HandS.Head2
import KE.KTryMore
import KE.KExcInit
import KE.KExcIs
import PyProof.ExcBaseAll.LookupError
import PyProof.ExcBaseAll.ArithmeticError
import KE.GoesMore
import KE.GoesZip
import KE.KUnpack
import PyProof.TupleOfStr
import PySem.Challenge.RW_shownshort_k60_whole_texts_that_come_bac
set_option Elab.async false
set_option linter.all false
set_option maxRecDepth 100000
namespace Gu
open PySem PySem.W PySem.Calls PyProof.Rows
/-! ### the top by one kernel run (HandS.Head2), in parts, ahead of all else -/
def c1 {A B : Type} (v : A × B) : A := match v with | (x, _) => x
def c25 {A B C D E F : Type} (v : A × B × C × D × E × F) : B × C × D × E := match v with | (_, b, c, d, e, _) => (b, c, d, e)
def c69 {A B C D E F G H I : Type} (v : A × B × C × D × E × F × G × H × I) : F × G × H × I := match v with | (_, _, _, _, _, f, g, h, i) => (f, g, h, i)
def kept0 : List Nat := [1, 2, 3, 4, 5, 6, 7, 8, 9, 10, 11, 12, 13, 14, 15, 16, 17, 18, 19, 20, 21, 22, 23, 24, 26, 27, 28, 29, 30, 32] ++ [33, 34, 35, 36, 37, 38, 39, 40, 42, 43, 44, 45, 46, 47, 48, 49, 51, 52, 53, 54, 55, 56, 57, 58, 59, 60, 61, 62, 63]
def loose0 : List PySem.Str := ["Shelf"]
abbrev R0 : OpenRow := OpenLaw.row PySem.Challenge.rw_shownshort_k60_whole_texts_that_come_bac
abbrev q0 : Program := view R0.prog kept0
set_option maxHeartbeats 0
theorem run0a (w : World) (os : OsState) : (HandSHeadRun.endF (HandSHeadRun.stepQ (HandSHeadRun.denQ HandSHeadRun.tabQ) R0.prog w) 7501 R0.prog w os).map (fun s => (HandSHeadRun.looksF R0.prog (boot_heap w.params) s.abs, c1 (HandSHeadRun.seenQ q0 loose0 (importedModules R0.prog.main.body) (fun s => xlAt q0 [] s && recOk R0.toRowW.records s) s.abs))) = some (true, (openGood q0 loose0).1) := by kernel_rfl
theorem run0b (w : World) (os : OsState) : (HandSHeadRun.endF (HandSHeadRun.stepQ (HandSHeadRun.denQ HandSHeadRun.tabQ) R0.prog w) 7501 R0.prog w os).map (fun s => c25 (HandSHeadRun.seenQ q0 loose0 (importedModules R0.prog.main.body) (fun s => xlAt q0 [] s && recOk R0.toRowW.records s) s.abs)) = some ((openGood q0 loose0).2.1, (openGood q0 loose0).2.2.1, (openGood q0 loose0).2.2.2.1, (openGood q0 loose0).2.2.2.2.1) := by kernel_rfl
theorem run0c (w : World) (os : OsState) : (HandSHeadRun.endF (HandSHeadRun.stepQ (HandSHeadRun.denQ HandSHeadRun.tabQ) R0.prog w) 7501 R0.prog w os).map (fun s => c69 (HandSHeadRun.seenQ q0 loose0 (importedModules R0.prog.main.body) (fun s => xlAt q0 [] s && recOk R0.toRowW.records s) s.abs)) = some (openGood q0 loose0).2.2.2.2.2 := by kernel_rfl
end Gu
namespace Gu
open PySem PySem.Spec PyProof.Rows L2
/-! the text, by places -/
def topS (i : Nat) : Stmt := PySem.Challenge.pw_shownshort_k60_whole_texts_that_come_bac.main.body.getD i (.Pass ⟨0, 0, 0, 0⟩)
abbrev s_InvalidNumber_init : Stmt := inClass (topS 2) 0
abbrev ps_InvalidNumber_init : List Str := ["self", "value"]
theorem sc_InvalidNumber_init : FnScope ["self", "value"] ps_InvalidNumber_init (defScope s_InvalidNumber_init) := ⟨rfl, rfl, rfl, by decide +kernel, rfl, by decide +kernel, by decide +kernel⟩
abbrev s_InvalidMark_init : Stmt := inClass (topS 3) 0
abbrev ps_InvalidMark_init : List Str := ["self", "value"]
theorem sc_InvalidMark_init : FnScope ["self", "value"] ps_InvalidMark_init (defScope s_InvalidMark_init) := ⟨rfl, rfl, rfl, by decide +kernel, rfl, by decide +kernel, by decide +kernel⟩
abbrev s_InvalidText_init : Stmt := inClass (topS 4) 0
abbrev ps_InvalidText_init : List Str := ["self", "value"]
theorem sc_InvalidText_init : FnScope ["self", "value"] ps_InvalidText_init (defScope s_InvalidText_init) := ⟨rfl, rfl, rfl, by decide +kernel, rfl, by decide +kernel, by decide +kernel⟩
abbrev s_InvalidLength_init : Stmt := inClass (topS 5) 0
abbrev ps_InvalidLength_init : List Str := ["self", "value"]
theorem sc_InvalidLength_init : FnScope ["self", "value"] ps_InvalidLength_init (defScope s_InvalidLength_init) := ⟨rfl, rfl, rfl, by decide +kernel, rfl, by decide +kernel, by decide +kernel⟩
abbrev s_InvalidRule_init : Stmt := inClass (topS 6) 0
abbrev ps_InvalidRule_init : List Str := ["self", "value"]
theorem sc_InvalidRule_init : FnScope ["self", "value"] ps_InvalidRule_init (defScope s_InvalidRule_init) := ⟨rfl, rfl, rfl, by decide +kernel, rfl, by decide +kernel, by decide +kernel⟩
abbrev s_InvalidWidth_init : Stmt := inClass (topS 7) 0
abbrev ps_InvalidWidth_init : List Str := ["self", "value"]
theorem sc_InvalidWidth_init : FnScope ["self", "value"] ps_InvalidWidth_init (defScope s_InvalidWidth_init) := ⟨rfl, rfl, rfl, by decide +kernel, rfl, by decide +kernel, by decide +kernel⟩
abbrev s_InvalidPlace_init : Stmt := inClass (topS 8) 0
abbrev ps_InvalidPlace_init : List Str := ["self", "value"]
theorem sc_InvalidPlace_init : FnScope ["self", "value"] ps_InvalidPlace_init (defScope s_InvalidPlace_init) := ⟨rfl, rfl, rfl, by decide +kernel, rfl, by decide +kernel, by decide +kernel⟩
abbrev s_InvalidLine_init : Stmt := inClass (topS 9) 0
abbrev ps_InvalidLine_init : List Str := ["self", "value"]
theorem sc_InvalidLine_init : FnScope ["self", "value"] ps_InvalidLine_init (defScope s_InvalidLine_init) := ⟨rfl, rfl, rfl, by decide +kernel, rfl, by decide +kernel, by decide +kernel⟩
abbrev s_NotANamer_init : Stmt := inClass (topS 10) 0
abbrev ps_NotANamer_init : List Str := ["self", "value"]
theorem sc_NotANamer_init : FnScope ["self", "value"] ps_NotANamer_init (defScope s_NotANamer_init) := ⟨rfl, rfl, rfl, by decide +kernel, rfl, by decide +kernel, by decide +kernel⟩
abbrev s_NotAShelf_init : Stmt := inClass (topS 11) 0
abbrev ps_NotAShelf_init : List Str := ["self", "value"]
theorem sc_NotAShelf_init : FnScope ["self", "value"] ps_NotAShelf_init (defScope s_NotAShelf_init) := ⟨rfl, rfl, rfl, by decide +kernel, rfl, by decide +kernel, by decide +kernel⟩
abbrev s_InvalidRow_init : Stmt := inClass (topS 12) 0
abbrev ps_InvalidRow_init : List Str := ["self", "index"]
theorem sc_InvalidRow_init : FnScope ["self", "index"] ps_InvalidRow_init (defScope s_InvalidRow_init) := ⟨rfl, rfl, rfl, by decide +kernel, rfl, by decide +kernel, by decide +kernel⟩
abbrev s_InvalidViews_init : Stmt := inClass (topS 13) 0
abbrev ps_InvalidViews_init : List Str := ["self", "index"]
theorem sc_InvalidViews_init : FnScope ["self", "index"] ps_InvalidViews_init (defScope s_InvalidViews_init) := ⟨rfl, rfl, rfl, by decide +kernel, rfl, by decide +kernel, by decide +kernel⟩
abbrev s_InvalidTexts_init : Stmt := inClass (topS 14) 0
abbrev ps_InvalidTexts_init : List Str := ["self", "index"]
theorem sc_InvalidTexts_init : FnScope ["self", "index"] ps_InvalidTexts_init (defScope s_InvalidTexts_init) := ⟨rfl, rfl, rfl, by decide +kernel, rfl, by decide +kernel, by decide +kernel⟩
abbrev s_InvalidDeeds_init : Stmt := inClass (topS 15) 0
abbrev ps_InvalidDeeds_init : List Str := ["self", "index"]
theorem sc_InvalidDeeds_init : FnScope ["self", "index"] ps_InvalidDeeds_init (defScope s_InvalidDeeds_init) := ⟨rfl, rfl, rfl, by decide +kernel, rfl, by decide +kernel, by decide +kernel⟩
abbrev s_UnknownName_init : Stmt := inClass (topS 19) 0
abbrev ps_UnknownName_init : List Str := ["self", "value"]
theorem sc_UnknownName_init : FnScope ["self", "value"] ps_UnknownName_init (defScope s_UnknownName_init) := ⟨rfl, rfl, rfl, by decide +kernel, rfl, by decide +kernel, by decide +kernel⟩
abbrev s_TooMany_init : Stmt := inClass (topS 21) 0
abbrev ps_TooMany_init : List Str := ["self", "limit"]
theorem sc_TooMany_init : FnScope ["self", "limit"] ps_TooMany_init (defScope s_TooMany_init) := ⟨rfl, rfl, rfl, by decide +kernel, rfl, by decide +kernel, by decide +kernel⟩
abbrev s_is_integer : Stmt := topS 27
abbrev ps_is_integer : List Str := ["value", "least", "most"]
theorem sc_is_integer : FnScope ["value", "least", "most"] ps_is_integer (defScope s_is_integer) := ⟨rfl, rfl, rfl, by decide +kernel, rfl, by decide +kernel, by decide +kernel⟩
abbrev s_is_tuple : Stmt := topS 28
abbrev ps_is_tuple : List Str := ["value", "least", "most"]
theorem sc_is_tuple : FnScope ["value", "least", "most"] ps_is_tuple (defScope s_is_tuple) := ⟨rfl, rfl, rfl, by decide +kernel, rfl, by decide +kernel, by decide +kernel⟩
abbrev s_is_text : Stmt := topS 29
abbrev ps_is_text : List Str := ["value", "most"]
theorem sc_is_text : FnScope ["value", "most", "character"] ps_is_text (defScope s_is_text) := ⟨rfl, rfl, rfl, by decide +kernel, rfl, by decide +kernel, by decide +kernel⟩
abbrev s_check_text : Stmt := topS 30
abbrev ps_check_text : List Str := ["text"]
theorem sc_check_text : FnScope ["text"] ps_check_text (defScope s_check_text) := ⟨rfl, rfl, rfl, by decide +kernel, rfl, by decide +kernel, by decide +kernel⟩
abbrev s_Namer_init : Stmt := inClass (topS 34) 0
abbrev ps_Namer_init : List Str := ["self", "rule", "width"]
theorem sc_Namer_init : FnScope ["self", "rule", "width"] ps_Namer_init (defScope s_Namer_init) := ⟨rfl, rfl, rfl, by decide +kernel, rfl, by decide +kernel, by decide +kernel⟩
abbrev s_Namer_eq : Stmt := inClass (topS 34) 1
abbrev ps_Namer_eq : List Str := ["self", "other"]
theorem sc_Namer_eq : FnScope ["self", "other"] ps_Namer_eq (defScope s_Namer_eq) := ⟨rfl, rfl, rfl, by decide +kernel, rfl, by decide +kernel, by decide +kernel⟩
abbrev s_Namer_repr : Stmt := inClass (topS 34) 2
abbrev ps_Namer_repr : List Str := ["self"]
theorem sc_Namer_repr : FnScope ["self"] ps_Namer_repr (defScope s_Namer_repr) := ⟨rfl, rfl, rfl, by decide +kernel, rfl, by decide +kernel, by decide +kernel⟩
abbrev s_check_namer : Stmt := topS 35
abbrev ps_check_namer : List Str := ["namer"]
theorem sc_check_namer : FnScope ["namer"] ps_check_namer (defScope s_check_namer) := ⟨rfl, rfl, rfl, by decide +kernel, rfl, by decide +kernel, by decide +kernel⟩
abbrev s_base_of : Stmt := topS 36
abbrev ps_base_of : List Str := ["namer", "text"]
theorem sc_base_of : FnScope ["namer", "text"] ps_base_of (defScope s_base_of) := ⟨rfl, rfl, rfl, by decide +kernel, rfl, by decide +kernel, by decide +kernel⟩
abbrev s_numbered : Stmt := topS 37
abbrev ps_numbered : List Str := ["namer", "base", "number"]
theorem sc_numbered : FnScope ["namer", "base", "number", "ending"] ps_numbered (defScope s_numbered) := ⟨rfl, rfl, rfl, by decide +kernel, rfl, by decide +kernel, by decide +kernel⟩
abbrev s_counted_name : Stmt := topS 38
abbrev ps_counted_name : List Str := ["namer", "base", "texts"]
theorem sc_counted_name : FnScope ["namer", "base", "texts", "number", "text"] ps_counted_name (defScope s_counted_name) := ⟨rfl, rfl, rfl, by decide +kernel, rfl, by decide +kernel, by decide +kernel⟩
abbrev s_free_name : Stmt := topS 39
abbrev ps_free_name : List Str := ["namer", "base", "taken"]
theorem sc_free_name : FnScope ["namer", "base", "taken", "name", "number"] ps_free_name (defScope s_free_name) := ⟨rfl, rfl, rfl, by decide +kernel, rfl, by decide +kernel, by decide +kernel⟩
abbrev s_name_of_next : Stmt := topS 40
abbrev ps_name_of_next : List Str := ["namer", "text", "texts", "taken"]
theorem sc_name_of_next : FnScope ["namer", "text", "texts", "taken", "base"] ps_name_of_next (defScope s_name_of_next) := ⟨rfl, rfl, rfl, by decide +kernel, rfl, by decide +kernel, by decide +kernel⟩
abbrev s_is_deed : Stmt := topS 43
abbrev ps_is_deed : List Str := ["value"]
theorem sc_is_deed : FnScope ["value"] ps_is_deed (defScope s_is_deed) := ⟨rfl, rfl, rfl, by decide +kernel, rfl, by decide +kernel, by decide +kernel⟩
abbrev s_check_deeds : Stmt := topS 44
abbrev ps_check_deeds : List Str := ["deeds"]
theorem sc_check_deeds : FnScope ["deeds", "place", "deed"] ps_check_deeds (defScope s_check_deeds) := ⟨rfl, rfl, rfl, by decide +kernel, rfl, by decide +kernel, by decide +kernel⟩
abbrev s_Entry_init : Stmt := inClass (topS 45) 0
abbrev ps_Entry_init : List Str := ["self", "shelf", "outer"]
theorem sc_Entry_init : FnScope ["self", "shelf", "outer"] ps_Entry_init (defScope s_Entry_init) := ⟨rfl, rfl, rfl, by decide +kernel, rfl, by decide +kernel, by decide +kernel⟩
abbrev s_Trial_init : Stmt := inClass (topS 46) 0
abbrev ps_Trial_init : List Str := ["self", "shelf"]
theorem sc_Trial_init : FnScope ["self", "shelf"] ps_Trial_init (defScope s_Trial_init) := ⟨rfl, rfl, rfl, by decide +kernel, rfl, by decide +kernel, by decide +kernel⟩
abbrev s_Trial_enter : Stmt := inClass (topS 46) 1
abbrev ps_Trial_enter : List Str := ["self"]
theorem sc_Trial_enter : FnScope ["self"] ps_Trial_enter (defScope s_Trial_enter) := ⟨rfl, rfl, rfl, by decide +kernel, rfl, by decide +kernel, by decide +kernel⟩
abbrev s_Trial_exit : Stmt := inClass (topS 46) 2
abbrev ps_Trial_exit : List Str := ["self", "kind", "value", "trace"]
theorem sc_Trial_exit : FnScope ["self", "kind", "value", "trace"] ps_Trial_exit (defScope s_Trial_exit) := ⟨rfl, rfl, rfl, by decide +kernel, rfl, by decide +kernel, by decide +kernel⟩
abbrev s_Shelf_init : Stmt := inClass (topS 47) 0
abbrev ps_Shelf_init : List Str := ["self", "namer"]
theorem sc_Shelf_init : FnScope ["self", "namer"] ps_Shelf_init (defScope s_Shelf_init) := ⟨rfl, rfl, rfl, by decide +kernel, rfl, by decide +kernel, by decide +kernel⟩
abbrev s_Shelf_len : Stmt := inClass (topS 47) 1
abbrev ps_Shelf_len : List Str := ["self"]
theorem sc_Shelf_len : FnScope ["self"] ps_Shelf_len (defScope s_Shelf_len) := ⟨rfl, rfl, rfl, by decide +kernel, rfl, by decide +kernel, by decide +kernel⟩
abbrev s_Shelf_repr : Stmt := inClass (topS 47) 2
abbrev ps_Shelf_repr : List Str := ["self"]
theorem sc_Shelf_repr : FnScope ["self"] ps_Shelf_repr (defScope s_Shelf_repr) := ⟨rfl, rfl, rfl, by decide +kernel, rfl, by decide +kernel, by decide +kernel⟩
abbrev s_Shelf_check_not_busy : Stmt := inClass (topS 47) 3
abbrev ps_Shelf_check_not_busy : List Str := ["self"]
theorem sc_Shelf_check_not_busy : FnScope ["self"] ps_Shelf_check_not_busy (defScope s_Shelf_check_not_busy) := ⟨rfl, rfl, rfl, by decide +kernel, rfl, by decide +kernel, by decide +kernel⟩
abbrev s_Shelf_become : Stmt := inClass (topS 47) 4
abbrev ps_Shelf_become : List Str := ["self", "texts", "names"]
theorem sc_Shelf_become : FnScope ["self", "texts", "names"] ps_Shelf_become (defScope s_Shelf_become) := ⟨rfl, rfl, rfl, by decide +kernel, rfl, by decide +kernel, by decide +kernel⟩
abbrev s_Shelf_let_come : Stmt := inClass (topS 47) 5
abbrev ps_Shelf_let_come : List Str := ["self", "text"]
theorem sc_Shelf_let_come : FnScope ["self", "text", "name"] ps_Shelf_let_come (defScope s_Shelf_let_come) := ⟨rfl, rfl, rfl, by decide +kernel, rfl, by decide +kernel, by decide +kernel⟩
abbrev s_Shelf_let_go : Stmt := inClass (topS 47) 6
abbrev ps_Shelf_let_go : List Str := ["self", "name"]
theorem sc_Shelf_let_go : FnScope ["self", "name", "place", "text"] ps_Shelf_let_go (defScope s_Shelf_let_go) := ⟨rfl, rfl, rfl, by decide +kernel, rfl, by decide +kernel, by decide +kernel⟩
abbrev s_Shelf_do_deed : Stmt := inClass (topS 47) 7
abbrev ps_Shelf_do_deed : List Str := ["self", "deed"]
theorem sc_Shelf_do_deed : FnScope ["self", "deed", "word", "told"] ps_Shelf_do_deed (defScope s_Shelf_do_deed) := ⟨rfl, rfl, rfl, by decide +kernel, rfl, by decide +kernel, by decide +kernel⟩
abbrev s_Shelf_add : Stmt := inClass (topS 47) 8
abbrev ps_Shelf_add : List Str := ["self", "text"]
theorem sc_Shelf_add : FnScope ["self", "text"] ps_Shelf_add (defScope s_Shelf_add) := ⟨rfl, rfl, rfl, by decide +kernel, rfl, by decide +kernel, by decide +kernel⟩
abbrev s_Shelf_remove : Stmt := inClass (topS 47) 9
abbrev ps_Shelf_remove : List Str := ["self", "name"]
theorem sc_Shelf_remove : FnScope ["self", "name"] ps_Shelf_remove (defScope s_Shelf_remove) := ⟨rfl, rfl, rfl, by decide +kernel, rfl, by decide +kernel, by decide +kernel⟩
abbrev s_Shelf_do_all : Stmt := inClass (topS 47) 10
abbrev ps_Shelf_do_all : List Str := ["self", "watch", "deeds"]
theorem sc_Shelf_do_all : FnScope ["self", "watch", "deeds", "texts", "names", "past", "place", "deed"] ps_Shelf_do_all (defScope s_Shelf_do_all) := ⟨rfl, rfl, rfl, by decide +kernel, rfl, by decide +kernel, by decide +kernel⟩
abbrev s_Shelf_undo : Stmt := inClass (topS 47) 11
abbrev ps_Shelf_undo : List Str := ["self"]
theorem sc_Shelf_undo : FnScope ["self"] ps_Shelf_undo (defScope s_Shelf_undo) := ⟨rfl, rfl, rfl, by decide +kernel, rfl, by decide +kernel, by decide +kernel⟩
abbrev s_Shelf_trial : Stmt := inClass (topS 47) 12
abbrev ps_Shelf_trial : List Str := ["self"]
theorem sc_Shelf_trial : FnScope ["self"] ps_Shelf_trial (defScope s_Shelf_trial) := ⟨rfl, rfl, rfl, by decide +kernel, rfl, by decide +kernel, by decide +kernel⟩
abbrev s_within : Stmt := topS 48
abbrev ps_within : List Str := ["trial", "act"]
theorem sc_within : FnScope ["trial", "act", "shelf"] ps_within (defScope s_within) := ⟨rfl, rfl, rfl, by decide +kernel, rfl, by decide +kernel, by decide +kernel⟩
abbrev s_attempt : Stmt := topS 49
abbrev ps_attempt : List Str := ["shelf", "act"]
theorem sc_attempt : FnScope ["shelf", "act"] ps_attempt (defScope s_attempt) := ⟨rfl, rfl, rfl, by decide +kernel, rfl, by decide +kernel, by decide +kernel⟩
abbrev s_law_source : Stmt := topS 51
abbrev ps_law_source : List Str := ["_law_cells", "_law_turn"]
theorem sc_law_source : FnScope ["_law_cells", "_law_turn", "_law_mixed", "_law_cell", "_law_own"] ps_law_source (defScope s_law_source) := ⟨rfl, rfl, rfl, by decide +kernel, rfl, by decide +kernel, by decide +kernel⟩
abbrev s_law_draw : Stmt := topS 52
abbrev ps_law_draw : List Str := ["_law_source_here", "_law_size"]
theorem sc_law_draw : FnScope ["_law_source_here", "_law_size", "_law_digit", "_law_state", "_law_factor"] ps_law_draw (defScope s_law_draw) := ⟨rfl, rfl, rfl, by decide +kernel, rfl, by decide +kernel, by decide +kernel⟩
abbrev s_law_one : Stmt := topS 53
abbrev ps_law_one : List Str := ["_law_source_here", "_law_some"]
theorem sc_law_one : FnScope ["_law_source_here", "_law_some"] ps_law_one (defScope s_law_one) := ⟨rfl, rfl, rfl, by decide +kernel, rfl, by decide +kernel, by decide +kernel⟩
abbrev s_law_stem : Stmt := topS 54
abbrev ps_law_stem : List Str := ["_law_source_here", "_law_size"]
theorem sc_law_stem : FnScope ["_law_source_here", "_law_size", "_law_abc", "_law_k"] ps_law_stem (defScope s_law_stem) := ⟨rfl, rfl, rfl, by decide +kernel, rfl, by decide +kernel, by decide +kernel⟩
abbrev s_law_word : Stmt := topS 55
abbrev ps_law_word : List Str := ["_law_source_here", "_law_stems"]
theorem sc_law_word : FnScope ["_law_source_here", "_law_stems", "_law_way", "_law_stem_here"] ps_law_word (defScope s_law_word) := ⟨rfl, rfl, rfl, by decide +kernel, rfl, by decide +kernel, by decide +kernel⟩
abbrev s_law_refusal : Stmt := topS 56
abbrev ps_law_refusal : List Str := ["_law_e"]
theorem sc_law_refusal : FnScope ["_law_e", "_law_rows", "_law_under", "_law_plain", "_law_at", "_law_words"] ps_law_refusal (defScope s_law_refusal) := ⟨rfl, rfl, rfl, by decide +kernel, rfl, by decide +kernel, by decide +kernel⟩
abbrev s_law_tried : Stmt := topS 57
abbrev ps_law_tried : List Str := ["_law_act"]
theorem sc_law_tried : FnScope ["_law_act", "_law_told", "_law_e"] ps_law_tried (defScope s_law_tried) := ⟨rfl, rfl, rfl, by decide +kernel, rfl, by decide +kernel, by decide +kernel⟩
abbrev s_law_is : Stmt := topS 58
abbrev ps_law_is : List Str := ["_law_told", "_law_due"]
theorem sc_law_is : FnScope ["_law_told", "_law_due"] ps_law_is (defScope s_law_is) := ⟨rfl, rfl, rfl, by decide +kernel, rfl, by decide +kernel, by decide +kernel⟩
abbrev s_law_all_gone : Stmt := topS 59
abbrev ps_law_all_gone : List Str := ["_law_source_here", "_law_mine"]
theorem sc_law_all_gone : FnScope ["_law_source_here", "_law_mine", "_law_seen", "_law_turn", "_law_spot", "_law_due"] ps_law_all_gone (defScope s_law_all_gone) := ⟨rfl, rfl, rfl, by decide +kernel, rfl, by decide +kernel, by decide +kernel⟩
abbrev s_law_gone_and_back : Stmt := topS 60
abbrev ps_law_gone_and_back : List Str := ["_law_source_here", "_law_mine"]
theorem sc_law_gone_and_back : FnScope ["_law_source_here", "_law_mine", "_law_seen", "_law_told"] ps_law_gone_and_back (defScope s_law_gone_and_back) := ⟨rfl, rfl, rfl, by decide +kernel, rfl, by decide +kernel, by decide +kernel⟩
abbrev s_law_fails : Stmt := topS 61
abbrev ps_law_fails : List Str := ["_law_source_here", "_law_mine"]
theorem sc_law_fails : FnScope ["_law_source_here", "_law_mine"] ps_law_fails (defScope s_law_fails) := ⟨rfl, rfl, rfl, by decide +kernel, rfl, by decide +kernel, by decide +kernel⟩
abbrev s_law_right : Stmt := topS 62
abbrev ps_law_right : List Str := ["_law_source_here"]
theorem sc_law_right : FnScope ["_law_source_here", "_law_space", "_law_stems", "_law_mine", "_law_turn", "_law_held", "_law_told", "_law_first", "_law_last"] ps_law_right (defScope s_law_right) := ⟨rfl, rfl, rfl, by decide +kernel, rfl, by decide +kernel, by decide +kernel⟩
abbrev s_law : Stmt := topS 63
abbrev ps_law : List Str := ["_law_script"]
theorem sc_law : FnScope ["_law_script", "_law_k"] ps_law (defScope s_law) := ⟨rfl, rfl, rfl, by decide +kernel, rfl, by decide +kernel, by decide +kernel⟩
/-- names that the module leaves to Python -/
structure Bi (mg : Str → Option Value) : Prop where
  ArithmeticError : mg "ArithmeticError" = none
  LookupError : mg "LookupError" = none
  ValueError : mg "ValueError" = none
  abs : mg "abs" = none
  all : mg "all" = none
  bool : mg "bool" = none
  divmod : mg "divmod" = none
  enumerate : mg "enumerate" = none
  int : mg "int" = none
  isinstance : mg "isinstance" = none
  len : mg "len" = none
  max : mg "max" = none
  min : mg "min" = none
  range : mg "range" = none
  repr : mg "repr" = none
  str : mg "str" = none
  tuple : mg "tuple" = none
  MOST_SIGNS : ∃ u, mg "MOST_SIGNS" = some u ∧ RelV (.int 40) u
  MOST_TEXT : ∃ u, mg "MOST_TEXT" = some u ∧ RelV (.int 200) u
  MOST_SHELVED : ∃ u, mg "MOST_SHELVED" = some u ∧ RelV (.int 20) u
  SIGNS : ∃ u, mg "SIGNS" = some u ∧ RelV (.str ".0123456789abcdefghijklmnopqrstuvwxyz~") u
  LEAST_WIDTH : ∃ u, mg "LEAST_WIDTH" = some u ∧ RelV (.int 6) u
end Gu
namespace Gu
open PySem PySem.Spec PyProof.Rows L2
/-! cuts -/
/-- from a middle state on -/
def tHalt (t u : TS) : TS := fun D σ H => ∃ M : L2.St → Hp → Prop, t { D with nx := M } σ H ∧ ∀ σ1 H1, M σ1 H1 → u D σ1 H1
/-! defs as they stand behind the top -/
structure At (K : PySem.W.Frag) (mg : Str → Option Value) (x : Str) (st : Stmt) (ps : List Str) : Prop where
  ex : ∃ (f : Addr) (fd : FuncData), Fun K x x st f fd ∧ Binds K fd ps [] ∧ mg x = some (.ref f)
structure Cal (P : Program) (w : World) (K : PySem.W.Frag) (mg : Str → Option Value) (base : Heap) (k : Nat) (x : Str) (ps : List Str) (sp : Sp) : Prop where
  ex : ∃ (f : Addr) (fd : FuncData), FnOk P w K mg base CX0 k f fd ps sp ∧ mg x = some (.ref f) ∧ PySem.W.keepIn K (.ref f) = true ∧ Binds K fd ps [] ∧ ∃ oc od sl, K.lookup f = some ⟨oc, od, .func fd, sl⟩
theorem At.cal {P : Program} {w : World} {K : PySem.W.Frag} {mg : Str → Option Value} {base : Heap} {x : Str} {st : Stmt} {N ps : List Str} {k : Nat} {sp : Sp} (D : At K mg x st ps) (S : FnScope N ps (defScope st)) (len : ∀ vs H Q E, sp vs H Q E → vs.length = ps.length)
    (body : ∀ (f : Addr) (cdv : Value) (A : Around) (outer : List Env) (s : Shared) (H : Hp) (vs : List V) (Q : VK) (E : XK), Room k (A.deeper (envOfC x (defScope st) s.heap.objs.size f cdv)) → sp vs H Q E →
      ∃ t, PSs (cxOf CX0 P w K mg base N x (defScope st) f cdv A outer s H E).nox (defBody st) t ∧ t { nx := fun _ H' => Q .non H', rt := Q } (start N vs) H) : Cal P w K mg base (k + 1) x ps sp := by
  obtain ⟨f, fd, F, b, g⟩ := D.ex
  obtain ⟨oc, od, kV, doc, pm, an, cdv, ct, osl, e, lk, hcd⟩ := F.ex
  exact ⟨f, fd, F.ok S len (body f), g, F.kp, b, oc, od, osl, lk⟩
section
variable {X : Cx} {k j : Nat} {x : Str} {ps : List Str} {sp : Sp} {p pos : Pos} {e : Expr} {es : List Expr} {t : TA}
theorem pe_own (c : Cal X.prog X.w X.K X.mg X.base k x ps sp) (hr : Room j X.A) (hk : k ≤ j) (hg : Gl X x) (ha : PA X (e :: es) t)
    (hdb : (x == ("__debug__" : Str)) = false := by decide) (he : starEach (e :: es) X.env = (false, eval e X.env) :: starEach es X.env := by rfl) (hpl : (backTo pos (starEach es X.env)).any (·.1) = false := by rfl) :
    PE X (.Call (.Name x p) (e :: es) [] pos) (tCall sp [] E0 t) := by
  obtain ⟨f, fd, F, hm, kp, b, _⟩ := c.ex
  exact pe_call F (hr.mono hk) hg hm kp b .nil pass0 ha hdb he hpl
theorem pe_cst {v : V} (h : ∃ u, X.mg x = some u ∧ RelV v u) (hg : Gl X x) (hdb : (x == ("__debug__" : Str)) = false := by decide) : PE X (.Name x pos) (tC v) := by
  obtain ⟨u, hm, r⟩ := h
  exact pe_glob hg hm r hdb
end
def tMid (t : TE) : TE := fun σ H Q => ∃ M : VK, t σ H M ∧ ∀ v G, M v G → Q v G
theorem pe_mid {X : Cx} {e : Expr} {t : TE} (d : PE X e t) : PE X e (tMid t) := ⟨fun pins s σ H Q I ⟨M, m, k⟩ => thn (d.run pins s σ H M I m) fun u s1 ⟨v, G, I1, r1, m1⟩ => ⟨v, G, I1, r1, k v G m1⟩⟩
/-! ### heaps -/
theorem same_new {H : Hp} {p : Addr} {o : HO} (h : H p = none) : Same H (upd H p o) := fun b x e => by
  rw [upd_ne (ne_of_none e h)]
  exact e
/-- a pot of three ints stands at p -/
def Pot (H : Hp) (p : Addr) : Prop := ∃ x y z : Int, H p = some (.lst [.int x, .int y, .int z])
/-- from H to G the pot at p may have changed, the rest stands -/
structure Ladled (p : Addr) (H G : Hp) : Prop where
  pot : Pot G p
  keep : ∀ b o, H b = some o → b ≠ p → G b = some o
theorem Pot.some {H : Hp} {p : Addr} (h : Pot H p) : ∃ o, H p = some o := by
  obtain ⟨x, y, z, e⟩ := h
  exact ⟨_, e⟩
theorem Pot.same {H G : Hp} {p : Addr} (s : Same H G) (h : Pot H p) : Pot G p := by
  obtain ⟨x, y, z, e⟩ := h
  exact ⟨x, y, z, s _ _ e⟩
theorem Ladled.refl {H : Hp} {p : Addr} (h : Pot H p) : Ladled p H H := ⟨h, fun _ _ e _ => e⟩
theorem Ladled.trans {H G J : Hp} {p : Addr} (a : Ladled p H G) (b : Ladled p G J) : Ladled p H J := ⟨b.pot, fun c o e n => b.keep c o (a.keep c o e n) n⟩
theorem Ladled.same {H G J : Hp} {p : Addr} (a : Ladled p H G) (b : Same G J) : Ladled p H J := ⟨a.pot.same b, fun c o e n => b _ _ (a.keep c o e n)⟩
theorem Ladled.ofSame {H G : Hp} {p : Addr} (h : Pot H p) (b : Same H G) : Ladled p H G := ⟨h.same b, fun c o e _ => b _ _ e⟩
theorem Ladled.new {H G : Hp} {p q : Addr} {o : HO} (a : Ladled p H G) (h : G q = none) : Ladled p H (upd G q o) := a.same (same_new h)
theorem Ladled.free {H G : Hp} {p l : Addr} (a : Ladled p H G) (h : G l = none) : H l = none := by
  cases q : H l with
  | none => rfl
  | some o =>
    by_cases e : l = p
    · subst e
      obtain ⟨u, hu⟩ := a.pot.some
      rw [hu] at h
      cases h
    · rw [a.keep l o q e] at h
      cases h
/-- what is not known at first may change -/
theorem Ladled.mut {H G : Hp} {p q : Addr} {o : HO} (a : Ladled p H G) (h : H q = none) (n : q ≠ p) : Ladled p H (upd G q o) := by
  refine ⟨?_, fun b u e nb => ?_⟩
  · obtain ⟨x, y, z, e⟩ := a.pot
    exact ⟨x, y, z, by rw [upd_ne (Ne.symm n)]; exact e⟩
  · rw [upd_ne (ne_of_none e h)]
    exact a.keep b u e nb
end Gu
namespace Gu
open PySem PySem.Spec PyProof.Rows L2
/-! ### errors of the program's own, with one field -/
/-- the places of an __init__ that stores what it gets -/
structure Spots where
  a : Pos
  b : Pos
  c : Pos
  d : Pos
  e : Pos
  f : Pos
def eArgs (F : Str) (p : Spots) : Arguments := { posonlyargs := [], args := [⟨"self", none, p.a⟩, ⟨F, none, p.b⟩], vararg := none, kwonlyargs := [], kw_defaults := [], kwarg := none, defaults := [] }
def eBody (F : Str) (p : Spots) : List Stmt := [.Assign [.Attribute (.Name "self" p.c) F p.d] (.Name F p.e) p.f]
def eScope (F : Str) : Scope := { kind := .function, names := [("self", .local), (F, .local)], isGenerator := false, isCoroutine := false, more := [] }
/-- a built-in class of errors that an own class stands over -/
structure BaseE where
  nm : String
  new : String
  ini : String
  tl : List Value
structure BaseE.ok (b : BaseE) : Prop where
  base : ExcBaseFacts b.nm b.new b.ini b.tl
  store : StoreFacts b.nm b.tl "object.__setattr__" "object"
  plain : ∀ D : Addr, b.tl.contains (.ref D) = false
def bVE : BaseE := ⟨"ValueError", "ValueError.__new__", "ValueError.__init__", [.type "ValueError", .type "Exception", .type "BaseException", .type "object"]⟩
theorem bVE_ok : bVE.ok := ⟨F.excBase_ValueError, F.store_ValueError, fun D => rfl⟩
/-- what the top has left of the class named N, at C, over the own class at U and the built-in b -/
structure ErrK (K : PySem.W.Frag) (mg : Str → Option Value) (b : BaseE) (U : Addr) (N : Str) (C : Addr) : Prop where
  bok : b.ok
  g : mg N = some (.ref C)
  cls : ∃ q M bs sn sub ab col dd k0 k1 k2 k3 k5, K.lookup C = some (excClassObj N q C M bs (.ref U :: b.tl) true sn sub ab col dd k0 k1 k2 k3 k5 b.new)
  sa : PySem.W.findIn K (.ref C) "__setattr__" = some (some (.builtin "object.__setattr__"))
  ga : PySem.W.findIn K (.ref C) "__getattribute__" = some (some (.builtin "BaseException.__getattribute__"))
  gg : PySem.W.findIn K (.ref C) "__getattr__" = some none
  kC : PySem.W.keepIn K (.ref C) = true
  ty : PySem.W.typeIn K (.ref C) = some (.type "type")
  ca : PySem.W.findIn K (.ref C) "__class__" = some (some (.builtin "object.__class__"))
  cn : PySem.W.specialIn K (.builtin "object.__class__") "__get__" = some (some (.builtin "getset_descriptor.__get__"))
  ct : PySem.W.takesIn K (.builtin "object.__class__") = some true
structure ErrF (K : PySem.W.Frag) (N F : Str) (C : Addr) : Prop where
  nm : F = "value" ∨ F = "index" ∨ F = "limit"
  no : PySem.W.findIn K (.ref C) F = some none
  init : ∃ (f : Addr) (st : Stmt) (p : Spots) (fd : FuncData), PySem.W.findIn K (.ref C) "__init__" = some (some (.ref f)) ∧ PySem.W.typeIn K (.ref f) = some (.type "function") ∧ L2.Fun K "__init__" (N ++ ".__init__") st f fd ∧ defArgs st = eArgs F p ∧ defBody st = eBody F p ∧ defScope st = eScope F
section
variable {K : PySem.W.Frag} {mg : Str → Option Value} {b : BaseE} {U C : Addr} {N F : Str}
theorem ErrK.cd (T : ErrK K mg b U N C) : ∃ cd : ClassData, PySem.W.clsIn K C = some cd ∧ cd.mro = .ref C :: .ref U :: b.tl ∧ cd.hasDict = true ∧ cd.name = N := by
  obtain ⟨q, M, bs, sn, sub, ab, col, dd, k0, k1, k2, k3, k5, e⟩ := T.cls
  refine ⟨{ name := N, bases := bs, mro := .ref C :: .ref U :: b.tl, ns := M, qualname := q, hasDict := true, slotNames := sn, subclasses := sub, abstract := ab, collection := col, hasDel := false }, ?_, rfl, rfl, rfl⟩
  unfold PySem.W.clsIn
  rw [e]
theorem ErrK.sub (T : ErrK K mg b U N C) (c : Value) : PySem.W.subIn K (.ref C) c = some ((Value.ref C :: .ref U :: b.tl).contains c) := by
  obtain ⟨cd, e, m, _⟩ := T.cd
  show PySem.W.mroIn K C c = _
  unfold PySem.W.mroIn
  rw [e, Option.bind_some, m, if_neg (by simp)]
theorem ErrK.subT (T : ErrK K mg b U N C) (X : String) : PySem.W.subIn K (.ref C) (.type X) = some (b.tl.contains (.type X)) := by
  rw [T.sub, List.contains_cons, List.contains_cons]
  rfl
theorem ErrK.exC (T : ErrK K mg b U N C) : PySem.W.subIn K (.ref C) (.type "BaseException") = some true := by
  rw [T.subT, T.bok.base.hasBase]
theorem ErrK.obj (T : ErrK K mg b U N C) : PySem.W.mroIn K C (.type "object") = some true := by
  show PySem.W.subIn K (.ref C) _ = _
  rw [T.subT, T.bok.store.hasOwner]
theorem ErrK.hd (T : ErrK K mg b U N C) : PySem.W.hasDictIn K C = true := by
  obtain ⟨cd, e, _, h, _⟩ := T.cd
  unfold PySem.W.hasDictIn
  rw [e]
  exact h
theorem ErrK.isC (T : ErrK K mg b U N C) : (PySem.W.clsIn K C).isSome = true := by
  obtain ⟨cd, e, _⟩ := T.cd
  rw [e]
  rfl
theorem name_at {D : Addr} {q q2 : Str} {M M2 : Addr} {N2 : Str} {bs bm bs2 bm2 : List Value} {sn sn2 : List Str} {sub sub2 : List Value} {ab ab2 : Bool} {col col2 : Option Bool} {dd dd2 : Option Addr} {k0 k1 k2 k3 k5 j0 j1 j2 j3 j5 : Option Value} {ni nj : String}
    (a : K.lookup C = some (excClassObj N q C M bs bm true sn sub ab col dd k0 k1 k2 k3 k5 ni)) (c : K.lookup D = some (excClassObj N2 q2 D M2 bs2 bm2 true sn2 sub2 ab2 col2 dd2 j0 j1 j2 j3 j5 nj)) (e : C = D) : N = N2 := by
  subst e
  have z := a.symm.trans c
  injection z with z
  injection z with _ _ z
  injection z with z
  injection z
/-- is an error of C one of D, D of the same make? -/
theorem ErrK.eqv {b2 : BaseE} {U2 D : Addr} {M : Str} (T : ErrK K mg b U N C) (S : ErrK K mg b2 U2 M D) (ne : U ≠ D) : PySem.W.subIn K (.ref C) (.ref D) = some (decide (N = M)) := by
  rw [T.sub, List.contains_cons, List.contains_cons, T.bok.plain, Bool.or_false]
  have u : (Value.ref D == Value.ref U) = false := beq_eq_false_iff_ne.mpr fun z => ne (Value.ref.inj z).symm
  rw [u, Bool.or_false]
  by_cases h : N = M
  · have e : C = D := by
      have a := T.g
      rw [h, S.g] at a
      exact (Value.ref.inj (Option.some.inj a)).symm
    rw [decide_eq_true h, e, beq_self_eq_true]
  · have e : (Value.ref D == Value.ref C) = false := beq_eq_false_iff_ne.mpr fun z => by
      obtain ⟨q, M1, bs, sn, sub, ab, col, dd, k0, k1, k2, k3, k5, a⟩ := T.cls
      obtain ⟨q2, M2, bs2, sn2, sub2, ab2, col2, dd2, j0, j1, j2, j3, j5, c⟩ := S.cls
      exact h (name_at a c (Value.ref.inj z).symm)
    rw [e, decide_eq_false h]
/-- an own class right over a built-in one -/
structure UpK (K : PySem.W.Frag) (mg : Str → Option Value) (b : BaseE) (N : Str) (U : Addr) : Prop where
  g : mg N = some (.ref U)
  cls : ∃ q M bs sn sub ab col dd k0 k1 k2 k3 k5, K.lookup U = some (excClassObj N q U M bs b.tl true sn sub ab col dd k0 k1 k2 k3 k5 b.new)
  ty : PySem.W.typeIn K (.ref U) = some (.type "type")
theorem UpK.isC {V : Addr} (S : UpK K mg b F V) : (PySem.W.clsIn K V).isSome = true := by
  obtain ⟨q, M, bs, sn, sub, ab, col, dd, k0, k1, k2, k3, k5, e⟩ := S.cls
  unfold PySem.W.clsIn
  rw [e]
  rfl
theorem UpK.exC {V : Addr} (ok : b.ok) (S : UpK K mg b F V) : PySem.W.subIn K (.ref V) (.type "BaseException") = some true := by
  obtain ⟨q, M, bs, sn, sub, ab, col, dd, k0, k1, k2, k3, k5, e⟩ := S.cls
  show PySem.W.mroIn K V _ = _
  unfold PySem.W.mroIn PySem.W.clsIn
  rw [e]
  show (if (Value.ref V :: b.tl).isEmpty = true then none else some ((Value.ref V :: b.tl).contains (.type "BaseException"))) = some true
  rw [if_neg (by simp), List.contains_cons, ok.base.hasBase, Bool.or_true]
theorem ErrK.up (T : ErrK K mg b U N C) : PySem.W.subIn K (.ref C) (.ref U) = some true := by
  rw [T.sub, List.contains_cons, List.contains_cons, beq_self_eq_true, Bool.true_or, Bool.or_true]
theorem UpK.ne {b2 : BaseE} {U2 D V : Addr} {M : Str} (S : UpK K mg b F V) (T : ErrK K mg b2 U2 M D) (h : F ≠ M) : V ≠ D := fun z => by
  obtain ⟨q, M1, bs, sn, sub, ab, col, dd, k0, k1, k2, k3, k5, a⟩ := S.cls
  obtain ⟨q2, M2, bs2, sn2, sub2, ab2, col2, dd2, j0, j1, j2, j3, j5, c⟩ := T.cls
  exact h (name_at a c z)
/-! what except and isinstance ask -/
theorem kit_ref {t : Value} {D : Addr} {r : Bool} (i : (PySem.W.clsIn K D).isSome = true) (ty : PySem.W.typeIn K (.ref D) = some (.type "type")) (s : PySem.W.subIn K t (.ref D) = some r) : PySem.W.kitCls K t (.ref D) = some r := by
  show (if ((PySem.W.clsIn K D).isSome && PySem.W.typeIn K (.ref D) == some (.type "type")) = true then PySem.W.subIn K t (.ref D) else none) = some r
  rw [i, ty, if_pos (by simp)]
  exact s
theorem kit_one {t : Value} {D : Addr} {r : Bool} (h : PySem.W.kitCls K t (.ref D) = some r) (y : t = .ref D → r = true) : PySem.W.kitOne K t (.ref D) = some r := by
  unfold PySem.W.kitOne
  split
  · next e => rw [y (eq_of_beq e)]
  · exact h
theorem ErrK.exm {b2 : BaseE} {U2 D : Addr} {M : Str} (T : ErrK K mg b U N C) (S : ErrK K mg b2 U2 M D) (ne : U ≠ D) : PySem.W.exmOne K (.ref C) (.ref D) = some (decide (N = M)) := by
  unfold PySem.W.exmOne
  rw [S.exC, if_pos (by simp)]
  exact kit_ref S.isC S.ty (T.eqv S ne)
theorem ErrK.kitU (T : ErrK K mg b U N C) (S : UpK K mg b F U) : PySem.W.kitOne K (.ref C) (.ref U) = some true := kit_one (kit_ref S.isC S.ty T.up) fun _ => rfl
theorem ErrK.kitV (T : ErrK K mg b U N C) (h : PySem.W.kitMeta b.nm = true) : PySem.W.kitOne K (.ref C) (.type b.nm) = some true := by
  unfold PySem.W.kitOne
  rw [if_neg (by simp)]
  show (if PySem.W.kitMeta b.nm = true then PySem.W.subIn K (.ref C) (.type b.nm) else none) = some true
  rw [if_pos h, T.subT, T.bok.base.hasB]
end
end Gu
namespace Gu
open PySem PySem.Spec PyProof.Rows L2 HandSPX
/-! ### such an error is made -/
section
variable {prog : Program} {w : World} {A : Around} {E : Value → Shared → Prop} {R : Result → Shared → Prop} {K : PySem.W.Frag} {mg : Str → Option Value} {b : BaseE} {U C : Addr} {N Fl : Str}
/-- a first field is laid: its dict is new -/
theorem err_store {hp : Heap} {g : Array GenState} {dr : Drawn} {tk0 : Nat} {os : OsState} {tk : Tok} {v : Value} {x : Addr} {fv : Array Value} (T : ErrK K mg b U N C) (inK : K.In hp) (at_x : hp.get? x = some { cls := .ref C, data := .fields fv }) (no : PySem.W.findIn K (.ref C) Fl = some none)
    (k : ∀ (h1 : Heap) (t1 : Nat) (dx : Addr), (∀ c o, c ≠ x → hp.get? c = some o → h1.get? c = some o) → hp.objs.size ≤ dx → dx ≠ x → h1.get? x = some { cls := .ref C, dict := some dx, data := .fields fv } → h1.Ns1 dx (fun y => if y = Fl then some v else none) → R (.ok (.ret .none)) ⟨h1, g, dr, t1, os⟩) :
    codeAny (model prog w) A (.call (.builtin "object.__setattr__") ⟨[.ref x, .str Fl tk, v], []⟩) R ⟨hp, g, dr, tk0, os⟩ := by
  obtain ⟨cd, ecd, em, eh, _⟩ := T.cd
  have inst : PySem.W.InstAt hp x { cls := .ref C, data := .fields fv } C none := ⟨at_x, rfl, rfl, trivial⟩
  have old : x ≠ hp.objs.size := Nat.ne_of_lt (Heap.lt_size at_x)
  have isO : PySem.W.Looks (model prog w) hp (isInstance (.ref x) (.type "object")) true := inst.type.andThen (PySem.W.looks_mroIn inK T.obj)
  have facts := PySem.F.store_object
  refine codeAny_call_builtin facts.slot.plain facts.entry (@PySem.W.check_slot (model prog w) _ _ ⟨hp, g, dr, tk0, os⟩ "object.__setattr__" "object" "__setattr__" (.ref x) [.str Fl tk, v] [] _ facts.kind facts.split isO (facts.args (.ref x) (.str Fl tk) v) ?_)
  have look : PySem.W.Looks (model prog w) hp (classData C) cd := PySem.W.looks_clsIn inK ecd
  have mro : PySem.W.Looks (model prog w) hp (mroOf (.ref C)) cd.mro := look.andThen .now
  have none' : PySem.W.Looks (model prog w) hp (Builtin.ObjectAttr.storeTaker? none) none := .now
  rw [PySem.W.osa_eq, refuse_eq]
  refine wpAny_bind (wpAny_bind (inst.type.at (wpAny_bind (mro.at ?_))))
  rw [em, refuseLoop_ref, refuseLoop_ref, T.bok.store.passes]
  refine wpAny_pure (wpAny_bind (inst.type.at (wpAny_bind ((PySem.W.looks_findIn inK no).at (wpAny_bind (none'.at ?_))))))
  obtain ⟨nm, bs, mr, ns, qn, hd, sn, sb, ab, col, del⟩ := cd
  dsimp only at eh
  subst eh
  show wpAny _ _ (Builtin.ObjectAttr.storeInOwnDict (.ref x) (.ref C) (.str Fl tk) Fl v false) _ _ _
  unfold Builtin.ObjectAttr.storeInOwnDict Builtin.ObjectAttr.ownDictForStores
  repeat (first | with_reducible refine store_in_new ?_ ?_ | with_reducible refine look.at ?_ | with_reducible refine wpAny_loadPart_at at_x ?_ | wp_step)
  · exact ⟨_, #[], _, (Heap.get?_update_ne _ _ _ _ old.symm).trans (Heap.get?_push_at rfl rfl), rfl, fun e he => absurd he (by simp), fun _ => rfl⟩
  · intro h1 t1 hn hs
    refine k h1 t1 hp.objs.size (fun c o hc ho => ?_) (Nat.le_refl _) old.symm ?_ hn
    · exact (hs.2 c (Nat.ne_of_lt (Heap.lt_size ho))).trans ((Heap.get?_update_ne _ _ _ _ hc).trans (Heap.get?_push_of_some _ ho))
    · exact (hs.2 x old).trans (Heap.get?_update_self _ (Heap.get?_push_of_some { cls := .type "dict", data := .dict #[] } at_x) rfl)
/-- what __init__ leaves of a fresh error at x -/
structure InitLeft (h h1 : Heap) (x C dx t1 : Addr) (Fl : Str) (v : Value) : Prop where
  keep : ∀ c o, c ≠ x → h.get? c = some o → h1.get? c = some o
  obj : h1.get? x = some { cls := .ref C, dict := some dx, data := .fields #[.ref t1, .none, .none, .none, .bool false, .none] }
  big : h.objs.size ≤ dx
  ne : dx ≠ x
  ns : h1.Ns1 dx (fun y => if y = Fl then some v else none)
theorem here_local {M : Model} {s : Shared} {name : Str} {scope : Scope} {L a : Addr} {cd : Value} {m : Str → Option Value} {x : Str} {pos : Pos} {v : Value} {Q : Value → Shared → Prop} (ns : s.heap.Ns L m) (hv : m x = some v) (q : Q v s)
    (hk : scope.kind = .function := by rfl) (hl : (envOfC name scope L a cd).kindOf x = some .local := by rfl) (hd : (x == ("__debug__" : Str)) = false := by decide) : wpAny M A (eval (.Name x pos) (envOfC name scope L a cd)) Q E s := wpAny_Name (wpAny_loadName_local hk hl ns hv q) hd
theorem err_init {s : Shared} {f x t0 : Addr} {v : Value} {st : Stmt} {p : Spots} {fd : FuncData} (T : ErrK K mg b U N C) (no : PySem.W.findIn K (.ref C) Fl = some none) (hF : Fl = "value" ∨ Fl = "index" ∨ Fl = "limit") (G : L2.Fun K "__init__" (N ++ ".__init__") st f fd) (e1 : defArgs st = eArgs Fl p) (e2 : defBody st = eBody Fl p) (e3 : defScope st = eScope Fl)
    (inK : K.In s.heap) (lim : s.heap.NoLimit) (at_x : s.heap.get? x = some (excO C t0)) (room : A.depth < recursionLimit)
    (k : ∀ h1 tk dx, InitLeft s.heap h1 x C dx t0 Fl v → R (.ok (.ret .none)) { s with heap := h1, toks := tk }) : codeAny (model prog w) A (.call (.ref f) ⟨[.ref x, v], []⟩) R s := by
  obtain ⟨oc, od, kV, doc, pm, an, cdv, ct, osl, ef, lk, hcd⟩ := G.ex
  rw [ef, e1, e2, e3] at lk
  have main : ∀ s1, InCallC s s.heap.objs.size (bindL (envOfC (N ++ ".__init__") (eScope Fl) s.heap.objs.size f cdv).kindOf [("self", .ref x), (Fl, v)] fun _ => none) (cellsFrom (s.heap.objs.size + 1) (eScope Fl).names []) (bindC (envOfC (N ++ ".__init__") (eScope Fl) s.heap.objs.size f cdv).kindOf [("self", .ref x), (Fl, v)] fun _ => none) s1 →
      wpAny (model prog w) (A.deeper (envOfC (N ++ ".__init__") (eScope Fl) s.heap.objs.size f cdv)) (execs (eBody Fl p) (envOfC (N ++ ".__init__") (eScope Fl) s.heap.objs.size f cdv)) (fun fl s' => R (.ok (.ret (match fl with | .ret v => v | _ => .none))) s')
        (fun e s' => wpAny (model prog w) (A.deeper (envOfC (N ++ ".__init__") (eScope Fl) s.heap.objs.size f cdv)) (leaving (envOfC (N ++ ".__init__") (eScope Fl) s.heap.objs.size f cdv) e) (fun _ s'' => R (.error e) s'') (fun e' s'' => R (.error e') s'') s') s1 := by
    intro s1 c1
    obtain ⟨h1, tk1, rfl⟩ := c1.toInCall.same
    have keep : ∀ c o, s.heap.get? c = some o → h1.get? c = some o := c1.toInCall.keep
    have ns := c1.toInCall.ns
    refine wpAny_execs_cons (plainObj_wpAny_Assign_Attribute ?_ ?_)
    · have v1 : (bindL (envOfC (N ++ ".__init__") (eScope Fl) s.heap.objs.size f cdv).kindOf [("self", .ref x), (Fl, v)] fun _ => none) Fl = some v := by
        rcases hF with rfl | rfl | rfl <;> first | rfl | with_unfolding_all rfl | kernel_rfl
      have v2 : (bindL (envOfC (N ++ ".__init__") (eScope Fl) s.heap.objs.size f cdv).kindOf [("self", .ref x), (Fl, v)] fun _ => none) "self" = some (.ref x) := by
        rcases hF with rfl | rfl | rfl <;> first | rfl | with_unfolding_all rfl | kernel_rfl
      refine here_local (v := v) ns v1 (here_local (v := .ref x) ns v2 ?_ rfl rfl (by decide)) rfl (by rcases hF with rfl | rfl | rfl <;> rfl) (by rcases hF with rfl | rfl | rfl <;> decide)
      refine PySem.W.set_plain (inK.keeps keep) (ox := excO C t0) (od := none) ⟨keep _ _ at_x, rfl, rfl, trivial⟩ T.sa ?_
      refine err_store T (inK.keeps keep) (keep _ _ at_x) no fun h3 tk3 dx k3 big ne hx hn => ?_
      have z : s.heap.objs.size < h1.objs.size := ns.lt
      exact wpAny_execs_nil (k h3 tk3 dx ⟨fun c o hc e => k3 c o hc (keep c o e), hx, Nat.le_of_lt (Nat.lt_of_lt_of_le z big), ne, hn⟩)
    · rfl
  refine Att.call_fn (binds := [("self", .ref x), (Fl, v)]) inK lim lk hcd room ?_ ?_ main rfl rfl rfl
  · rcases hF with rfl | rfl | rfl <;> exact BindsTo.of_eq (by first | rfl | with_unfolding_all rfl)
  · rcases hF with rfl | rfl | rfl <;> first | rfl | decide | with_unfolding_all rfl
end
end Gu
namespace Gu
open PySem PySem.Spec PyProof.Rows L2 HandSPX
section
variable {prog : Program} {w : World} {A : Around} {E : Value → Shared → Prop} {R : Result → Shared → Prop} {K : PySem.W.Frag} {mg : Str → Option Value} {b : BaseE} {U C : Addr} {N Fl : Str}
/-- an error that is made: at e, its dict at d -/
structure MadeE (h h1 : Heap) (e C d : Addr) (Fl : Str) (v : Value) : Prop where
  keep : ∀ c o, h.get? c = some o → h1.get? c = some o
  new : h.objs.size ≤ e
  obj : ∃ oe vs, h1.get? e = some oe ∧ oe.cls = .ref C ∧ oe.dict = some d ∧ oe.data = .fields vs ∧ vs[1]? = some .none
  big : h.objs.size ≤ d
  ne : d ≠ e
  ns : h1.Ns1 d (fun y => if y = Fl then some v else none)
theorem one_fits (v : Value) : [v].length ≤ sizeLine := by
  show 1 ≤ sizeLine
  decide
theorem err_made {s : Shared} {v : Value} (T : ErrK K mg b U N C) (S : ErrF K N Fl C) (inK : K.In s.heap) (lim : s.heap.NoLimit) (room : A.depth + 1 < recursionLimit) (k : ∀ h1 tk e d, MadeE s.heap h1 e C d Fl v → R (.ok (.ret (.ref e))) { s with heap := h1, toks := tk }) :
    codeAny (model prog w) A (.call (.ref C) ⟨[v], []⟩) R s := by
  obtain ⟨q, M, bs, sn, sub, ab, col, dd, k0, k1, k2, k3, k5, hC⟩ := T.cls
  obtain ⟨f, st, p, fd, hf, tf, G, e1, e2, e3⟩ := S.init
  obtain ⟨hp, g, dr, tk, os⟩ := s
  have old : ∀ c o, hp.get? c = some o → ((hp.push (PySem.W.kdv_tup [v])).push (excO C hp.objs.size)).get? c = some o := fun c o e => Heap.get?_push_of_some _ (Heap.get?_push_of_some _ e)
  have here : ((hp.push (PySem.W.kdv_tup [v])).push (excO C hp.objs.size)).get? (hp.objs.size + 1) = some (excO C hp.objs.size) := by heap_get
  refine call_own T.bok.base (fun X => by rw [List.contains_cons]; rfl) (inK _ _ hC) (PySem.W.looks_findIn inK hf) (fun self => PySem.W.bind_fn inK self tf) (one_fits v) ?_
  refine err_init (s := ⟨(hp.push (PySem.W.kdv_tup [v])).push (excO C hp.objs.size), g, dr, tk, os⟩) T S.no S.nm G e1 e2 e3 (inK.keeps old) (lim.keeps old) here room fun h1 t1 dx L => ?_
  have old1 : ∀ c o, hp.get? c = some o → h1.get? c = some o := fun c o e => L.keep c o (Nat.ne_of_lt (Nat.lt_succ_of_lt (Heap.lt_size e))) (old c o e)
  have z : hp.objs.size + 1 + 1 ≤ dx := by
    have q := L.big
    rw [Heap.size_push, Heap.size_push] at q
    exact q
  exact ⟨rfl, k h1 t1 (hp.objs.size + 1) dx ⟨old1, Nat.le_succ _, ⟨_, _, L.obj, rfl, rfl, rfl, rfl⟩, by show hp.objs.size ≤ dx; omega, L.ne, L.ns⟩⟩
end
theorem relO_one {Fl : Str} {v : V} {u : Value} (r : RelV v u) (g : Str) : RelO (List.lookup g [(Fl, v)]) (if g = Fl then some u else none) := by
  by_cases h : g = Fl
  · subst h
    rw [if_pos rfl, show List.lookup g [(g, v)] = some v by simp [List.lookup]]
    exact r
  · have q : (g == Fl) = false := by simpa using h
    rw [if_neg h, show List.lookup g [(Fl, v)] = none by simp [List.lookup, q]]
    trivial
section
variable {X : Cx} {b : BaseE} {U C : Addr} {N Fl : Str}
/-- N(e) -/
def tMkE (C : Addr) (Fl : Str) (ta : TA) : L2.St → Hp → XK → Prop := fun σ H Q => ta σ H fun vs G => ∃ v, vs = [v] ∧ ∀ d, G d = none → Q (.ref C) (some d) (upd G d (.xd [(Fl, v)]))
theorem pmk_err {a : Expr} {ta : TA} {p pos : Pos} {k : Nat} (T : ErrK X.K X.mg b U N C) (S : ErrF X.K N Fl C) (hr : Room k X.A) (ha : PA X [a] ta) (hg : Gl X N) (hdb : (N == ("__debug__" : Str)) = false)
    (he : starEach (a :: []) X.env = (false, eval a X.env) :: starEach [] X.env := by rfl) (hpl : (backTo pos (starEach [] X.env)).any (·.1) = false := by rfl) : PMk X (.Call (.Name N p) [a] [] pos) (tMkE C Fl ta) := by
  intro pins s σ H Q I want
  refine wpAny_Call_Name_kw (ld_glob I hg T.g ?_ hdb)
  refine PySem.W.callWith_K (h₀ := X.base) I.ok.mod.kin T.kC (thn (ha.run pos pins s σ H _ I want) fun us s1 ⟨vs, G, I1, r, v, ev, q⟩ => ⟨I1.kIn, ?_⟩) he hpl
  subst ev
  cases r with
  | @cons _ u _ _ rv rn =>
    cases rn
    have lim := I1.nolimit
    obtain ⟨hp, g, dr, tk, os⟩ := s1
    show wpAny _ _ (call (.ref C) [u]) _ _ _
    refine wpAny_call (err_made (v := u) T S I1.kIn lim (by have := hr.dp; omega) fun h1 t1 e d M => ?_)
    obtain ⟨oe, fv, hoe, hc, hd, hdat, h1n⟩ := M.obj
    obtain ⟨B, b1, b2⟩ := restrict h1 fun c => decide (c ≠ e)
    have inB : ∀ c, c ≠ e → B.get? c = h1.get? c := fun c hc => b1 c (decide_eq_true hc)
    have noB : B.get? e = none := b2 e (by simp)
    have old : ∀ c o, hp.get? c = some o → B.get? c = some o := fun c o z => (inB c (Nat.ne_of_lt (Nat.lt_of_lt_of_le (Heap.lt_size z) M.new))).trans (M.keep c o z)
    have ob : ObjOk X.prog X.w (upd G d (.xd [(Fl, v)])) B d (.xd [(Fl, v)]) := ⟨_, M.ns.at (fun o z => (inB d M.ne).trans z), fun y => relO_one rv y⟩
    have J : Inv X pins σ (upd G d (.xd [(Fl, v)])) ⟨B, g, dr, t1, os⟩ := I1.laid (t' := t1) old M.big ob
    show MkP X pins σ Q (.ref e) ⟨h1, g, dr, t1, os⟩
    refine ⟨e, oe, fv, ⟨B, g, dr, t1, os⟩, _, .ref C, some d, rfl, J, fun c o z => ?_, noB, hoe, ⟨hc, hd⟩, hdat, h1n, ?_, rfl, I1.bare, raises_own T.exC T.ty, q d (I1.hok.fresh M.big)⟩
    · by_cases hce : c = e
      · have z : B.get? c = some o := z
        rw [hce, noB] at z
        cases z
      · exact (inB c hce).symm.trans z
    · rw [upd_ne (Ne.symm M.ne)]
      exact I1.hok.fresh M.new
/-- raise N(e) -/
def tRaiseE (C : Addr) (Fl : Str) (W : WX) (ta : TA) : TS := fun _ σ H => tMkE C Fl ta σ H fun cls d G => W cls d σ G
theorem ps_raiseE {a : Expr} {ta : TA} {W : WX} {p pos pos2 : Pos} {k : Nat} (T : ErrK X.K X.mg b U N C) (S : ErrF X.K N Fl C) (hc : X.calm = true) (hr : Room k X.A) (tk : Takes X W) (ha : PA X [a] ta) (hg : Gl X N) (hdb : (N == ("__debug__" : Str)) = false := by decide)
    (he : starEach (a :: []) X.env = (false, eval a X.env) :: starEach [] X.env := by rfl) (hpl : (backTo pos (starEach [] X.env)).any (·.1) = false := by rfl) :
    PS X (.Raise (some (.Call (.Name N p) [a] [] pos)) none pos2) (tRaiseE C Fl W ta) := ps_raise hc tk (pmk_err T S hr ha hg hdb he hpl)
/-! ### an error that is held -/
/-- e.f, e the error at a that is pinned -/
def tXfE (a : Addr) (cls : Value) (d : Option Addr) (C : Addr) (f : Str) (te : TE) : TE := fun σ H Q => te σ H fun x G => x = .ref a ∧ cls = .ref C ∧ ∃ (dd : Addr) (fs : List (Str × V)) (v : V), d = some dd ∧ G dd = some (.xd fs) ∧ fs.lookup f = some v ∧ Q v G
theorem pe_xfE {a : Addr} {oe : Obj} {cls : Value} {d : Option Addr} {e : Expr} {te : TE} {pos : Pos} (T : ErrK X.K X.mg b U N C) (S : ErrF X.K N Fl C) (hp : (a, oe) ∈ X.pn) (hz : Zc cls d oe) (hf : ∃ vs, oe.data = .fields vs) (he : PE X e te) (hb : attributeBase e Fl X.env (eval e X.env) = eval e X.env) :
    PE X (.Attribute e Fl pos) (tXfE a cls d C Fl te) := by
  refine ⟨fun pins s σ H Q I want => attr_of hb (thn (he.run pins s σ H _ I want) fun u s1 ⟨x, G, I1, rx, ex, ec, dd, fs, v, ed, ea, l, q⟩ => ?_)⟩
  subst ex ec ed
  obtain rfl : u = Value.ref a := rx
  obtain ⟨ha, _⟩ := I1.pin (a, oe) (List.mem_append_left _ hp)
  obtain ⟨vs, hd⟩ := hf
  obtain ⟨mA, hns, rel⟩ := (show ObjOk X.prog X.w G s1.heap dd (.xd fs) from I1.hok dd _ ea)
  obtain ⟨od, ho, hl⟩ := lookIn_ns hns
  obtain ⟨u, hu, ru⟩ := RelO.some_of (v := v) (o := mA Fl) (by rw [← l]; exact rel Fl)
  have J : PySem.W.InstAt s1.heap a oe C (some od) := ⟨ha, hz.1, by unfold PySem.W.notCls; rw [hd] <;> rfl, by rw [hz.2]; exact ho⟩
  exact exc_get I1.kIn J T.ga T.gg T.exC (PySem.W.findObj_own T.hd S.no rfl (by rw [hl, hu])) (handed_of ru) ⟨v, G, I1.tok _, ru, q⟩
/-- isinstance(e, c), e the error at a that is pinned -/
def rIsX (K : PySem.W.Frag) (C a : Addr) (cls : Value) (d : Option Addr) : List V → Hp → VK → Prop := fun xs H Q => ∃ (c : V) (cv : Value) (r : Bool), xs = [.ref a, c] ∧ cls = .ref C ∧ (∀ u, RelV c u → u = cv) ∧ PySem.W.kitOne K (.ref C) cv = some r ∧ (∀ dd, d = some dd → ∃ fs, H dd = some (.xd fs)) ∧ Q (.bl r) H
theorem call_isX {a : Addr} {oe : Obj} {cls : Value} {d : Option Addr} (T : ErrK X.K X.mg b U N C) (hp : (a, oe) ∈ X.pn) (hz : Zc cls d oe) (hf : ∃ vs, oe.data = .fields vs) : CallR X (.builtin "isinstance") (rIsX X.K C a cls d) := by
  intro pins s σ H xs us Q I r h
  obtain ⟨c, cv, ans, rfl, rfl, hcv, e, hdd, q⟩ := h
  cases r with
  | cons rx rr =>
    cases rr with
    | cons rt rr =>
      cases rr
      cases rx
      have ec := hcv _ rt
      subst ec
      obtain ⟨get, _⟩ := I.pin (a, oe) (List.mem_append_left _ hp)
      obtain ⟨vs, hv⟩ := hf
      have J : ∃ od, PySem.W.InstAt s.heap a oe C od := by
        obtain ⟨oc, odd, oda, osl⟩ := oe
        obtain ⟨h1, h2⟩ := hz
        dsimp only at h1 h2 hv
        subst h1 h2 hv
        cases odd with
        | none => exact ⟨none, get, rfl, rfl, trivial⟩
        | some dd =>
          obtain ⟨fs, hx⟩ := hdd dd rfl
          obtain ⟨mA, hns, _⟩ := (show ObjOk X.prog X.w H s.heap dd (.xd fs) from I.hok dd _ hx)
          obtain ⟨od, ho, _⟩ := lookIn_ns hns
          exact ⟨some od, get, rfl, rfl, ho⟩
      obtain ⟨od, J⟩ := J
      exact PySem.W.kia_one (PySem.W.kitx_exc T.isC T.ga T.gg T.exC T.ca T.cn T.ct T.obj) I.kIn J e (fun z => nomatch z) fun tk => ⟨.bl ans, H, I.kept (t' := tk) fun _ _ z => z, rfl, q⟩
end
end Gu
namespace Gu
open PySem PySem.Spec PyProof.Rows L2 HandSPX
/-! ### try with several clauses, each of them naming the error -/
/-- the test of a clause: mt tells of the error's class whether it is this one; what stood stands -/
def HTest (X : Cx) (t : Expr) (mt : Value → Option Bool) : Prop := ∀ (a : Addr) (oe : Obj) (cls : Value) (d : Option Addr) (pn pins : List (Addr × Obj)) (σ : L2.St) (H : Hp) (s : Shared) (r : Bool) (Q : Bool → Shared → Prop) (E : Value → Shared → Prop), Inv (X.suite a ((a, oe) :: pn)) pins σ H s → s.heap.get? a = some oe → Zc cls d oe → mt cls = some r →
  (∀ h1 tk, (∀ c o, s.heap.get? c = some o → h1.get? c = some o) → Q r { s with heap := h1, toks := tk }) →
  wpAny (model X.prog X.w) (X.A.mark (some (.ref a))) (eval t X.env) (fun c s1 => wpAny (model X.prog X.w) (X.A.mark (some (.ref a))) (excMatches (.ref a) c) Q E s1) E s
theorem htest_name {X : Cx} {x : Str} {c : Value} {pos : Pos} (hc : Names X x c) : HTest X (.Name x pos) (fun cls => PySem.W.exmOne X.K cls c) := by
  intro a oe cls d pn pins σ H s r Q E I ha hz hm k
  have LT : PySem.W.Looks (model X.prog X.w) s.heap (typeOf (.ref a)) cls := fun A Q E s1 keep q => wpAny_typeOf_ref (keep _ _ ha) (by rw [hz.1]; exact q)
  have LM := PySem.W.exm_one (M := model X.prog X.w) I.kIn LT hm
  have go : wpAny (model X.prog X.w) (X.A.mark (some (.ref a))) (excMatches (.ref a) c) Q E s := LM.here (k s.heap s.toks fun _ _ e => e)
  obtain ⟨hg, hdb, hm | ⟨hm, hv, hn⟩⟩ := hc
  · exact ld_glob (X := X.suite a ((a, oe) :: pn)) I hg hm go hdb
  · exact ld_blt (X := X.suite a ((a, oe) :: pn)) I hg hm hv go hn hdb
/-- what the clauses wish of an error of the body, one after the other; slot i is the error's name -/
def wManyA (i : Nat) (Wout : WX) (D : Ends) : List ((Value → Option Bool) × (Addr → Value → Option Addr → TS)) → WX
  | [] => Wout
  | (mt, ts) :: l => fun cls d σ H => ∃ r, mt cls = some r ∧ (r = true → ∀ a, H a = none → i < σ.length → ts a cls d { nx := fun σ1 G => D.nx (σ1.set i none) G, rt := D.rt, bk := fun σ1 G => D.bk (σ1.set i none) G, ct := fun σ1 G => D.ct (σ1.set i none) G } (σ.set i (some (.ref a))) H) ∧ (r = false → wManyA i Wout D l cls d σ H)
inductive HdsA (X : Cx) (n : Str) : List ExceptHandler → List ((Value → Option Bool) × (Addr → Value → Option Addr → TS)) → Prop
  | nil : HdsA X n [] []
  | cons {t : Expr} {mt : Value → Option Bool} {ts : Addr → Value → Option Addr → TS} {b0 : Stmt} {suite : List Stmt} {pos : Pos} {hds : List ExceptHandler} {l : List ((Value → Option Bool) × (Addr → Value → Option Addr → TS))} (ht : HTest X t mt)
      (hs : ∀ (a : Addr) (oe : Obj) (cls : Value) (d : Option Addr) (pn : List (Addr × Obj)), Zc cls d oe → (∃ vs, oe.data = .fields vs) → PSs (X.suite a ((a, oe) :: pn)) (b0 :: suite) (ts a cls d)) (r : HdsA X n hds l) : HdsA X n (.ExceptHandler (some t) (some n) (b0 :: suite) pos :: hds) ((mt, ts) :: l)
/-- what flies stays so while more is laid -/
theorem flying_keep {B h h1 : Heap} {l : List Env} {e : Addr} {Z : Obj → Prop} (k : ∀ c o, h.get? c = some o → h1.get? c = some o) (f : FlyingZ B l e Z h) : FlyingZ B l e Z h1 := by
  obtain ⟨f1, f2, f3, oe, vs, T, oT, ts, he, hz, hd, a1, a2, a3, a4, a5, a6⟩ := f
  exact ⟨fun b o q => k b o (f1 b o q), f2, f3.of_keeps fun b o hb _ => ⟨o, k b o hb, rfl⟩, oe, vs, T, oT, ts, k _ _ he, hz, hd, a1, a2, a3, k _ _ a4, a5, a6⟩
section
variable {X : Cx} {n : Str} {i : Nat} {body : List Stmt} {h0 : ExceptHandler} {hds : List ExceptHandler} {l : List ((Value → Option Bool) × (Addr → Value → Option Addr → TS))} {pos : Pos} {tb : WX → TS} {Wout : WX}
theorem ps_try_manyA (hs : X.stack = X.env :: X.outer) (hf : X.env.frame = some X.env.locals) (hN : X.N.Nodup) (hi : X.N[i]? = some n) (hln : X.env.kindOf n = some .local) (tk : Takes X Wout)
    (hb : ∀ (W : WX) (pn : List (Addr × Obj)) (xe : Value → Shared → Prop), Takes (X.tr pn xe) W → PassesOwn (model X.prog X.w) X.A X.env xe → PSs (X.tr pn xe) body (tb W))
    (hh : HdsA X n (h0 :: hds) l) : PS X (.Try body (h0 :: hds) [] [] pos) (fun D σ H => tb (wManyA i Wout D l) D σ H) := by
  refine ⟨fun pins s σ H D I want => ?_⟩
  have ok := I.ok
  have frames : X.A.frames = some (X.env :: X.outer) := by rw [ok.frames, hs]
  have loc : Loc X.env.scope n := .inl hln
  refine wpAny_Try_except (wpAny_mono ((hb (wManyA i Wout D l) (X.pn ++ pins) (fun e s1 => wpAny (model X.prog X.w) X.A (noteFrame e X.env) (fun _ s2 => wpAny (model X.prog X.w) X.A (setFlight e none) (fun _ s3 => wpAny (model X.prog X.w) X.A (handleBy e X.env (h0 :: hds)) (SP X pins D) X.xe s3) X.xe s2) X.xe s1) (fun u s1 x1 => ?_) PassesOwn.looking).run [] s σ H D (I.toTry _) want) (fun fl s1 q => ?_) fun e s1 q => q)
  · obtain ⟨a, B, sI, _, σ1, H1, cls, d, rfl, J0, nb, up, sky, na, os, ag, wish⟩ := x1
    have J : Inv X pins σ1 H1 sI := J0.ofTry ok
    rw [hs] at sky
    refine Sky.land Zc.steady frames hf sky fun h3 fl3 up3 => ?_
    have out : ∀ {h : Heap} {o : Obj} {vs : Array Value}, h.FunFrames B (X.env :: X.outer) → h.get? a = some o → o.data = .fields vs → a ≠ X.env.locals ∧ a ∉ X.fs := fun {h o vs} ff e dd => by
      have nf : a ∉ frs (X.env :: X.outer) := fun hm => by
        obtain ⟨_, o2, e2, z⟩ := ff.mem hm
        rw [e] at e2
        cases e2
        exact z _ dd
      exact ⟨fun z => nf (List.mem_filterMap.mpr ⟨X.env, List.mem_cons_self, by rw [hf, z]⟩), fun hm => by
        obtain ⟨e, he, q⟩ := List.mem_filterMap.mp hm
        exact nf (List.mem_filterMap.mpr ⟨e, List.mem_cons_of_mem _ he, q⟩)⟩
    have go : ∀ {hs2 : List ExceptHandler} {l2 : List ((Value → Option Bool) × (Addr → Value → Option Addr → TS))}, HdsA X n hs2 l2 → ∀ (h : Heap) (t : Nat), FlyingZ B (X.env :: X.outer) a (Zc cls d) h → sI.heap.UpToSlots h → wManyA i Wout D l2 cls d σ1 H1 →
        wpAny (model X.prog X.w) X.A (handleBy (.ref a) X.env hs2) (SP X pins D) X.xe { s1 with heap := h, toks := t } := by
      intro hs2 l2 hk
      induction hk with
      | nil =>
        intro h t fl up wish
        refine wpAny_handleBy_nil ?_
        obtain ⟨_, _, _, oe, vs, T, oT, ts, he, hz, hd, h1, _⟩ := id fl
        unfold PySem.passOn
        refine wpAny_bind (wpAny_field he hd h1 ?_)
        rw [if_neg (by simp)]
        have last : wpAny (model X.prog X.w) X.A (setFlight (.ref a) X.env.frame) (fun _ s4 => wpAny (model X.prog X.w) X.A (throw (.ref a) : Sem Flow) (SP X pins D) X.xe s4) X.xe { s1 with heap := h, toks := t } := by
          rw [hf]
          refine setFlight_upZ fl fun h4 hh4 up4 => wpAny_throw (tk _ _ ?_)
          exact ⟨a, B, sI, pins, σ1, H1, cls, d, rfl, J, nb, up.trans up4, .inr (.inr (by rw [hs]; exact hh4)), na, os, ag, wish⟩
        first
          | exact wpAny_bind (wpAny_pure (wpAny_bind last))
          | exact wpAny_bind last
      | @cons t mt ts b0 suite pos2 hds2 l2 ht hsu r ih =>
        intro h tok fl up wish
        obtain ⟨ans, hm, yes, no⟩ := wish
        have J3 : Inv X pins σ1 H1 { s1 with heap := h, toks := tok } := J.landed (s' := { s1 with heap := h, toks := tok }) nb fl.1 up os ag
        obtain ⟨oe, vs, he, hz, hd⟩ := fl.there
        have nn := out fl.2.2.1 he hd
        have S3 := J3.suite he hd na nn.1 nn.2
        refine wpAny_handleBy_cons (codeAny_handlers_test ?_) (by intro q; cases q)
        refine ht a oe cls d (X.pn ++ pins) [] σ1 H1 { s1 with heap := h, toks := tok } ans _ _ S3 he hz hm fun h4 tok4 k4 => ?_
        have fl4 := flying_keep k4 fl
        have up4 : sI.heap.UpToSlots h4 := up.trans fun b o hb _ => ⟨o.slots, k4 b o hb⟩
        cases ans with
        | false => exact ih h4 tok4 fl4 up4 (no rfl)
        | true =>
          refine codeAny_handlers_suite_as (lands_againZ fl4 fun h5 fl5 up5 => ?_)
          have J5 : Inv X pins σ1 H1 { s1 with heap := h5, toks := tok4 } := J.landed (s' := { s1 with heap := h5, toks := tok4 }) nb fl5.1 (up4.trans up5) os ag
          obtain ⟨oe5, vs5, he5, hz5, hd5⟩ := fl5.there
          have n5 := out fl5.2.2.1 he5 hd5
          refine store_ok (X := X.suite a ((a, oe5) :: (X.pn ++ pins))) (v := .ref a) (J5.suite he5 hd5 na n5.1 n5.2) hN hi loc rfl (fun s6 S6 => ?_) (.inr hln)
          refine wpAny_mono ((hsu a oe5 cls d (X.pn ++ pins) hz5 ⟨_, hd5⟩).run [] s6 _ H1 _ S6 (yes rfl a na (by rw [J5.len]; exact (List.getElem?_eq_some_iff.mp hi).1))) (fun fl7 s7 q7 => ?_) fun _ _ z => False.elim z
          have gone : ∀ {σ7 : L2.St} {H7 : Hp} {Q : Shared → Prop}, Inv (X.suite a ((a, oe5) :: (X.pn ++ pins))) [] σ7 H7 s7 → (∀ s8, Inv X pins (σ7.set i none) H7 s8 → Q s8) → wpAny (model X.prog X.w) X.A (do bindName X.env n .none; unbindBehindTheSuite X.env n pos2) (fun _ s8 => Q s8) X.xe s7 := fun {σ7 H7 Q} S7 hq => gone_ok (S7.unsuite ok) hN hi hln hq
          cases fl7 with
          | next =>
            obtain ⟨σ7, H7, S7, q7⟩ := q7
            exact gone S7 fun s8 J8 => ⟨_, _, J8, q7⟩
          | brk =>
            obtain ⟨σ7, H7, S7, q7⟩ := q7
            exact gone S7 fun s8 J8 => ⟨_, _, J8, q7⟩
          | cont =>
            obtain ⟨σ7, H7, S7, q7⟩ := q7
            exact gone S7 fun s8 J8 => ⟨_, _, J8, q7⟩
          | ret u =>
            obtain ⟨v7, σ7, H7, S7, r7, q7⟩ := q7
            exact gone S7 fun s8 J8 => ⟨_, _, _, J8, r7, q7⟩
    exact go hh h3 s1.toks fl3 (up.trans up3) wish
  · cases fl with
    | next =>
      obtain ⟨σ1, H1, J1, q⟩ := q
      exact wpAny_execs_nil ⟨σ1, H1, J1.ofTry ok, q⟩
    | brk =>
      obtain ⟨σ1, H1, J1, q⟩ := q
      exact ⟨σ1, H1, J1.ofTry ok, q⟩
    | cont =>
      obtain ⟨σ1, H1, J1, q⟩ := q
      exact ⟨σ1, H1, J1.ofTry ok, q⟩
    | ret u =>
      obtain ⟨v, σ1, H1, J1, r, q⟩ := q
      exact ⟨v, σ1, H1, J1.ofTry ok, r, q⟩
end
end Gu
namespace Gu
open PySem PySem.Spec PyProof.Rows L2
/-! ### defs that are called where no container is being written out -/
structure FnG (P : Program) (w : World) (K : PySem.W.Frag) (mg : Str → Option Value) (base : Heap) (k : Nat) (f : Addr) (fd : FuncData) (ps : List Str) (sp : Sp) : Prop where
  len : ∀ vs H Q E, sp vs H Q E → vs.length = ps.length
  run : ∀ (A : Around) (outer : List Env) (s : Shared) (H : Hp) (args : Args) (us : List Value) (vs : List V) (Q : VK) (E : XK), Room k A → A.guards = some [] → Env0 P w K mg base A outer s H → BindsTo s fd args (ps.zip us) → Vals vs us → sp vs H Q E →
    codeAny (model P w) A (.call (.ref f) args) (CR CX0 outer P w H s Q E) s
section
variable {P : Program} {w : World} {K : PySem.W.Frag} {mg : Str → Option Value} {base : Heap}
theorem okG {x qual : Str} {st : Stmt} {f : Addr} {fd : FuncData} {N ps : List Str} {k : Nat} {sp : Sp} (F : Fun K x qual st f fd) (S : FnScope N ps (defScope st)) (len : ∀ vs H Q E, sp vs H Q E → vs.length = ps.length)
    (body : ∀ (cdv : Value) (A : Around) (outer : List Env) (s : Shared) (H : Hp) (vs : List V) (Q : VK) (E : XK), Room k (A.deeper (envOfC qual (defScope st) s.heap.objs.size f cdv)) → A.guards = some [] → sp vs H Q E →
      ∃ t, PSs (cxOf CX0 P w K mg base N qual (defScope st) f cdv A outer s H E).nox (defBody st) t ∧ t { nx := fun _ G => Q .non G, rt := Q } (start N vs) H) : FnG P w K mg base (k + 1) f fd ps sp := by
  obtain ⟨oc, od, kV, doc, pm, an, cdv, ct, osl, rfl, lk, hcd⟩ := F.ex
  refine ⟨len, fun A outer s H args us vs Q E room quiet env binds rel want => ?_⟩
  have stays : ∀ b o, base.get? b = some o → s.heap.get? b = some o := fun b o e => (env.bs b o e).1
  have inK : K.In s.heap := env.mod.kin.keeps stays
  have free : s.heap.NoLimit := env.mod.nolimit.keeps stays
  refine codeAny_call_function room.depth (inK _ _ lk) rfl S.co S.gen rfl (PySem.W.codeRec_of inK hcd) (binds _ _ _ _ ?_)
  refine wpAny_newFunctionEnv_cells S.kind (fun ⟨n, v⟩ hy => (S.par n (List.of_mem_zip hy).1).imp id fun q => ⟨q, PySem.W.cellsFrom_some _ _ _ (.inl q)⟩) fun env1 e1 s1 c1 => ?_
  subst e1
  refine ⟨free.keeps c1.toInCall.keep, codeAny_func ?_⟩
  obtain ⟨t, d, q⟩ := body cdv A outer s H vs Q E (room.deeper _) quiet want
  refine wpAny_mono (d.nox.run [] s1 (start N vs) H _ (inv_start S room.hd env (len _ _ _ _ want) rel c1) q) (fun fl s2 h2 => ?_) fun e s2 h2 => h2
  cases fl with
  | ret u =>
    obtain ⟨v, σ2, G, J, rv, r⟩ := h2
    exact ⟨v, G, J.os, J.bare, J.base, J.hok, rv, r⟩
  | next =>
    obtain ⟨σ2, G, J, r⟩ := h2
    exact ⟨V.non, G, J.os, J.bare, J.base, J.hok, rfl, r⟩
  | brk => exact (h2.choose_spec.choose_spec.2 : False).elim
  | cont => exact (h2.choose_spec.choose_spec.2 : False).elim
structure CalG (P : Program) (w : World) (K : PySem.W.Frag) (mg : Str → Option Value) (base : Heap) (k : Nat) (x : Str) (ps : List Str) (sp : Sp) : Prop where
  ex : ∃ (f : Addr) (fd : FuncData), FnG P w K mg base k f fd ps sp ∧ mg x = some (.ref f) ∧ PySem.W.keepIn K (.ref f) = true ∧ Binds K fd ps []
theorem At.calG {x : Str} {st : Stmt} {N ps : List Str} {k : Nat} {sp : Sp} (D : At K mg x st ps) (S : FnScope N ps (defScope st)) (len : ∀ vs H Q E, sp vs H Q E → vs.length = ps.length)
    (body : ∀ (f : Addr) (cdv : Value) (A : Around) (outer : List Env) (s : Shared) (H : Hp) (vs : List V) (Q : VK) (E : XK), Room k (A.deeper (envOfC x (defScope st) s.heap.objs.size f cdv)) → A.guards = some [] → sp vs H Q E →
      ∃ t, PSs (cxOf CX0 P w K mg base N x (defScope st) f cdv A outer s H E).nox (defBody st) t ∧ t { nx := fun _ G => Q .non G, rt := Q } (start N vs) H) : CalG P w K mg base (k + 1) x ps sp := by
  obtain ⟨f, fd, F, b, g⟩ := D.ex
  exact ⟨f, fd, okG F S len (body f), g, F.kp, b⟩
end
def tCallG (sp : Sp) (t : TA) : TE := fun σ H Q => t σ H fun vs G => sp vs G Q E0
section
variable {X : Cx} {k j : Nat} {x : Str} {ps : List Str} {sp : Sp} {p pos : Pos} {e : Expr} {es : List Expr} {t : TA}
theorem pe_ownG (c : CalG X.prog X.w X.K X.mg X.base k x ps sp) (hr : Room j X.A) (hk : k ≤ j) (quiet : X.A.guards = some []) (hg : Gl X x) (ha : PA X (e :: es) t)
    (hdb : (x == ("__debug__" : Str)) = false := by decide) (he : starEach (e :: es) X.env = (false, eval e X.env) :: starEach es X.env := by rfl) (hpl : (backTo pos (starEach es X.env)).any (·.1) = false := by rfl) :
    PE X (.Call (.Name x p) (e :: es) [] pos) (tCallG sp t) := by
  obtain ⟨f, fd, F, hm, kp, b⟩ := c.ex
  refine ⟨fun pins s σ H Q I h => wpAny_Call_Name_kw (ld_glob I hg hm (PySem.W.callWith_K (h₀ := X.base) I.ok.mod.kin kp (thn (ha.run pos pins s σ H _ I h) fun us s1 ⟨vs, G, I1, r, q⟩ => ⟨I1.kIn, ?_⟩) he hpl) hdb)⟩
  have ll : (us ++ []).length = ps.length := by
    rw [List.append_nil, ← r.length]
    exact F.len _ _ _ _ q
  have bt := b s1 us I1.kIn ll
  rw [List.append_nil] at bt
  refine wpAny_call (codeAny_mono (F.run X.A X.stack s1 G ⟨us, []⟩ us vs Q E0 (hr.mono hk) quiet I1.env0 bt r q) fun rr s2 h2 => ?_)
  cases rr with
  | error e => exact (h2 : False).elim
  | ok fl =>
    cases fl with
    | ret u => exact I1.after h2
    | next => exact (h2 : False).elim
    | brk => exact (h2 : False).elim
    | cont => exact (h2 : False).elim
end
end Gu
namespace Gu
open PySem PySem.Spec PyProof.Rows L2
/-- a heap in which nothing is tracked but, at most, the script at a, which stands still there -/
theorem quiet_end {P : Program} {w : World} {K : PySem.W.Frag} {mg mb : Str → Option Value} {k : Nat} {fa a : Addr} {fd : FuncData} {x : Str} {sp : Sp} {s : Shared} {us : List Value} {H : Hp} (inK : K.In s.heap) (nsG : s.heap.Ns mainGlobals mg) (nsB : s.heap.Ns builtinsNs mb)
    (bb : ∀ x : Str, x ≠ "__name__" → mb x = bootBuiltins x) (nl : s.heap.NoLimit) (ng : s.gens = #[]) (at_a : s.heap.get? a = some { cls := .type "list", data := .seq us.toArray }) (room : Room k callerA)
    (F : ∀ base : Heap, K.In base → base.Ns mainGlobals mg → FnG P w K mg base k fa fd [x] sp) (bind : ∀ (s : Shared) (u : Value), BindsTo s fd ⟨[u], []⟩ [(x, u)]) (want : sp [.ref a] H (fun v _ => v = .bl true) fun _ _ _ => False)
    (only : Only H) (ok : HOk P w H s.heap) (one : ∀ b, H b ≠ none → b = a ∧ K.lookup a = none) :
    codeAny (model P w) callerA (.call (.ref fa) ⟨[.ref a], []⟩) (fun r s2 => r = .ok (.ret (.bool true)) ∧ OldK s.heap s2.heap ∧ s2.os = s.os ∧ AllBare s2.gens) s := by
  have dictFree : ∀ (b : Addr) (o : Obj) (es : Array DictEntry) (ep : Nat), s.heap.get? b = some o → o.data = .dict es ep → H b = none := fun b o es ep e d =>
    Classical.byContradiction fun z => by
      have hb := (one b z).1
      rw [hb, at_a] at e
      cases e
      exact Data.noConfusion d
  have hiddenNs : ∀ (b : Addr) (m : Str → Option Value), s.heap.Ns b m → (hidT s.heap H).Ns b m := fun b m h => by
    obtain ⟨o, es, ep, e, d, r⟩ := h
    exact ⟨o, es, ep, hidT_get e (dictFree b o es ep e d), d, r⟩
  have hiddenK : K.In (hidT s.heap H) := fun b o e => hidT_get (inK b o e) (Classical.byContradiction fun z => by
    obtain ⟨h1, h2⟩ := one b z
    rw [h1, h2] at e
    cases e)
  have env : Env0 P w K mg (hidT s.heap H) callerA [] s H := by
    refine ⟨rfl, ⟨hiddenK, hiddenNs _ _ nsG, ⟨mb, hiddenNs _ _ nsB, bb⟩, ?_⟩, fun b o e => of_hidT e, Nat.le_of_eq (hidT_size _ _), trivial, fun b hb => absurd (show b ∈ ([] : List Addr) from hb) List.not_mem_nil, ok, .of_eq ng⟩
    obtain ⟨mc, h1, h2⟩ := nl
    exact ⟨mc, hiddenNs _ _ h1, h2⟩
  refine codeAny_mono ((F _ hiddenK (hiddenNs _ _ nsG)).run callerA [] s H ⟨[.ref a], []⟩ [.ref a] [.ref a] _ _ room rfl env (bind s (.ref a)) (.cons rfl .nil) want) fun r s2 h2 => ?_
  cases r with
  | error e => exact (h2 : False).elim
  | ok fl =>
    cases fl with
    | next => exact (h2 : False).elim
    | brk => exact (h2 : False).elim
    | cont => exact (h2 : False).elim
    | ret u =>
      obtain ⟨v, G, os, bare, un, ok2, rv, hv⟩ := h2
      cases (show v = .bl true from hv)
      cases (show u = Value.bool true from rv)
      refine ⟨rfl, OldK.of_keep fun b o e => ?_, os, bare⟩
      rcases only b with z | ⟨ob, xs, z⟩
      · exact un.keep b o e z (fun y => absurd (show b ∈ ([] : List Addr) from y) List.not_mem_nil) (by simp)
      · have e1 := (ok b _ z).1
        have e2 := (ok2 b _ (un.frzs b ob _ z)).1
        rw [e] at e1
        cases e1
        exact e2
/-- the law's call, by its promise -/
theorem quiet_call {P : Program} {w : World} {K : PySem.W.Frag} {mg mb : Str → Option Value} {k : Nat} {fa a : Addr} {fd : FuncData} {x : Str} {sp : Sp} {s : Shared} {us : List Value} {ns : List Int} (inK : K.In s.heap) (nsG : s.heap.Ns mainGlobals mg) (nsB : s.heap.Ns builtinsNs mb)
    (bb : ∀ x : Str, x ≠ "__name__" → mb x = bootBuiltins x) (nl : s.heap.NoLimit) (ng : s.gens = #[]) (at_a : s.heap.get? a = some { cls := .type "list", data := .seq us.toArray }) (nums : IntsAre us ns) (small : ns.length ≤ sizeLine) (room : Room k callerA)
    (F : ∀ base : Heap, K.In base → base.Ns mainGlobals mg → FnG P w K mg base k fa fd [x] sp) (bind : ∀ (s : Shared) (u : Value), BindsTo s fd ⟨[u], []⟩ [(x, u)])
    (want : ∀ H : Hp, SqL K H a (ns.map V.int) → sp [.ref a] H (fun v _ => v = .bl true) fun _ _ _ => False) :
    codeAny (model P w) callerA (.call (.ref fa) ⟨[.ref a], []⟩) (fun r s2 => r = .ok (.ret (.bool true)) ∧ OldK s.heap s2.heap ∧ s2.os = s.os ∧ AllBare s2.gens) s := by
  have rel := vals_ints nums
  cases hk : K.lookup a with
  | some o =>
    have e := inK a o hk
    rw [at_a] at e
    cases e
    refine quiet_end (H := fun _ => none) inK nsG nsB bb nl ng at_a room F bind (want _ (.inr ⟨_, us.toArray, _, hk, rfl, rfl, rfl, ?_, rel⟩)) (fun _ => .inl rfl) (fun b u z => nomatch (show (none : Option HO) = some u from z)) fun b z => absurd rfl z
    rw [List.size_toArray, nums.length]
    exact small
  | none =>
    refine quiet_end (H := upd (fun _ => none) a (.frz { cls := .type "list", data := .seq us.toArray } (.lst (ns.map V.int)))) inK nsG nsB bb nl ng at_a room F bind (want _ (.inl (.inr ⟨_, upd_same⟩))) (fun b => ?_) (fun b u z => ?_) fun b z => ?_
    · by_cases hb : b = a
      · exact .inr ⟨_, _, by rw [hb]; exact upd_same⟩
      · exact .inl (upd_ne hb)
    · by_cases hb : b = a
      · subst hb
        rw [upd_same] at z
        cases z
        exact ⟨at_a, by rw [List.length_map]; exact small, us, _, rel, at_a⟩
      · rw [upd_ne hb] at z
        cases z
    · by_cases hb : b = a
      · exact ⟨hb, hk⟩
      · exact absurd (upd_ne hb) z
theorem walkG {l : PySem.W.OpenLaw} {n k : Nat} {q : Program} {loose : List Str} {XP : (Str → Option Value) → Heap → Prop} {YP : World → Heap → Prop} {d : DefRec} {K : Params → PySem.W.Frag} {x : Str} {sp : PySem.W.Frag → Sp} (most : l.most = some n) (small : n ≤ sizeLine) (plain : d.params.defaults = []) (room : Room k callerA)
    (left : ∀ (w : World) (h : Heap), YP w h → (K w.params).In h)
    (F : ∀ (w : World) (mg : Str → Option Value) (fa : Addr) (h : Heap), (K w.params).In h → h.Ns mainGlobals mg → mg d.name = some (.ref fa) → ∃ fd : FuncData, (∀ (s : Shared) (u : Value), BindsTo s fd ⟨[u], []⟩ [(x, u)]) ∧
      ∀ base : Heap, (K w.params).In base → base.Ns mainGlobals mg → FnG l.prog w (K w.params) mg base k fa fd [x] (sp (K w.params)))
    (want : ∀ (w : World) (H : Hp) (a : Addr) (ns : List Int), ns.length ≤ n → SqL (K w.params) H a (ns.map V.int) → sp (K w.params) [.ref a] H (fun v _ => v = .bl true) fun _ _ _ => False) :
    PySem.W.WalkO q loose XP YP l.row.toRowW d [] (fun f vs => PySem.call f vs) := by
  refine Att.attach_call most plain fun w s0 s mg mb fa o pm cd doc a us ns G Y ho hd hcd hmg at_a nums le ng => ?_
  obtain ⟨fd, bind, fn⟩ := F w mg fa _ (left w _ Y) G.T.g hmg
  exact quiet_call (left w _ Y) G.T.g G.T.b G.T.builtins G.T.nolimit ng at_a nums (Nat.le_trans le small) room fn bind fun H hS => want w H a ns le hS
end Gu
namespace Gu
open PySem PySem.Spec PyProof.Rows L2
/-! ### what can be written out -/
structure Fine (n W : Nat) (d : PyData) : Prop where
  nd : d.hasDict = false
  sh : d.showable = true
  ls : d.leavesShort 80 = true
  dp : d.depth ≤ n
  wt : d.weight ≤ W
structure FineAll (n W : Nat) (ds : List PyData) : Prop where
  nd : PyData.hasDictAll ds = false
  sh : PyData.showableAll ds = true
  ls : PyData.leavesShortAll 80 ds = true
  dp : PyData.depthAll ds ≤ n
  wt : PyData.weightAll ds ≤ ds.length * (W + 1)
theorem FineAll.of {n W : Nat} : ∀ {ds : List PyData}, (∀ d ∈ ds, Fine n W d) → FineAll n W ds
  | [], _ => ⟨rfl, rfl, rfl, Nat.zero_le _, Nat.zero_le _⟩
  | d :: ds, h => by
    have a := h d (List.mem_cons_self ..)
    have b := FineAll.of (ds := ds) fun e he => h e (List.mem_cons_of_mem _ he)
    refine ⟨?_, ?_, ?_, Nat.max_le.mpr ⟨a.dp, b.dp⟩, ?_⟩
    · show (d.hasDict || PyData.hasDictAll ds) = false
      rw [a.nd, b.nd]
      rfl
    · show (d.showable && PyData.showableAll ds) = true
      rw [a.sh, b.sh]
      rfl
    · show (d.leavesShort 80 && PyData.leavesShortAll 80 ds) = true
      rw [a.ls, b.ls]
      rfl
    · show d.weight + 1 + PyData.weightAll ds ≤ (ds.length + 1) * (W + 1)
      have := a.wt
      have := b.wt
      rw [Nat.succ_mul]
      omega
theorem FineAll.list {n W : Nat} {ds : List PyData} (a : FineAll n W ds) : Fine (n + 1) (ds.length * (W + 1)) (.list ds) := ⟨a.nd, a.sh, a.ls, Nat.succ_le_succ a.dp, a.wt⟩
theorem FineAll.tup {n W : Nat} {ds : List PyData} (a : FineAll n W ds) : Fine (n + 1) (ds.length * (W + 1)) (.tuple ds) := ⟨a.nd, a.sh, a.ls, Nat.succ_le_succ a.dp, a.wt⟩
theorem Fine.mono {n m W Z : Nat} {d : PyData} (h : Fine n W d) (a : n ≤ m) (b : W ≤ Z) : Fine m Z d := ⟨h.nd, h.sh, h.ls, Nat.le_trans h.dp a, Nat.le_trans h.wt b⟩
theorem Fine.bool (b : Bool) : Fine 0 0 (.bool b) := ⟨rfl, rfl, rfl, Nat.le_refl _, Nat.le_refl _⟩
theorem Fine.none : Fine 0 0 .none := ⟨rfl, rfl, rfl, Nat.le_refl _, Nat.le_refl _⟩
theorem Fine.int {i : Int} (h : i.natAbs < 2 ^ 70) : Fine 0 70 (.int i) := by
  have l : i.natAbs.log2 < 70 := PySem.Flt.log2_lt_of (by decide) h
  refine ⟨rfl, decide_eq_true (by omega), decide_eq_true ?_, Nat.le_refl _, ?_⟩
  · have e := int_text_length_le (a := i) (k := 70) (by decide) l
    show (Str.ofString (toString i)).length ≤ 80
    rw [PySem.ofString_length]
    omega
  · show (if i == 0 then 0 else i.natAbs.log2 + 1) ≤ 70
    split <;> omega
theorem Fine.str {z : Str} {W : Nat} (h : ∀ c ∈ z.cps.toList, c < 16 ^ 8) (w : z.cps.toList.length ≤ W) : Fine 0 W (.str z) := by
  refine ⟨rfl, rfl, ?_, Nat.le_refl _, w⟩
  show (z.cps.toList.all fun c => decide (c < 16 ^ 8)) = true
  rw [List.all_eq_true]
  exact fun c hc => decide_eq_true (h c hc)
theorem Fine.fits {d : PyData} (h : Fine 60 100000 d) : d.shown.length ≤ sizeLine := by
  have a := PyData.shown_le 80 (by decide) d h.ls
  have b := h.wt
  have c : (80 + 2) * d.weight ≤ 82 * 100000 := Nat.mul_le_mul_left _ b
  have e : sizeLine = 16777216 := by decide
  omega
section
variable {X : Cx}
/-- repr of a list or tuple, where none is being written out -/
theorem call_reprD (quiet : X.A.guards = some []) (hu : X.A.units + 64 < cLine) : CallR X (.builtin "repr") (fun xs H Q => ∃ (a : Addr) (d : PyData), xs = [.ref a] ∧ Dp X.K H (.ref a) d ∧ Fine 60 100000 d ∧ Q (.str d.shown) H) := by
  intro pins s σ H xs us Q I r h
  obtain ⟨a, d, rfl, hd, fine, q⟩ := h
  cases r with
  | cons r rr =>
    cases rr
    cases (show _ = Value.ref a from r)
    obtain ⟨as, rd⟩ := Dp.reads I d (.ref a) (.ref a) hd rfl
    have dp := fine.dp
    exact repr_of_reads' rd fine.sh (PyData.noDict_hsm fine.nd) quiet (by omega) (fun _ _ e => e) (fun g u tk keep => ⟨.str d.shown, H, I.kept (t' := tk) keep, ⟨_, rfl⟩, q⟩) fine.fits
end
end Gu
namespace Gu
open PySem PySem.Spec PyProof.Rows L2
/-! ### things of any kind, an empty dict among them, written out -/
/-- the system's modules are known to stand -/
def Sys (H : Hp) : Prop := ∃ o u, H sysModules = some (.frz o u)
theorem Sys.same {H G : Hp} (h : Sys H) (s : Same H G) : Sys G := by
  obtain ⟨o, u, e⟩ := h
  exact ⟨o, u, s _ _ e⟩
mutual
inductive DpE (K : PySem.W.Frag) (H : Hp) : V → PyData → Prop
  | non : DpE K H .non .none
  | bl (b : Bool) : DpE K H (.bl b) (.bool b)
  | int (i : Int) : DpE K H (.int i) (.int i)
  | str (x : Str) : DpE K H (.str x) (.str x)
  | lst {a : Addr} {xs : List V} {ds : List PyData} : H a = some (.lst xs) → DpEs K H xs ds → DpE K H (.ref a) (.list ds)
  | tup {a : Addr} {xs : List V} {ds : List PyData} : SqT K H a xs → DpEs K H xs ds → DpE K H (.ref a) (.tuple ds)
  | dict {a : Addr} : H a = some (.dK []) → DpE K H (.ref a) (.dict [])
inductive DpEs (K : PySem.W.Frag) (H : Hp) : List V → List PyData → Prop
  | nil : DpEs K H [] []
  | cons {v : V} {vs : List V} {d : PyData} {ds : List PyData} : DpE K H v d → DpEs K H vs ds → DpEs K H (v :: vs) (d :: ds)
end
theorem stE {K : PySem.W.Frag} {H G : Hp} {a : Addr} {xs : List V} (s : Same H G) (h : SqT K H a xs) : SqT K G a xs := by
  rcases h with (h | ⟨o, h⟩) | h
  · exact .inl (.inl (s _ _ h))
  · exact .inl (.inr ⟨o, s _ _ h⟩)
  · exact .inr h
mutual
theorem DpE.same {K : PySem.W.Frag} {H G : Hp} (s : Same H G) : ∀ {v : V} {d : PyData}, DpE K H v d → DpE K G v d
  | _, _, .non => .non
  | _, _, .bl b => .bl b
  | _, _, .int i => .int i
  | _, _, .str x => .str x
  | _, _, .lst h a => .lst (s _ _ h) (DpEs.same s a)
  | _, _, .tup h a => .tup (stE s h) (DpEs.same s a)
  | _, _, .dict h => .dict (s _ _ h)
theorem DpEs.same {K : PySem.W.Frag} {H G : Hp} (s : Same H G) : ∀ {vs : List V} {ds : List PyData}, DpEs K H vs ds → DpEs K G vs ds
  | _, _, .nil => .nil
  | _, _, .cons a b => .cons (DpE.same s a) (DpEs.same s b)
end
section
variable {X : Cx} {pins : List (Addr × Obj)} {σ : L2.St} {H : Hp} {s : Shared}
mutual
theorem DpE.reads (I : Inv X pins σ H s) (y : Sys H) : ∀ (d : PyData) (v : V) (u : Value), DpE X.K H v d → RelV v u → ∃ as, Reads s.heap u d as ∧ sysModules ∉ as
  | .none, _, _, h, r => by
    cases h
    cases r
    exact ⟨_, Reads.none, List.not_mem_nil⟩
  | .bool b, _, _, h, r => by
    cases h
    cases r
    exact ⟨_, Reads.bool b, List.not_mem_nil⟩
  | .int i, _, _, h, r => by
    cases h
    obtain ⟨t, rfl⟩ := r
    exact ⟨_, Reads.int i t, List.not_mem_nil⟩
  | .str x, _, _, h, r => by
    cases h
    obtain ⟨t, rfl⟩ := r
    exact ⟨_, Reads.str x t, List.not_mem_nil⟩
  | .list ds, _, _, h, r => by
    cases h with
    | @lst a xs _ hs ha =>
      cases r
      obtain ⟨its, rv, ⟨o, n, ho, hc, _, hd⟩, _⟩ := I.list (.inl (.inl hs))
      obtain ⟨as, hr, na⟩ := DpEs.reads I y ds _ its ha rv
      refine ⟨_, Reads.list ho hc hd hr, fun z => ?_⟩
      rcases List.mem_cons.mp z with z | z
      · obtain ⟨o2, u2, e2⟩ := y
        rw [z, hs] at e2
        cases e2
      · exact na z
  | .tuple ds, _, _, h, r => by
    cases h with
    | tup hs ha =>
      cases r
      obtain ⟨its, rv, ⟨o, ho, hc, n, hd⟩, _⟩ := I.tuple hs
      obtain ⟨as, hr, na⟩ := DpEs.reads I y ds _ its ha rv
      exact ⟨_, Reads.tuple ho hc hd hr, na⟩
  | .dict kvs, _, _, h, r => by
    cases h with
    | @dict a hs =>
      cases r
      obtain ⟨_, ns, vs, kv, o, es, ep, ho, ex, hd, hes⟩ := (show ObjOk X.prog X.w H s.heap a (.dK []) from I.hok a _ hs)
      cases kv
      have en : es.toList = [] := by
        have q := hes.2.1
        generalize es.toList = l at q
        cases q
        rfl
      refine ⟨_, Reads.dict (kvs := []) ho ex.1 hd (by rw [en]; exact .nil) (by rw [en]; exact .nil), fun z => ?_⟩
      have z : sysModules = a := by simpa using z
      rw [← z] at ns
      simp at ns
theorem DpEs.reads (I : Inv X pins σ H s) (y : Sys H) : ∀ (ds : List PyData) (vs : List V) (us : List Value), DpEs X.K H vs ds → Vals vs us → ∃ as, ReadsAll s.heap us ds as ∧ sysModules ∉ as
  | [], _, _, h, r => by
    cases h
    cases r
    exact ⟨_, ReadsAll.nil, List.not_mem_nil⟩
  | d :: ds, _, _, h, r => by
    cases h with
    | cons h1 h2 =>
      cases r with
      | cons r1 r2 =>
        obtain ⟨as, q1, n1⟩ := DpE.reads I y d _ _ h1 r1
        obtain ⟨bs, q2, n2⟩ := DpEs.reads I y ds _ _ h2 r2
        exact ⟨_, ReadsAll.cons q1 q2, fun z => (List.mem_append.mp z).elim n1 n2⟩
end
end
/-- what can be written out -/
structure FineE (n W : Nat) (d : PyData) : Prop where
  sh : d.showable = true
  ls : d.leavesShort 80 = true
  dp : d.depth ≤ n
  wt : d.weight ≤ W
theorem Fine.e {n W : Nat} {d : PyData} (h : Fine n W d) : FineE n W d := ⟨h.sh, h.ls, h.dp, h.wt⟩
structure FineEs (n W : Nat) (ds : List PyData) : Prop where
  sh : PyData.showableAll ds = true
  ls : PyData.leavesShortAll 80 ds = true
  dp : PyData.depthAll ds ≤ n
  wt : PyData.weightAll ds ≤ ds.length * (W + 1)
theorem FineEs.of {n W : Nat} : ∀ {ds : List PyData}, (∀ d ∈ ds, FineE n W d) → FineEs n W ds
  | [], _ => ⟨rfl, rfl, Nat.zero_le _, Nat.zero_le _⟩
  | d :: ds, h => by
    have a := h d (List.mem_cons_self ..)
    have b := FineEs.of (ds := ds) fun e he => h e (List.mem_cons_of_mem _ he)
    refine ⟨?_, ?_, Nat.max_le.mpr ⟨a.dp, b.dp⟩, ?_⟩
    · show (d.showable && PyData.showableAll ds) = true
      rw [a.sh, b.sh]
      rfl
    · show (d.leavesShort 80 && PyData.leavesShortAll 80 ds) = true
      rw [a.ls, b.ls]
      rfl
    · show d.weight + 1 + PyData.weightAll ds ≤ (ds.length + 1) * (W + 1)
      have := a.wt
      have := b.wt
      rw [Nat.succ_mul]
      omega
theorem FineEs.list {n W : Nat} {ds : List PyData} (a : FineEs n W ds) : FineE (n + 1) (ds.length * (W + 1)) (.list ds) := ⟨a.sh, a.ls, Nat.succ_le_succ a.dp, a.wt⟩
theorem FineEs.tup {n W : Nat} {ds : List PyData} (a : FineEs n W ds) : FineE (n + 1) (ds.length * (W + 1)) (.tuple ds) := ⟨a.sh, a.ls, Nat.succ_le_succ a.dp, a.wt⟩
theorem FineE.mono {n m W Z : Nat} {d : PyData} (h : FineE n W d) (a : n ≤ m) (b : W ≤ Z) : FineE m Z d := ⟨h.sh, h.ls, Nat.le_trans h.dp a, Nat.le_trans h.wt b⟩
theorem FineE.dict0 : FineE 1 0 (.dict []) := ⟨rfl, rfl, Nat.le_refl _, Nat.le_refl _⟩
theorem FineE.fits {d : PyData} (h : FineE 60 100000 d) : d.shown.length ≤ sizeLine := by
  have a := PyData.shown_le 80 (by decide) d h.ls
  have b := h.wt
  have c : (80 + 2) * d.weight ≤ 82 * 100000 := Nat.mul_le_mul_left _ b
  have e : sizeLine = 16777216 := by decide
  omega
section
variable {X : Cx}
/-- repr of a list or tuple that may hold empty dicts -/
theorem call_reprE (quiet : X.A.guards = some []) (hu : X.A.units + 64 < cLine) : CallR X (.builtin "repr") (fun xs H Q => ∃ (a : Addr) (d : PyData), xs = [.ref a] ∧ Sys H ∧ DpE X.K H (.ref a) d ∧ FineE 60 100000 d ∧ Q (.str d.shown) H) := by
  intro pins s σ H xs us Q I r h
  obtain ⟨a, d, rfl, y, hd, fine, q⟩ := h
  cases r with
  | cons r rr =>
    cases rr
    cases (show _ = Value.ref a from r)
    obtain ⟨as, rd, nas⟩ := DpE.reads I y d (.ref a) (.ref a) hd rfl
    have dp := fine.dp
    exact repr_of_reads' rd fine.sh (fun _ => nas) quiet (by omega) (fun _ _ e => e) (fun g u tk keep => ⟨.str d.shown, H, I.kept (t' := tk) keep, ⟨_, rfl⟩, q⟩) fine.fits
end
end Gu
namespace Gu
open PySem PySem.Spec PyProof.Rows L2 LamX
/-! ### the law's end where defs make lambdas: their tables are tracked -/
abbrev tabNil : Obj := { cls := .none, data := .fields #[] }
theorem quiet_endT {P : Program} {w : World} {K : PySem.W.Frag} {mg mb : Str → Option Value} {k : Nat} {fa a : Addr} {cs : List (Addr × Addr)} {fd : FuncData} {x : Str} {sp : Sp} {s : Shared} {us : List Value} {H : Hp} (inK : K.In s.heap) (nsG : s.heap.Ns mainGlobals mg) (nsB : s.heap.Ns builtinsNs mb)
    (bb : ∀ x : Str, x ≠ "__name__" → mb x = bootBuiltins x) (nl : s.heap.NoLimit) (ng : s.gens = #[]) (at_a : s.heap.get? a = some { cls := .type "list", data := .seq us.toArray }) (room : Room k callerA)
    (tabs : ∀ p ∈ cs, PySem.W.CodeHd s.heap p.1 p.2 ∧ s.heap.get? p.2 = some tabNil ∧ K.lookup p.2 = none)
    (bm : ∃ (m : Addr) (ob : Obj), mg "__builtins__" = some (.ref m) ∧ m ≠ builtinsNs ∧ s.heap.get? m = some ob ∧ ob.cls = .type "module" ∧ ob.dict = some builtinsNs ∧ ob.data = .plain)
    (F : ∀ base : Heap, K.In base → base.Ns mainGlobals mg → (∀ p ∈ cs, TabB base mg p.1 p.2) → FnG P w K mg base k fa fd [x] sp) (bind : ∀ (s : Shared) (u : Value), BindsTo s fd ⟨[u], []⟩ [(x, u)]) (want : sp [.ref a] H (fun v _ => v = .bl true) fun _ _ _ => False)
    (sys : ∃ o es n, s.heap.get? sysModules = some o ∧ o.data = .dict es n) (noSys : K.lookup sysModules = none)
    (hH : ∀ p ∈ cs, H p.2 = some (.tbl #[])) (kinds : ∀ c, H c = none ∨ c ∈ cs.map (·.2) ∨ ∃ o u, H c = some (.frz o u)) (ok : HOk P w H s.heap) (one : ∀ c, H c ≠ none → (c = a ∧ K.lookup a = none) ∨ c ∈ cs.map (·.2) ∨ c = sysModules) :
    codeAny (model P w) callerA (.call (.ref fa) ⟨[.ref a], []⟩) (fun r s2 => r = .ok (.ret (.bool true)) ∧ OldK s.heap s2.heap ∧ s2.os = s.os ∧ AllBare s2.gens) s := by
  have isTab : ∀ c ∈ cs.map (·.2), s.heap.get? c = some tabNil := fun c hc => by
    obtain ⟨p, hp, rfl⟩ := List.mem_map.mp hc
    exact (tabs p hp).2.1
  have hides : ∀ (c : Addr) (o : Obj), s.heap.get? c = some o → (∀ vs n, o.data ≠ .seq vs n) → o.data ≠ .fields #[] → c ≠ sysModules → H c = none := fun c o e n1 n2 n3 => Classical.byContradiction fun z => by
    rcases one c z with ⟨rfl, _⟩ | hc | hc
    · rw [at_a] at e
      cases e
      exact n1 _ _ rfl
    · rw [isTab c hc] at e
      cases e
      exact n2 rfl
    · exact n3 hc
  have notSys : ∀ (c : Addr) (o : Obj), s.heap.get? c = some o → (∀ es n, o.data ≠ .dict es n) → c ≠ sysModules := fun c o e n1 z => by
    obtain ⟨o2, es, n, e2, d2⟩ := sys
    rw [z, e2] at e
    cases e
    exact n1 _ _ d2
  have hidNs : ∀ (c : Addr) (m : Str → Option Value), c ≠ sysModules → s.heap.Ns c m → (hidT s.heap H).Ns c m := fun c m nc h => by
    obtain ⟨o, es, ep, e, d, r⟩ := h
    exact ⟨o, es, ep, hidT_get e (hides c o e (fun vs n z => by rw [d] at z; cases z) (fun z => by rw [d] at z; cases z) nc), d, r⟩
  have hidK : K.In (hidT s.heap H) := fun c o e => hidT_get (inK c o e) (Classical.byContradiction fun z => by
    rcases one c z with ⟨h1, h2⟩ | hc | hc
    · rw [h1, h2] at e
      cases e
    · obtain ⟨p, hp, rfl⟩ := List.mem_map.mp hc
      rw [(tabs p hp).2.2] at e
      cases e
    · rw [hc, noSys] at e
      cases e)
  have g1 := hidNs mainGlobals mg (by decide) nsG
  have g2 := hidNs builtinsNs mb (by decide) nsB
  have env : Env0 P w K mg (hidT s.heap H) callerA [] s H := by
    refine ⟨rfl, ⟨hidK, g1, ⟨mb, g2, bb⟩, ?_⟩, fun c o e => of_hidT e, Nat.le_of_eq (hidT_size _ _), trivial, fun c hc => absurd (show c ∈ ([] : List Addr) from hc) List.not_mem_nil, ok, .of_eq ng⟩
    obtain ⟨mc, h1, h2⟩ := nl
    exact ⟨mc, hidNs _ _ (by decide) h1, h2⟩
  have tb : ∀ p ∈ cs, TabB (hidT s.heap H) mg p.1 p.2 := fun p hp => by
    obtain ⟨hd, hT, _⟩ := tabs p hp
    refine ⟨?_, ?_, fun z => ?_⟩
    · obtain ⟨o, vs, file, tf, fl, tg, inF, tx, tt, e1, e2, e3, e4, rest⟩ := hd
      refine ⟨o, vs, file, tf, fl, tg, inF, tx, tt, hidT_get e1 (hides _ o e1 (fun us n z => by rw [e3] at z; cases z) (fun z => ?_) (notSys _ o e1 fun es n z => by rw [e3] at z; cases z)), e2, e3, e4, rest⟩
      rw [e3] at z
      cases z
      simp at e4
    · obtain ⟨m, ob, m1, m2, m3, m4, m5, m6⟩ := bm
      refine ⟨m, ob, m1, m2, fun z => ?_, fun z => ?_, hidT_get m3 (hides _ ob m3 (fun us n z => by rw [m6] at z; cases z) (fun z => by rw [m6] at z; cases z) (notSys _ ob m3 fun es n z => by rw [m6] at z; cases z)), m4, m5, m6⟩
      · obtain ⟨o, es, ep, e, d, _⟩ := nsG
        rw [z, e] at m3
        cases m3
        rw [d] at m6
        cases m6
      · rw [z, hT] at m3
        cases m3
        cases m6
    · obtain ⟨o, es, ep, e, d, _⟩ := nsG
      rw [z, hT] at e
      cases e
      cases d
  refine codeAny_mono ((F _ hidK g1 tb).run callerA [] s H ⟨[.ref a], []⟩ [.ref a] [.ref a] _ _ room rfl env (bind s (.ref a)) (.cons rfl .nil) want) fun r s2 h2 => ?_
  cases r with
  | error e => exact (h2 : False).elim
  | ok fl =>
    cases fl with
    | next => exact (h2 : False).elim
    | brk => exact (h2 : False).elim
    | cont => exact (h2 : False).elim
    | ret u =>
      obtain ⟨v, G, os, bare, un, ok2, rv, hv⟩ := h2
      cases (show v = .bl true from hv)
      cases (show u = Value.bool true from rv)
      have stays : ∀ c o, c ∉ cs.map (·.2) → s.heap.get? c = some o → s2.heap.get? c = some o := fun c o nc e => by
        rcases kinds c with z | z | ⟨ob, xs, z⟩
        · exact un.keep c o e z (fun y => absurd (show c ∈ ([] : List Addr) from y) List.not_mem_nil) (by simp)
        · exact absurd z nc
        · have e1 := (ok c _ z).1
          have e2 := (ok2 c _ (un.frzs c ob _ z)).1
          rw [e] at e1
          cases e1
          exact e2
      have grows : ∀ p ∈ cs, ∃ more : Array Value, s2.heap.get? p.2 = some { cls := .none, data := .fields more } := fun p hp => by
        obtain ⟨more, z⟩ := un.tbls p.2 #[] (hH p hp)
        exact ⟨_, ok2 p.2 _ z⟩
      refine ⟨rfl, ⟨fun c o e => ?_, fun c o e => ?_⟩, os, bare⟩
      · by_cases hc : c ∈ cs.map (·.2)
        · obtain ⟨p, hp, rfl⟩ := List.mem_map.mp hc
          obtain ⟨more, hm⟩ := grows p hp
          rw [isTab _ hc] at e
          cases e
          exact .inr (.inl ⟨((tabs p hp).1.tab (tabs p hp).2.1).isCodeTable, rfl, #[], more, rfl, by rw [Array.empty_append]; exact hm⟩)
        · exact .inl (stays c o hc e)
      · by_cases hc : c ∈ cs.map (·.2)
        · obtain ⟨p, hp, rfl⟩ := List.mem_map.mp hc
          obtain ⟨more, hm⟩ := grows p hp
          exact ⟨_, hm⟩
        · exact ⟨o, stays c o hc e⟩
theorem quiet_callT {P : Program} {w : World} {K : PySem.W.Frag} {mg mb : Str → Option Value} {k : Nat} {fa a : Addr} {cs : List (Addr × Addr)} {fd : FuncData} {x : Str} {sp : Sp} {s : Shared} {us : List Value} {ns : List Int} (inK : K.In s.heap) (nsG : s.heap.Ns mainGlobals mg) (nsB : s.heap.Ns builtinsNs mb)
    (bb : ∀ x : Str, x ≠ "__name__" → mb x = bootBuiltins x) (nl : s.heap.NoLimit) (ng : s.gens = #[]) (at_a : s.heap.get? a = some { cls := .type "list", data := .seq us.toArray }) (nums : IntsAre us ns) (small : ns.length ≤ sizeLine) (room : Room k callerA)
    (tabs : ∀ p ∈ cs, PySem.W.CodeHd s.heap p.1 p.2 ∧ s.heap.get? p.2 = some tabNil ∧ K.lookup p.2 = none)
    (bm : ∃ (m : Addr) (ob : Obj), mg "__builtins__" = some (.ref m) ∧ m ≠ builtinsNs ∧ s.heap.get? m = some ob ∧ ob.cls = .type "module" ∧ ob.dict = some builtinsNs ∧ ob.data = .plain)
    (F : ∀ base : Heap, K.In base → base.Ns mainGlobals mg → (∀ p ∈ cs, TabB base mg p.1 p.2) → FnG P w K mg base k fa fd [x] sp) (bind : ∀ (s : Shared) (u : Value), BindsTo s fd ⟨[u], []⟩ [(x, u)])
    (sys : ∃ o es n, s.heap.get? sysModules = some o ∧ o.data = .dict es n) (noSys : K.lookup sysModules = none)
    (want : ∀ H : Hp, (∀ p ∈ cs, H p.2 = some (.tbl #[])) → Sys H → SqL K H a (ns.map V.int) → sp [.ref a] H (fun v _ => v = .bl true) fun _ _ _ => False) :
    codeAny (model P w) callerA (.call (.ref fa) ⟨[.ref a], []⟩) (fun r s2 => r = .ok (.ret (.bool true)) ∧ OldK s.heap s2.heap ∧ s2.os = s.os ∧ AllBare s2.gens) s := by
  have rel := vals_ints nums
  have isTab : ∀ c ∈ cs.map (·.2), s.heap.get? c = some tabNil := fun c hc => by
    obtain ⟨p, hp, rfl⟩ := List.mem_map.mp hc
    exact (tabs p hp).2.1
  have na : a ∉ cs.map (·.2) := fun z => by
    have q := isTab a z
    rw [at_a] at q
    cases q
  have mem : ∀ p ∈ cs, p.2 ∈ cs.map (·.2) := fun p hp => List.mem_map.mpr ⟨p, hp, rfl⟩
  obtain ⟨so, ses, sn, sg, sd⟩ := id sys
  have ns1 : sysModules ∉ cs.map (·.2) := fun z => by
    have q := isTab _ z
    rw [sg] at q
    cases q
    cases sd
  have ns2 : a ≠ sysModules := fun z => by
    rw [z, sg] at at_a
    cases at_a
    cases sd
  let T : Hp := upd (fun c => if c ∈ cs.map (·.2) then some (.tbl #[]) else none) sysModules (.frz so (.ext fun h => ∃ o, h.get? sysModules = some o))
  have tS : T sysModules = some (.frz so (.ext fun h => ∃ o, h.get? sysModules = some o)) := upd_same
  have tIn : ∀ {c}, c ∈ cs.map (·.2) → T c = some (.tbl #[]) := fun {c} hc => by
    show upd _ _ _ c = _
    rw [upd_ne fun z => ns1 (by rw [← z]; exact hc)]
    exact if_pos hc
  have tOut : ∀ {c}, c ∉ cs.map (·.2) → c ≠ sysModules → T c = none := fun {c} hc hn => by
    show upd _ _ _ c = _
    rw [upd_ne hn]
    exact if_neg hc
  have tKind : ∀ c, T c = none ∨ c ∈ cs.map (·.2) ∨ ∃ o u, T c = some (.frz o u) := fun c => by
    by_cases hc : c ∈ cs.map (·.2)
    · exact .inr (.inl hc)
    · by_cases hs : c = sysModules
      · exact .inr (.inr ⟨_, _, by rw [hs]; exact tS⟩)
      · exact .inl (tOut hc hs)
  have tOk : ∀ (H : Hp) c u, T c = some u → ObjOk P w H s.heap c u := fun H c u z => by
    by_cases hc : c ∈ cs.map (·.2)
    · rw [tIn hc] at z
      cases z
      exact isTab c hc
    · by_cases hs : c = sysModules
      · subst hs
        rw [tS] at z
        cases z
        exact ⟨sg, ⟨so, sg⟩, ⟨so, sg⟩, fun h1 h2 ⟨o, e⟩ k => ⟨o, k o e⟩⟩
      · rw [tOut hc hs] at z
        cases z
  have tOne : ∀ c, T c ≠ none → c ∈ cs.map (·.2) ∨ c = sysModules := fun c z => by
    by_cases hc : c ∈ cs.map (·.2)
    · exact .inl hc
    · by_cases hs : c = sysModules
      · exact .inr hs
      · exact absurd (tOut hc hs) z
  cases hk : K.lookup a with
  | some o =>
    have e := inK a o hk
    rw [at_a] at e
    cases e
    have hS : SqL K T a (ns.map V.int) := .inr ⟨_, us.toArray, _, hk, rfl, rfl, rfl, by rw [List.size_toArray, nums.length]; exact small, rel⟩
    exact quiet_endT (H := T) inK nsG nsB bb nl ng at_a room tabs bm F bind (want T (fun p hp => tIn (mem p hp)) ⟨_, _, tS⟩ hS) sys noSys (fun p hp => tIn (mem p hp)) tKind (fun c u z => tOk T c u z) fun c z => .inr (tOne c z)
  | none =>
    have hS : SqL K (upd T a (.frz { cls := .type "list", data := .seq us.toArray } (.lst (ns.map V.int)))) a (ns.map V.int) := .inl (.inr ⟨_, upd_same⟩)
    have up : ∀ p ∈ cs, upd T a (.frz { cls := .type "list", data := .seq us.toArray } (.lst (ns.map V.int))) p.2 = some (.tbl #[]) := fun p hp => by
      rw [upd_ne fun z => na (by rw [← z]; exact mem p hp)]
      exact tIn (mem p hp)
    refine quiet_endT (H := upd T a (.frz { cls := .type "list", data := .seq us.toArray } (.lst (ns.map V.int)))) inK nsG nsB bb nl ng at_a room tabs bm F bind (want _ up ⟨_, _, by rw [upd_ne ns2.symm]; exact tS⟩ hS) sys noSys up (fun c => ?_) (fun c u z => ?_) fun c z => ?_
    · by_cases hc : c = a
      · exact .inr (.inr ⟨_, _, by rw [hc]; exact upd_same⟩)
      · rw [upd_ne hc]
        exact tKind c
    · by_cases hc : c = a
      · subst hc
        rw [upd_same] at z
        cases z
        exact ⟨at_a, by rw [List.length_map]; exact small, us, _, rel, at_a⟩
      · rw [upd_ne hc] at z
        exact tOk _ c u z
    · by_cases hc : c = a
      · exact .inl ⟨hc, hk⟩
      · rw [upd_ne hc] at z
        exact .inr (tOne c z)
theorem sys_there {h : Heap} (n : h.NoSeer) : ∃ o es ep, h.get? sysModules = some o ∧ o.data = .dict es ep := by
  obtain ⟨mm, ⟨o, es, ep, e, d, _⟩, _⟩ := n.mods
  exact ⟨o, es, ep, e, d⟩
/-- what the head tells of the tables of the defs of q -/
def TabsOf (q : Program) (K : PySem.W.Frag) (h : Heap) : Prop := ∀ (x : Str) (d : DefRec) (c P : Addr), (recsOf q).find? (fun e => e.name == x) = some d → PySem.W.tabIn K x = some (c, P) → PySem.W.CodeHd h c P ∧ h.get? P = some tabNil
theorem walkGT {l : PySem.W.OpenLaw} {n k : Nat} {q : Program} {loose : List Str} {XP : (Str → Option Value) → Heap → Prop} {YP : World → Heap → Prop} {d : DefRec} {K : Params → PySem.W.Frag} {x : Str} (most : l.most = some n) (small : n ≤ sizeLine) (plain : d.params.defaults = []) (room : Room k callerA) (alone : importsNone q = true) (noSys : ∀ w : World, (K w.params).lookup sysModules = none)
    (left : ∀ (w : World) (h : Heap), YP w h → (K w.params).In h)
    (F : ∀ (w : World) (mg : Str → Option Value) (fa : Addr) (h : Heap), (K w.params).In h → h.Ns mainGlobals mg → TabsOf q (K w.params) h → mg d.name = some (.ref fa) → ∃ (fd : FuncData) (cs : List (Addr × Addr)) (sp : Sp), (∀ p ∈ cs, PySem.W.CodeHd h p.1 p.2 ∧ h.get? p.2 = some tabNil ∧ (K w.params).lookup p.2 = none) ∧ (∀ (s : Shared) (u : Value), BindsTo s fd ⟨[u], []⟩ [(x, u)]) ∧
      (∀ (H : Hp) (a : Addr) (ns : List Int), ns.length ≤ n → (∀ p ∈ cs, H p.2 = some (.tbl #[])) → Sys H → SqL (K w.params) H a (ns.map V.int) → sp [.ref a] H (fun v _ => v = .bl true) fun _ _ _ => False) ∧
      ∀ base : Heap, (K w.params).In base → base.Ns mainGlobals mg → (∀ p ∈ cs, TabB base mg p.1 p.2) → FnG l.prog w (K w.params) mg base k fa fd [x] sp) :
    PySem.W.WalkO q loose XP YP l.row.toRowW d [] (fun f vs => PySem.call f vs) := by
  refine Att.attach_call most plain fun w s0 s mg mb fa o pm cd doc a us ns G Y ho hd hcd hmg at_a nums le ng => ?_
  have inK := left w _ Y
  obtain ⟨fd, cs, sp, tabs, bind, want, fn⟩ := F w mg fa _ inK G.T.g (fun x d c P h1 h2 => PySem.W.tab_of G.T inK h1 h2) hmg
  exact quiet_callT inK G.T.g G.T.b G.T.builtins G.T.nolimit ng at_a nums (Nat.le_trans le small) room tabs G.T.bmain fn bind (sys_there (G.T.seer alone)) (noSys w) fun H hH hY hS => want H a ns le hH hY hS
end Gu
namespace Gu
open PySem PySem.Spec PyProof.Rows L2
section
variable {P : Program} {w : World} {K : PySem.W.Frag} {mg : Str → Option Value} {base : Heap}
/-! ### _law_draw -/
def spLadle : Sp := fun vs H Q _ => ∃ (p : Addr) (m : Int), vs = [.ref p, .int m] ∧ Pot H p ∧ 0 < m ∧ m < 1000000 ∧ ∀ d G, 0 ≤ d → d < m → Ladled p H G → Q (.int d) G
theorem cal_draw (B : Bi mg) (D : At K mg "_law_draw" s_law_draw ps_law_draw) : Cal P w K mg base 1 "_law_draw" ps_law_draw spLadle := by
  refine D.cal sc_law_draw (fun vs H Q E h => ?_) (fun f cdv A outer s H vs Q E hr h => ?_)
  · obtain ⟨p, m, rfl, _⟩ := h
    rfl
  · obtain ⟨p, m, rfl, ⟨x, y, z, hp⟩, m0, m1, k⟩ := h
    refine ⟨_, (pss_cons (ps_asg (pe_op op_add (pe_ix ix_list (pv 0) pe_int (fun _ _ => rfl)) pe_int) (pg_sub (pv 0) pe_int set_list))
      (pss_cons (ps_if (pt_cmpR op_gt (pe_ix ix_list (pv 0) pe_int (fun _ _ => rfl)) pe_int (nomark _)) (pss_cons (ps_asg (pe_callB call_divmod (by rfl) B.divmod (by decide +kernel) (pa_cons (pe_ix ix_list (pv 0) pe_int (fun _ _ => rfl)) (pa_cons (pv 1) pa_nil))) (pg_tup rfl (pgs_cons (pg_sub (pv 0) pe_int set_list) (pgs_cons (pg_name (i := 2) sc_law_draw.nd rfl (.inl rfl)) pgs_nil))))
      (pss_one (ps_ret (pv 2)))) pss_nil)
      (pss_cons (ps_set (i := 3) sc_law_draw.nd rfl (.inl rfl) (pe_callTy call_int1 (by rfl) B.int (by decide +kernel) (pa_cons (pe_ix ix_list (pv 0) pe_int (fun _ _ => rfl)) pa_nil)))
      (pss_cons (ps_set (i := 4) sc_law_draw.nd rfl (.inl rfl) (pe_op op_add (pe_op op_mod (pe_callTy call_int1 (by rfl) B.int (by decide +kernel) (pa_cons (pv 3) pa_nil)) pe_int) pe_int))
      (pss_cons (ps_asg (pe_op op_mod (pe_callTy call_int1 (by rfl) B.int (by decide +kernel) (pa_cons (pe_op op_add (pe_op op_add (pe_op op_mul (pv 3) (pv 4)) (pe_op op_mul pe_int (pe_ix ix_list (pv 0) pe_int (fun _ _ => rfl)))) pe_int) pa_nil)) pe_int) (pg_sub (pv 0) pe_int set_list))
      (pss_one (ps_ret (pe_op op_mod (pe_op op_fdiv (pe_callTy call_int1 (by rfl) B.int (by decide +kernel) (pa_cons (pe_ix ix_list (pv 0) pe_int (fun _ _ => rfl)) pa_nil)) pe_int) (pv 1))))))))), ?_⟩
    refine ⟨_, rfl, p, _, _, _, rfl, rfl, .inl (.inl hp), (rfl : atI [V.int x, V.int y, V.int z] 2 = some (V.int z)), _, _, rfl, rfl, _, rfl, p, _, _, 2, rfl, rfl, hp, rfl, ?_⟩
    have h1 : upd H p (.lst ([V.int x, V.int y, V.int z].set 2 (.int (z + 1)))) p = some (.lst [.int x, .int y, .int (z + 1)]) := upd_same
    refine ⟨_, rfl, p, _, _, _, rfl, rfl, .inl (.inl h1), (rfl : atI [V.int x, V.int y, V.int (z + 1)] 0 = some (V.int x)), _, _, rfl, rfl, _, rfl, ite2 (fun _ => ?_) (fun _ => ?_)⟩
    · refine ⟨_, rfl, p, _, _, _, rfl, rfl, .inl (.inl h1), (rfl : atI [V.int x, V.int y, V.int (z + 1)] 0 = some (V.int x)), _, rfl, _, _, rfl, ⟨m0, by omega⟩, fun q hq => ?_⟩
      have npq : p ≠ q := ne_of_none h1 hq
      refine ⟨q, _, rfl, .inl (.inl upd_same), rfl, _, _, rfl, ⟨_, rfl, p, _, _, 0, rfl, rfl, (by rw [upd_ne npq]; exact h1), rfl, _, _, rfl, rfl, ?_⟩⟩
      refine ⟨_, rfl, ?_⟩
      refine k (x % m) _ (Int.emod_nonneg _ (by omega)) (Int.emod_lt_of_pos _ m0) ⟨⟨_, _, _, upd_same⟩, fun b o e n => ?_⟩
      have hb : upd H p (.lst ([V.int x, V.int y, V.int z].set 2 (.int (z + 1)))) b = some o := by rw [upd_ne n]; exact e
      rw [upd_ne n, upd_ne (ne_of_none hb hq), upd_ne n]
      exact e
    · have f0 : 0 ≤ y % 9973 := Int.emod_nonneg _ (by decide)
      have f1 : y % 9973 < 9973 := Int.emod_lt_of_pos _ (by decide)
      refine ⟨_, rfl, p, _, _, _, rfl, rfl, .inl (.inl h1), (rfl : atI [V.int x, V.int y, V.int (z + 1)] 1 = some (V.int y)), .inl ⟨_, rfl, ?_⟩⟩
      refine ⟨_, rfl, .inl ⟨_, rfl, _, _, rfl, rfl, (by decide : (0 : Int) < 9973), _, _, rfl, rfl, ?_⟩⟩
      refine ⟨_, rfl, _, rfl, _, _, rfl, rfl, .inr ⟨by omega, by omega⟩, _, rfl, p, _, _, _, rfl, rfl, .inl (.inl h1), (rfl : atI [V.int x, V.int y, V.int (z + 1)] 2 = some (V.int (z + 1))), _, _, rfl, rfl, .inl ⟨by decide, by decide⟩, _, _, rfl, rfl, _, _, rfl, rfl, .inl ⟨_, rfl, _, _, rfl, rfl, (by decide : (0 : Int) < 2147483587), ?_⟩⟩
      refine ⟨_, rfl, p, _, _, 1, rfl, rfl, h1, rfl, ?_⟩
      refine ⟨_, rfl, p, _, _, _, rfl, rfl, .inl (.inl upd_same), rfl, .inl ⟨_, rfl, _, _, rfl, rfl, ⟨by decide, by decide⟩, _, rfl, _, _, rfl, rfl, m0, ?_⟩⟩
      refine k _ _ (Int.emod_nonneg _ (by omega)) (Int.emod_lt_of_pos _ m0) ⟨⟨_, _, _, upd_same⟩, fun b o e n => ?_⟩
      rw [upd_ne n, upd_ne n]
      exact e
/-! ### _law_one: of a list -/
def spOneOf (K : PySem.W.Frag) : Sp := fun vs H Q _ => ∃ (p : Addr), Pot H p ∧
  (∃ (l : Addr) (xs : List V), vs = [.ref p, .ref l] ∧ SqL K H l xs ∧ l ≠ p ∧ 0 < xs.length ∧ xs.length < 1000 ∧ ∀ v G, v ∈ xs → Ladled p H G → Q v G)
theorem Ladled.seq {K : PySem.W.Frag} {H G : Hp} {p l : Addr} {xs : List V} (a : Ladled p H G) (n : l ≠ p) (h : SqL K H l xs) : SqL K G l xs := by
  rcases h with (h | ⟨o, h⟩) | h
  · exact .inl (.inl (a.keep _ _ h n))
  · exact .inl (.inr ⟨o, a.keep _ _ h n⟩)
  · exact .inr h
theorem at_in {α : Type} {xs : List α} {d : Int} (h0 : 0 ≤ d) (h1 : d < (xs.length : Int)) : ∃ v, v ∈ xs ∧ atI xs d = some v := by
  obtain ⟨j, rfl⟩ := Int.eq_ofNat_of_zero_le h0
  have hj : j < xs.length := by omega
  exact ⟨xs[j], List.getElem_mem hj, atI_nat (List.getElem?_eq_getElem hj)⟩
theorem cal_one (B : Bi mg) (D : At K mg "_law_one" s_law_one ps_law_one) (C_law_draw : Cal P w K mg base 1 "_law_draw" ps_law_draw spLadle) : Cal P w K mg base 2 "_law_one" ps_law_one (spOneOf K) := by
  refine D.cal sc_law_one (fun vs H Q E h => ?_) (fun f cdv A outer s H vs Q E hr h => ?_)
  · obtain ⟨p, _, l, xs, rfl, _⟩ := h
    rfl
  · refine ⟨_, (pss_one (ps_ret (pe_ix ix_list (pv 1) (pe_own C_law_draw hr (by decide) (by rfl) (pa_cons (pv 0) (pa_cons (pe_callB call_len (by rfl) B.len (by decide +kernel) (pa_cons (pv 1) pa_nil)) pa_nil))) (fun _ _ => rfl)))), ?_⟩
    obtain ⟨p, hp, l, xs, rfl, hl, np, l0, l1, k⟩ := h
    refine ⟨_, rfl, _, rfl, _, rfl, _, _, rfl, .inl ⟨_, hl, rfl⟩, p, _, rfl, hp, by omega, by omega, fun d G d0 d1 L => ?_⟩
    obtain ⟨v, hv, ha⟩ := at_in (xs := xs) d0 d1
    exact ⟨l, xs, d, v, rfl, rfl, L.seq np hl, ha, k v G hv L⟩
/-! ### _law_source -/
theorem sq_same {K : PySem.W.Frag} {H G : Hp} {l : Addr} {xs : List V} (a : Same H G) (h : SqL K H l xs) : SqL K G l xs := by
  rcases h with (h | ⟨o, h⟩) | h
  · exact .inl (.inl (a _ _ h))
  · exact .inl (.inr ⟨o, a _ _ h⟩)
  · exact .inr h
def spPot (K : PySem.W.Frag) : Sp := fun vs H Q _ => ∃ (a : Addr) (k : Nat) (ns : List Int), vs = [.ref a, .int (k : Int)] ∧ SqL K H a (ns.map V.int) ∧ k < 1000 ∧ ∀ p G, H p = none → Pot G p → Same H G → Q (.ref p) G
theorem cal_source (B : Bi mg) (D : At K mg "_law_source" s_law_source ps_law_source) : Cal P w K mg base 1 "_law_source" ps_law_source (spPot K) := by
  refine D.cal sc_law_source (fun vs H Q E h => ?_) (fun f cdv A outer s H vs Q E hr h => ?_)
  · obtain ⟨a, k, ns, rfl, _⟩ := h
    rfl
  · obtain ⟨a, k, ns, rfl, hS, hk, q⟩ := h
    refine ⟨_, (pss_cons (ps_set (i := 2) sc_law_source.nd rfl (.inl rfl) (pe_op op_add pe_int (pe_op op_mul pe_int (pv 1))))
      (pss_cons (ps_for PassesOwn.never rfl (pi_list (pe_slice sl_list (pv 0) po_none (po_some pe_int))) (pg_name (i := 3) sc_law_source.nd rfl (.inl rfl))
      (pss_one (ps_set (i := 2) sc_law_source.nd rfl (.inl rfl) (pe_op op_mod (pe_callTy call_int1 (by rfl) B.int (by decide +kernel) (pa_cons (pe_op op_add (pe_op op_mul (pv 2) pe_int) (pv 3)) pa_nil)) pe_int))))
      (pss_cons (ps_set (i := 4) sc_law_source.nd rfl (.inl rfl) (pe_mid (pe_ifExp (pt_cmpR op_lt (pv 1) (pe_callB call_len_seq (by rfl) B.len (by decide +kernel) (pa_cons (pv 0) pa_nil)) (nomark _)) (pe_ix ix_list (pv 0) (pv 1) (fun _ _ => rfl)) (pv 2))))
      (pss_cons (ps_set (i := 2) sc_law_source.nd rfl (.inl rfl) (pe_op op_mod (pe_callTy call_int1 (by rfl) B.int (by decide +kernel) (pa_cons (pe_op op_add (pe_op op_mul (pv 2) pe_int) (pv 4)) pa_nil)) pe_int))
      (pss_one (ps_ret (pe_lst (pa_cons (pe_mid (pe_ifExp (pt_cmpR op_ge (pe_callB call_abs (by rfl) B.abs (by decide +kernel) (pa_cons (pv 4) pa_nil)) (pe_op op_pow pe_int pe_int) (nomark _)) (pe_callB call_abs (by rfl) B.abs (by decide +kernel) (pa_cons (pv 4) pa_nil)) pe_int)) (pa_cons (pv 2) (pa_cons pe_int pa_nil)))))))))), ?_⟩
    refine ⟨_, rfl, _, _, rfl, rfl, .inl ⟨by decide, by decide⟩, _, _, rfl, rfl, ?_⟩
    refine ⟨_, rfl, 6, rfl, a, _, rfl, hS, fun c nc => ?_⟩
    have sc : Same H (upd H c (.lst (cutV (ns.map V.int) none (some 6)))) := same_new nc
    have hC : cutV (ns.map V.int) none (some 6) = (ns.take 6).map V.int := by
      unfold cutV
      rw [HT.sIx_none, show HT.sIx (ns.map V.int).length (ns.map V.int).length (some 6) = min 6 (ns.map V.int).length from HT.sIx_nat _ _ 6, List.drop_zero, Nat.sub_zero, List.map_take, List.take_eq_take_iff]
      omega
    refine ⟨c, rfl, ⟨_, .inl (.inl upd_same)⟩, for_list (K := K) (a := c) (xs := (ns.take 6).map V.int) (fun i σ J => ∃ (mx : Int) (u : Option V), σ = [some (.ref a), some (.int (k : Int)), some (.int mx), u, none] ∧ Same H J ∧ J c = some (.lst ((ns.take 6).map V.int)))
      ⟨_, none, rfl, sc, by rw [upd_same, hC]⟩ (fun i σ J _ ⟨_, _, _, _, e⟩ => .inl (.inl e)) ?_ ?_⟩
    · rintro i v σ J hi ⟨mx, u, rfl, sJ, eJ⟩
      obtain ⟨t, rfl⟩ : ∃ t, v = V.int t := by
        rw [List.getElem?_map] at hi
        cases e : (ns.take 6)[i]? with
        | none =>
          rw [e] at hi
          cases hi
        | some t =>
          rw [e] at hi
          exact ⟨t, (Option.some.inj hi).symm⟩
      refine ⟨_, rfl, _, _, rfl, rfl, .inr ⟨by decide, by decide⟩, _, rfl, _, _, rfl, rfl, .inl ⟨_, rfl, _, _, rfl, rfl, (by decide : (0 : Int) < 2147483629), ?_⟩⟩
      exact ⟨_, _, rfl, sJ, eJ⟩
    · rintro σ J ⟨mx, u, rfl, sJ, eJ⟩
      refine ⟨fun v J1 => (∃ i : Int, v = .int i) ∧ J1 = J, ?_, ?_⟩
      · refine ⟨_, rfl, _, rfl, a, _, rfl, .inl (sq_same sJ hS), _, _, rfl, rfl, _, rfl, ite2 (fun e => ?_) (fun _ => ?_)⟩
        · have hlt := of_decide_eq_true e
          have hj : k < ns.length := by
            rw [List.length_map] at hlt
            omega
          refine ⟨_, rfl, _, rfl, a, _, _, _, rfl, rfl, sq_same sJ hS, atI_nat (j := k) (v := .int ns[k]) (by rw [List.getElem?_map, List.getElem?_eq_getElem hj]; rfl), ⟨_, rfl⟩, rfl⟩
        · exact ⟨_, rfl, ⟨_, rfl⟩, rfl⟩
      · rintro _ _ ⟨⟨own, rfl⟩, rfl⟩
        refine ⟨_, rfl, _, _, rfl, rfl, .inr ⟨by decide, by decide⟩, _, rfl, _, _, rfl, rfl, .inl ⟨_, rfl, _, _, rfl, rfl, (by decide : (0 : Int) < 2147483629), ?_⟩⟩
        refine ⟨fun v J1 => (∃ i : Int, v = .int i) ∧ Same H J1, ?_, ?_⟩
        · refine ⟨_, rfl, _, rfl, _, _, rfl, rfl, ⟨by decide, by decide, by decide⟩, _, _, rfl, rfl, _, rfl, ite2 (fun _ => ⟨_, rfl, _, rfl, ⟨_, rfl⟩, sJ⟩) (fun _ => ⟨⟨_, rfl⟩, sJ⟩)⟩
        · rintro _ J1 ⟨⟨x, rfl⟩, s1⟩
          exact ⟨_, rfl, by show 3 ≤ sizeLine; decide, fun p np => q p _ (s1.free np) ⟨_, _, _, upd_same⟩ (s1.trans (same_new np))⟩
end
end Gu
namespace Gu
open PySem PySem.Spec PyProof PyProof.Rows L2 LamX
/-! ### code objects with their tables; lambdas made within lambdas -/
abbrev QN := Str × Addr
/-- the object at c is a code object of the name q.1, its table stands at q.2 -/
def CodeO (c : Addr) (q : QN) : HO := .ext fun h => (∃ (oc : Obj) (vs : Array Value) (t : Tok), h.get? c = some oc ∧ oc.data = .fields vs ∧ vs[1]? = some (.str q.1 t)) ∧ PySem.W.CodeHd h c q.2
theorem codeO_ne {c : Addr} {q : QN} (ps : Array Value) : CodeO c q ≠ .tbl ps := fun z => by
  unfold CodeO at z
  cases z
def TabS (H : Hp) (P : Addr) (q : Str) : Prop := ∃ ps : Array Value, H P = some (.tbl ps) ∧ TriplesOk ps.toList ∧ ∀ (pos : Pos) (cv : Value), codeAmong pos ps.toList = some cv → ∃ c P', cv = .ref c ∧ H c = some (CodeO c (q, P'))
def nq (q : Str) : Str := q ++ ".<locals>." ++ "<lambda>"
/-- a table of a lambda's own code object -/
def TabP (T : List (Addr × Str)) (H : Hp) (P : Addr) (q : Str) : Prop := P ∉ T.map (·.1) ∧ TabS H P q
def TabD (T : List (Addr × Str)) (H : Hp) (P : Addr) (q : Str) : Prop := ∃ ps : Array Value, H P = some (.tbl ps) ∧ ∀ (pos : Pos) (cv : Value), codeAmong pos ps.toList = some cv → ∃ c P', cv = .ref c ∧ H c = some (CodeO c (q, P')) ∧ TabP T H P' (nq q)
/-- all tables; the first one's code objects have tables of their own -/
structure Tabs (T : List (Addr × Str)) (H : Hp) : Prop where
  all : ∀ p ∈ T, TabS H p.1 p.2
  fst : ∀ p, T.head? = some p → TabD T H p.1 p.2
theorem TabS.ext {H H' : Hp} {P : Addr} {q : Str} (t : TabS H P q) (e : ∀ b o, H b = some o → H' b = some o) : TabS H' P q := by
  obtain ⟨ps, h1, h2, h3⟩ := t
  refine ⟨ps, e _ _ h1, h2, fun pos cv hc => ?_⟩
  obtain ⟨c, P', e1, e2⟩ := h3 pos cv hc
  exact ⟨c, P', e1, e _ _ e2⟩
theorem TabP.ext {T : List (Addr × Str)} {H H' : Hp} {P : Addr} {q : Str} (t : TabP T H P q) (e : ∀ b o, H b = some o → H' b = some o) : TabP T H' P q := ⟨t.1, t.2.ext e⟩
theorem Tabs.ext {T : List (Addr × Str)} {H H' : Hp} (t : Tabs T H) (e : ∀ b o, H b = some o → H' b = some o) : Tabs T H' := by
  refine ⟨fun p hp => (t.all p hp).ext e, fun p hp => ?_⟩
  obtain ⟨ps, h1, h3⟩ := t.fst p hp
  refine ⟨ps, e _ _ h1, fun pos cv hc => ?_⟩
  obtain ⟨c, P', e1, e2, e3⟩ := h3 pos cv hc
  exact ⟨c, P', e1, e _ _ e2, e3.ext e⟩
theorem TabS.nil {H : Hp} {P : Addr} {q : Str} (h : H P = some (.tbl #[])) : TabS H P q := ⟨#[], h, True.intro, fun pos cv hc => by
  have z : codeAmong pos [] = some cv := hc
  simp [codeAmong] at z⟩
theorem Tabs.nil {T : List (Addr × Str)} {H : Hp} (h : ∀ p ∈ T, H p.1 = some (.tbl #[])) : Tabs T H := ⟨fun p hp => .nil (h p hp), fun p hp => ⟨#[], h p (List.mem_of_mem_head? hp), fun pos cv hc => by
  have z : codeAmong pos [] = some cv := hc
  simp [codeAmong] at z⟩⟩
section
variable {X : Cx} {pins : List (Addr × Obj)} {σ : L2.St} {H : Hp} {s : Shared}
theorem inv_table {P c P1 : Addr} {q : Str} {ps more : Array Value} {h' : Heap} {t' : Nat} (I : Inv X pins σ H s) (hP : H P = some (.tbl ps)) (k : ∀ b o, b ≠ P → s.heap.get? b = some o → h'.get? b = some o)
    (hm : h'.get? P = some { cls := .none, data := .fields (ps ++ more) }) (hc : s.heap.objs.size ≤ c) (h1s : s.heap.objs.size ≤ P1) (hcP : c ≠ P1) (hP1 : h'.get? P1 = some { cls := .none, data := .fields #[] })
    (ho : (∃ (oc : Obj) (vs : Array Value) (t : Tok), h'.get? c = some oc ∧ oc.data = .fields vs ∧ vs[1]? = some (.str q t)) ∧ PySem.W.CodeHd h' c P1) :
    Inv X pins σ (upd (upd (upd H P (.tbl (ps ++ more))) c (CodeO c (q, P1))) P1 (.tbl #[])) { s with heap := h', toks := t' } := by
  have nC : H c = none := I.hok.fresh hc
  have n1 : H P1 = none := I.hok.fresh h1s
  have nPc : P ≠ c := ne_of_none hP nC
  have nP1 : P ≠ P1 := ne_of_none hP n1
  have at_ : ∀ b, b ≠ P → b ≠ c → b ≠ P1 → upd (upd (upd H P (.tbl (ps ++ more))) c (CodeO c (q, P1))) P1 (.tbl #[]) b = H b := fun b h1 h2 h3 => by rw [upd_ne h3, upd_ne h2, upd_ne h1]
  have atP : upd (upd (upd H P (.tbl (ps ++ more))) c (CodeO c (q, P1))) P1 (.tbl #[]) P = some (.tbl (ps ++ more)) := by rw [upd_ne nP1, upd_ne nPc, upd_same]
  have nP : ∀ b u, H b = some u → (∀ q, u ≠ .tbl q) → b ≠ P := fun b u e q z => by
    rw [z, hP] at e
    exact q ps (Option.some.inj e).symm
  have nN : ∀ b, H b = none → b ≠ P := fun b e z => by
    rw [z, hP] at e
    cases e
  have lt' : ∀ b o, s.heap.get? b = some o → b ≠ c := fun b o e z => by
    rw [z] at e
    exact Nat.lt_irrefl _ (Nat.lt_of_lt_of_le (Heap.lt_size e) hc)
  have lt1 : ∀ b o, s.heap.get? b = some o → b ≠ P1 := fun b o e z => by
    rw [z] at e
    exact Nat.lt_irrefl _ (Nat.lt_of_lt_of_le (Heap.lt_size e) h1s)
  have sm : ∀ b u, H b = some u → b ≠ c := fun b u e => ne_of_none e nC
  have sm1 : ∀ b u, H b = some u → b ≠ P1 := fun b u e => ne_of_none e n1
  refine I.step (g' := s.gens) (d' := s.drawn) (ch := []) (fun b hb => absurd hb (by simp)) (fun b o _ _ _ e n => k b o (nN b n) e) (fun b o _ _ _ e n => ⟨o.slots, k b o (nN b n) e⟩)
    (fun b o _ e n => by rw [at_ b (nN b n) (lt' b o e) (lt1 b o e)]; exact n) (fun b o _ e => ?_) (fun b xs e => by rw [at_ b (nP b _ e (fun q z => by cases z)) (sm b _ e) (sm1 b _ e)]; exact e) (fun b o u e => by rw [at_ b (nP b _ e (fun q z => by cases z)) (sm b _ e) (sm1 b _ e)]; exact e) (fun b qs e => ?_) (fun m hn => ?_) (fun b u e => ?_) I.bare
  · by_cases hb : b = P
    · rw [hb]
      exact ⟨_, hm⟩
    · exact ⟨o, k b o hb e⟩
  · by_cases hb : b = P
    · rw [hb, hP] at e
      cases e
      rw [hb, atP]
      exact ⟨more, rfl⟩
    · rw [at_ b hb (sm b _ e) (sm1 b _ e), e]
      exact ⟨#[], by simp⟩
  · obtain ⟨ob, es, ep, ho, r⟩ := hn
    exact ⟨ob, es, ep, k _ ob (nN _ I.free) ho, r⟩
  · by_cases hb1 : b = P1
    · rw [hb1, upd_same] at e
      cases e
      rw [hb1]
      exact hP1
    by_cases hb : b = c
    · rw [hb, upd_ne hcP, upd_same] at e
      cases e
      rw [hb]
      obtain ⟨⟨oc, vs, t, e1, e2, e3⟩, hd⟩ := ho
      refine ⟨⟨⟨oc, vs, t, e1, e2, e3⟩, hd⟩, ⟨oc, e1⟩, fun h1 h2 ⟨⟨oc, vs, t, a, b, c⟩, hd⟩ st => ⟨⟨oc, vs, t, st _ a, b, c⟩, ?_⟩⟩
      obtain ⟨o, vs2, file, tf, fl, tg, inF, tx, tt, f1, rest⟩ := hd
      exact ⟨o, vs2, file, tf, fl, tg, inF, tx, tt, st _ f1, rest⟩
    · by_cases hb2 : b = P
      · rw [hb2, atP] at e
        cases e
        rw [hb2]
        exact hm
      · rw [at_ b hb2 hb hb1] at e
        refine (I.hok b u e).stay (fun d v hd q => k d v ?_ q) (fun d q => by rw [at_ d (nP d _ q (fun q z => by cases z)) (sm d _ q) (sm1 d _ q)]; exact q) fun d xs q => by rw [at_ d (nP d _ q (fun q z => by cases z)) (sm d _ q) (sm1 d _ q)]; exact q
        rcases hd with z | z
        · rw [z]
          exact hb2
        · exact nP d _ z (fun q z => by cases z)
end
section
variable {M : Model} {A : Around} {E : Value → Shared → Prop} {s : Shared} {name qual : Str} {params : Arguments} {body : Expr} {scope : Scope} {env : Env} {c P : Addr} {ps : Array Value} {pos : Pos} {firstLine : Nat} {mg : Str → Option Value}
  {clos : List (Str × Addr)} {Q : Value → Shared → Prop}
theorem kla_makeTailN (hcl : closureFor scope env = pure clos) (hge0 : env.globals = mainGlobals) (hg : s.heap.Ns mainGlobals mg) (hcode : env.code = .ref c) (C : PySem.W.CodeHd s.heap c P) (hP : s.heap.get? P = some (PySem.W.tabObj ps)) (ht : TriplesOk ps.toList)
    (hnf : codeAmong pos ps.toList = none) (hgP : mainGlobals ≠ P) (hb : s.heap.BuiltinsAt mg P)
    (h : ∀ c' P1 ctv h' tk, Heap.ExtBut P s.heap h' → s.heap.objs.size ≤ c' → c' < h'.objs.size → h'.CodeRec (.ref c') qual → h'.get? P = some (PySem.W.tabObj (ps ++ #[rawInt pos.line, rawInt pos.col, .ref c'])) → s.heap.objs.size ≤ P1 → h'.get? P1 = some (PySem.W.tabObj #[]) → PySem.W.CodeHd h' c' P1 →
      Q (.ref h'.objs.size) { s with heap := h'.push (PySem.W.kla_obj name qual params body scope clos ((mg "__name__").getD .none) c' ctv), toks := tk }) :
    wpAny M A (makeTail name qual params (.expr body) scope env .none .none none pos firstLine) Q E s := by
  obtain ⟨bm, ob, hbm, hne0, _, hneP, hbo, hcls, hdict, hdata⟩ := hb
  unfold makeTail
  rw [hcl, hge0]
  refine wpAny_bind (wpAny_pure ?_)
  cases clos with
  | nil =>
    simp only [List.isEmpty_nil, if_true]
    refine wpAny_bind (wpAny_pure ?_)
    refine wpAny_bind (wpAny_functionCodeX hcode (C.code hP ht) (C.tab hP) hnf fun c' h' tk hx hge hlt _ hrec htb ⟨P1, z1, z2, z3⟩ => ?_)
    have hg' := hg.extBut hx hgP
    refine wpAny_bind (wpAny_builtinsFor hg' hbm hne0 (hx _ _ hneP hbo) hcls hdict hdata ?_)
    refine wpAny_bind (wpAny_nsGet hg' ?_)
    exact wpAny_bind (wpAny_pure (wpAny_newObj_type (h c' P1 .none h' tk hx hge hlt hrec htb.2 z1 z3.2 (PySem.W.CodeHd.of z2 z3)) (by size_fits)))
  | cons q r =>
    simp only [List.isEmpty_cons, Bool.false_eq_true, if_false]
    refine wpAny_bind (wpAny_newTextTuple ?_)
    refine wpAny_bind (wpAny_functionCodeX hcode ((C.keeps fun b o e => Heap.get?_push_of_some _ e).code (Heap.get?_push_of_some _ hP) ht) ((C.keeps fun b o e => Heap.get?_push_of_some _ e).tab (Heap.get?_push_of_some _ hP)) hnf fun c' h' tk hx hge hlt _ hrec htb ⟨P1, z1, z2, z3⟩ => ?_)
    have hg' := (hg.push _).extBut hx hgP
    have hx' : Heap.ExtBut P s.heap h' := fun b o hb' e => hx b o hb' (Heap.get?_push_of_some _ e)
    have hge' : s.heap.objs.size ≤ c' := Nat.le_trans (by rw [Heap.size_push]; omega) hge
    refine wpAny_bind (wpAny_builtinsFor hg' hbm hne0 (hx' _ _ hneP hbo) hcls hdict hdata ?_)
    refine wpAny_bind (wpAny_nsGet hg' ?_)
    exact wpAny_bind (wpAny_pure (wpAny_newObj_type (h c' P1 _ h' tk hx' hge' hlt hrec htb.2 (Nat.le_trans (by rw [Heap.size_push]; omega) z1) z3.2 (PySem.W.CodeHd.of z2 z3)) (by size_fits)))
theorem kla_makeFunctionN (hcl : closureFor scope env = pure clos) (hge0 : env.globals = mainGlobals) (hg : s.heap.Ns mainGlobals mg) (hcode : env.code = .ref c) (C : PySem.W.CodeHd s.heap c P) (hP : s.heap.get? P = some (PySem.W.tabObj ps)) (ht : TriplesOk ps.toList)
    (hnf : codeAmong pos ps.toList = none) (hgP : mainGlobals ≠ P) (hb : s.heap.BuiltinsAt mg P)
    (h : ∀ c' P1 ctv h' tk, Heap.ExtBut P s.heap h' → s.heap.objs.size ≤ c' → c' < h'.objs.size → h'.CodeRec (.ref c') qual → h'.get? P = some (PySem.W.tabObj (ps ++ #[rawInt pos.line, rawInt pos.col, .ref c'])) → s.heap.objs.size ≤ P1 → h'.get? P1 = some (PySem.W.tabObj #[]) → PySem.W.CodeHd h' c' P1 →
      Q (.ref h'.objs.size) { s with heap := h'.push (PySem.W.kla_obj name qual params body scope clos ((mg "__name__").getD .none) c' ctv), toks := tk }) :
    wpAny M A (makeFunction name qual params (.expr body) scope env [] [] [] pos firstLine) Q E s := by
  rw [makeFunction_eq]
  simp only [List.zip_nil_right, List.filterMap_nil, List.isEmpty_nil, if_true, pure_bind]
  exact kla_makeTailN hcl hge0 hg hcode C hP ht hnf hgP hb h
end
section
variable {X : Cx} {pins : List (Addr × Obj)} {σ : L2.St} {H : Hp} {s : Shared}
theorem Tabs.mem {T : List (Addr × Str)} {p : Addr × Str} (h : T.head? = some p) : p ∈ T := List.mem_of_mem_head? h
/-- a table has one more code object, with a table of its own -/
theorem Tabs.grow {T : List (Addr × Str)} {P c P1 : Addr} {q : Str} {ps : Array Value} {pos : Pos} (hT : Tabs T H) (hm : (P, q) ∈ T) (hu : ∀ p ∈ T, p.1 = P → p.2 = q) (hP : H P = some (.tbl ps)) (ht : TriplesOk ps.toList) (nC : H c = none) (n1 : H P1 = none) (hc1 : c ≠ P1) :
    Tabs T (upd (upd (upd H P (.tbl (ps ++ #[rawInt pos.line, rawInt pos.col, .ref c]))) c (CodeO c (q, P1))) P1 (.tbl #[])) ∧ TabP T (upd (upd (upd H P (.tbl (ps ++ #[rawInt pos.line, rawInt pos.col, .ref c]))) c (CodeO c (q, P1))) P1 (.tbl #[])) P1 (nq q) := by
  have nPc : P ≠ c := ne_of_none hP nC
  have nP1 : P ≠ P1 := ne_of_none hP n1
  have eL : (ps ++ #[rawInt pos.line, rawInt pos.col, .ref c]).toList = ps.toList ++ [rawInt pos.line, rawInt pos.col, .ref c] := by simp
  generalize eG : upd (upd (upd H P (.tbl (ps ++ #[rawInt pos.line, rawInt pos.col, .ref c]))) c (CodeO c (q, P1))) P1 (.tbl #[]) = G
  have gP : G P = some (.tbl (ps ++ #[rawInt pos.line, rawInt pos.col, .ref c])) := by rw [← eG, upd_ne nP1, upd_ne nPc, upd_same]
  have gc : G c = some (CodeO c (q, P1)) := by rw [← eG, upd_ne hc1, upd_same]
  have g1 : G P1 = some (.tbl #[]) := by rw [← eG, upd_same]
  have go : ∀ b o, H b = some o → b ≠ P → G b = some o := fun b o e n => by rw [← eG, upd_ne (ne_of_none e n1), upd_ne (ne_of_none e nC), upd_ne n]; exact e
  have gx : ∀ b o, H b = some o → (∀ ps, o ≠ .tbl ps) → G b = some o := fun b o e n => go b o e fun z => n ps (Option.some.inj (e.symm.trans (by rw [z]; exact hP)))
  have p1 : TabP T G P1 (nq q) := by
    refine ⟨fun z => ?_, .nil g1⟩
    obtain ⟨p, hp, e⟩ := List.mem_map.mp z
    obtain ⟨ps2, e2, _⟩ := hT.all p hp
    rw [e, n1] at e2
    cases e2
  have pOld : ∀ {P' : Addr} {q' : Str}, TabP T H P' q' → TabP T G P' q' := fun {P' q'} ⟨a, ps2, e1, e2, e3⟩ => by
    refine ⟨a, ps2, go _ _ e1 fun z => a (by rw [z]; exact List.mem_map.mpr ⟨_, hm, rfl⟩), e2, fun p' cv hcv => ?_⟩
    obtain ⟨c0, P0, z1, z2⟩ := e3 p' cv hcv
    exact ⟨c0, P0, z1, gx _ _ z2 codeO_ne⟩
  refine ⟨⟨fun p hp => ?_, fun p hp => ?_⟩, p1⟩
  · by_cases hb : p.1 = P
    · rw [hu p hp hb, hb]
      refine ⟨_, gP, by rw [eL]; exact PySem.TriplesOk_snoc _ _ _ _ ht, fun p' cv hcv => ?_⟩
      rw [eL] at hcv
      rcases among_app _ ht hcv with z | z
      · obtain ⟨ps2, a1, a2, a3⟩ := hT.all _ hm
        rw [show H (P, q).1 = H P from rfl, hP] at a1
        cases a1
        obtain ⟨c0, P0, e1, e2⟩ := a3 p' cv z
        exact ⟨c0, P0, e1, gx _ _ e2 codeO_ne⟩
      · exact ⟨c, P1, z, gc⟩
    · obtain ⟨ps2, a1, a2, a3⟩ := hT.all p hp
      refine ⟨ps2, go _ _ a1 hb, a2, fun p' cv hcv => ?_⟩
      obtain ⟨c0, P0, e1, e2⟩ := a3 p' cv hcv
      exact ⟨c0, P0, e1, gx _ _ e2 codeO_ne⟩
  · obtain ⟨ps2, a1, a3⟩ := hT.fst p hp
    by_cases hb : p.1 = P
    · rw [hb, hP] at a1
      cases a1
      have e := hu p (Tabs.mem hp) hb
      rw [e] at a3 ⊢
      rw [hb]
      refine ⟨_, gP, fun p' cv hcv => ?_⟩
      rw [eL] at hcv
      rcases among_app _ ht hcv with z | z
      · obtain ⟨c0, P0, e1, e2, e3⟩ := a3 p' cv z
        exact ⟨c0, P0, e1, gx _ _ e2 codeO_ne, pOld e3⟩
      · exact ⟨c, P1, z, gc, p1⟩
    · refine ⟨ps2, go _ _ a1 hb, fun p' cv hcv => ?_⟩
      obtain ⟨c0, P0, e1, e2, e3⟩ := a3 p' cv hcv
      exact ⟨c0, P0, e1, gx _ _ e2 codeO_ne, pOld e3⟩
/-- the lambda is made: its code object is new, or found in the table -/
theorem lam_make2 {T : List (Addr × Str)} {c P : Addr} {params : Arguments} {body : Expr} {scope : Scope} {pos : Pos} {E : Value → Shared → Prop} {Q : Value → Shared → Prop} (I : Inv X pins σ H s) (TB : TabB X.base X.mg c P) (hcode : X.env.code = .ref c)
    (hm : (P, X.env.qual ++ "<lambda>") ∈ T) (hu : ∀ p ∈ T, p.1 = P → p.2 = X.env.qual ++ "<lambda>") (hT : Tabs T H) (hdef : defaultsOf params X.env = ([], [])) (hfree : ∀ y ∈ scope.names, y.2 = .free → ∃ c, X.env.cells.lookup y.1 = some c)
    (h : ∀ (f c' P' : Addr) (pm ctv : Value) (H1 : Hp) (s' : Shared), Inv X pins σ H1 s' → ExtN H H1 → Tabs T H1 →
      s'.heap.get? f = some (PySem.W.kla_obj "<lambda>" (X.env.qual ++ "<lambda>") params body scope (cloFrom X.env.cells scope.names []) pm c' ctv) → H1 f = none → f ∉ frs X.stack → H1 c' = some (CodeO c' (X.env.qual ++ "<lambda>", P')) → (T.head? = some (P, X.env.qual ++ "<lambda>") → TabP T H1 P' (nq (X.env.qual ++ "<lambda>"))) → Q (.ref f) s') :
    wpAny (model X.prog X.w) X.A (eval (.Lambda params body scope pos) X.env) Q E s := by
  obtain ⟨ps, hP, ht, ha⟩ := hT.all _ hm
  refine PySem.W.kla_eval hdef ?_
  have bP : s.heap.BuiltinsAt X.mg P := TB.bm.keeps I.bk
  have hP' : s.heap.get? P = some { cls := .none, data := .fields ps } := I.hok P _ hP
  have nofr : ∀ f, s.heap.objs.size ≤ f → f ∉ frs X.stack := fun f hf z => by
    rcases List.mem_cons.mp (I.stkSub _ z) with e | e
    · have h1 := I.lt
      rw [← e] at h1
      exact Nat.lt_irrefl _ (Nat.lt_of_lt_of_le h1 hf)
    · exact I.nofs hf e
  cases hc : codeAmong pos ps.toList with
  | none =>
    refine kla_makeFunctionN (mg := X.mg) (c := c) (P := P) (ps := ps) (closure_ok hfree) I.ok.glob (I.mod.glob.keeps I.bk) hcode (TB.code.keeps I.bk) hP' ht hc TB.gP bP fun c' P1 ctv h' tk hx hge hlt hrec htb h1s hP1 hhd => ?_
    obtain ⟨c2, oc, vs, t, e2, hoc, hd, hv⟩ := hrec
    cases e2
    have hsz : s.heap.objs.size ≤ h'.objs.size := Nat.le_trans hge (Nat.le_of_lt hlt)
    have nC : H c' = none := I.hok.fresh hge
    have n1 : H P1 = none := I.hok.fresh h1s
    have hc1 : c' ≠ P1 := by
      obtain ⟨_, _, _, _, _, _, _, _, _, _, _, _, _, _, _, _, _, _, ne⟩ := hhd
      exact ne
    have I1 := inv_table (q := X.env.qual ++ "<lambda>") (t' := tk) (more := #[rawInt pos.line, rawInt pos.col, .ref c']) (h' := h'.push (PySem.W.kla_obj "<lambda>" (X.env.qual ++ "<lambda>") params body scope (cloFrom X.env.cells scope.names []) ((X.mg "__name__").getD .none) c' ctv)) I hP
      (fun b o hb e => Heap.get?_push_of_some _ (hx b o hb e)) (Heap.get?_push_of_some _ htb) hge h1s hc1 (Heap.get?_push_of_some _ hP1) ⟨⟨oc, vs, t, Heap.get?_push_of_some _ hoc, hd, hv⟩, hhd.keeps fun b o e => Heap.get?_push_of_some _ e⟩
    obtain ⟨gT, gP⟩ := hT.grow (pos := pos) hm hu hP ht nC n1 hc1
    have hE : ExtN H (upd (upd (upd H P (.tbl (ps ++ #[rawInt pos.line, rawInt pos.col, .ref c']))) c' (CodeO c' (X.env.qual ++ "<lambda>", P1))) P1 (.tbl #[])) := fun b o e n => by
      rw [upd_ne (ne_of_none e n1), upd_ne (ne_of_none e nC), upd_ne (fun z => n ps (Option.some.inj (e.symm.trans (by rw [z]; exact hP))))]
      exact e
    refine h h'.objs.size c' P1 ((X.mg "__name__").getD .none) ctv _ _ I1 hE gT (Heap.get?_push_size _ rfl) ?_ (nofr _ hsz) (by rw [upd_ne hc1, upd_same]) (fun _ => gP)
    have m1 : h'.objs.size ≠ c' := Nat.ne_of_gt hlt
    have m2 : h'.objs.size ≠ P := Nat.ne_of_gt (Nat.lt_of_lt_of_le (Heap.lt_size hP') hsz)
    have m3 : h'.objs.size ≠ P1 := Nat.ne_of_gt (Heap.lt_size hP1)
    rw [upd_ne m3, upd_ne m1, upd_ne m2]
    exact I.hok.fresh hsz
  | some cv =>
    obtain ⟨c', P', e, hco⟩ := ha pos cv hc
    subst e
    refine PySem.W.kla_makeFunctionHit (mg := X.mg) (c := c) (P := P) (ps := ps) (closure_ok hfree) I.ok.glob (I.mod.glob.keeps I.bk) hcode (TB.code.keeps I.bk) hP' ht hc bP fun ctv h' tk hx hsz => ?_
    have I1 : Inv X pins σ H { s with heap := h'.push (PySem.W.kla_obj "<lambda>" (X.env.qual ++ "<lambda>") params body scope (cloFrom X.env.cells scope.names []) ((X.mg "__name__").getD .none) c' ctv), toks := tk } := I.kept fun b o e => Heap.get?_push_of_some _ (hx b o e)
    by_cases hh : T.head? = some (P, X.env.qual ++ "<lambda>")
    · obtain ⟨ps2, a1, a3⟩ := hT.fst _ hh
      rw [show H (P, X.env.qual ++ "<lambda>").1 = H P from rfl, hP] at a1
      cases a1
      obtain ⟨c2, P2, e2, e3, e4⟩ := a3 pos _ hc
      cases e2
      exact h h'.objs.size c' P2 ((X.mg "__name__").getD .none) ctv H _ I1 (ExtN.refl H) hT (Heap.get?_push_size _ rfl) (I.hok.fresh hsz) (nofr _ hsz) e3 (fun _ => e4)
    · exact h h'.objs.size c' P' ((X.mg "__name__").getD .none) ctv H _ I1 (ExtN.refl H) hT (Heap.get?_push_size _ rfl) (I.hok.fresh hsz) (nofr _ hsz) hco (fun z => absurd z hh)
end
end Gu
namespace Gu
open PySem PySem.Spec PyProof PyProof.Rows L2 LamX
/-- what keeps tables and code objects keeps all of it -/
theorem Tabs.of {T : List (Addr × Str)} {H G : Hp} (t : Tabs T H) (ht : ∀ P ps, H P = some (.tbl ps) → G P = some (.tbl ps)) (hc : ∀ c q, H c = some (CodeO c q) → G c = some (CodeO c q)) : Tabs T G := by
  have ts : ∀ {P : Addr} {q : Str}, TabS H P q → TabS G P q := fun {P q} ⟨ps, h1, h2, h3⟩ => ⟨ps, ht _ _ h1, h2, fun pos cv h => by
    obtain ⟨c, P', e1, e2⟩ := h3 pos cv h
    exact ⟨c, P', e1, hc _ _ e2⟩⟩
  refine ⟨fun p hp => ts (t.all p hp), fun p hp => ?_⟩
  obtain ⟨ps, h1, h3⟩ := t.fst p hp
  refine ⟨ps, ht _ _ h1, fun pos cv h => ?_⟩
  obtain ⟨c, P', e1, e2, e3⟩ := h3 pos cv h
  exact ⟨c, P', e1, hc _ _ e2, e3.1, ts e3.2⟩
end Gu
namespace Gu
open PySem PySem.Spec PyProof PyProof.Rows L2 LamX
section
variable {X : Cx} {pins : List (Addr × Obj)} {σ : L2.St} {H : Hp} {s : Shared}
/-- a table of a nested lambda's maker has one more code object -/
theorem Tabs.growN {T : List (Addr × Str)} {P0 c P1 : Addr} {q2 : Str} {ps : Array Value} {pos : Pos} (hT : Tabs T H) (hq : ∀ p, T.head? = some p → nq p.2 = q2) (hp0 : TabP T H P0 q2) (hP : H P0 = some (.tbl ps)) (ht : TriplesOk ps.toList) (nC : H c = none) (n1 : H P1 = none) (hc1 : c ≠ P1) :
    Tabs T (upd (upd (upd H P0 (.tbl (ps ++ #[rawInt pos.line, rawInt pos.col, .ref c]))) c (CodeO c (q2, P1))) P1 (.tbl #[])) ∧ TabP T (upd (upd (upd H P0 (.tbl (ps ++ #[rawInt pos.line, rawInt pos.col, .ref c]))) c (CodeO c (q2, P1))) P1 (.tbl #[])) P0 q2 := by
  have nPc : P0 ≠ c := ne_of_none hP nC
  have nP1 : P0 ≠ P1 := ne_of_none hP n1
  have eL : (ps ++ #[rawInt pos.line, rawInt pos.col, .ref c]).toList = ps.toList ++ [rawInt pos.line, rawInt pos.col, .ref c] := by simp
  generalize eG : upd (upd (upd H P0 (.tbl (ps ++ #[rawInt pos.line, rawInt pos.col, .ref c]))) c (CodeO c (q2, P1))) P1 (.tbl #[]) = G
  have gP : G P0 = some (.tbl (ps ++ #[rawInt pos.line, rawInt pos.col, .ref c])) := by rw [← eG, upd_ne nP1, upd_ne nPc, upd_same]
  have gc : G c = some (CodeO c (q2, P1)) := by rw [← eG, upd_ne hc1, upd_same]
  have go : ∀ b o, H b = some o → b ≠ P0 → G b = some o := fun b o e n => by rw [← eG, upd_ne (ne_of_none e n1), upd_ne (ne_of_none e nC), upd_ne n]; exact e
  have gx : ∀ b o, H b = some o → (∀ ps, o ≠ .tbl ps) → G b = some o := fun b o e n => go b o e fun z => n ps (Option.some.inj (e.symm.trans (by rw [z]; exact hP)))
  have p0 : TabP T G P0 q2 := by
    refine ⟨hp0.1, _, gP, by rw [eL]; exact PySem.TriplesOk_snoc _ _ _ _ ht, fun p' cv hcv => ?_⟩
    rw [eL] at hcv
    rcases among_app _ ht hcv with z | z
    · obtain ⟨_, ps2, a1, a2, a3⟩ := hp0
      rw [hP] at a1
      cases a1
      obtain ⟨c0, P2, e1, e2⟩ := a3 p' cv z
      exact ⟨c0, P2, e1, gx _ _ e2 codeO_ne⟩
    · exact ⟨c, P1, z, gc⟩
  have off : ∀ p ∈ T, p.1 ≠ P0 := fun p hp z => hp0.1 (List.mem_map.mpr ⟨p, hp, z⟩)
  refine ⟨⟨fun p hp => ?_, fun p hp => ?_⟩, p0⟩
  · obtain ⟨ps2, a1, a2, a3⟩ := hT.all p hp
    refine ⟨ps2, go _ _ a1 (off p hp), a2, fun p' cv hcv => ?_⟩
    obtain ⟨c0, P2, e1, e2⟩ := a3 p' cv hcv
    exact ⟨c0, P2, e1, gx _ _ e2 codeO_ne⟩
  · obtain ⟨ps2, a1, a3⟩ := hT.fst p hp
    refine ⟨ps2, go _ _ a1 (off p (Tabs.mem hp)), fun p' cv hcv => ?_⟩
    obtain ⟨c0, P2, e1, e2, e3⟩ := a3 p' cv hcv
    refine ⟨c0, P2, e1, gx _ _ e2 codeO_ne, ?_⟩
    by_cases e : P2 = P0
    · rw [e, hq p hp]
      exact p0
    · obtain ⟨z, ps3, b1, b2, b3⟩ := e3
      refine ⟨z, ps3, go _ _ b1 e, b2, fun p' cv hcv => ?_⟩
      obtain ⟨c3, P3, f1, f2⟩ := b3 p' cv hcv
      exact ⟨c3, P3, f1, gx _ _ f2 codeO_ne⟩
/-- a lambda is made within a lambda, whose code object stands at c0 with its table at P0 -/
theorem lam_make3 {T : List (Addr × Str)} {cB PB c0 P0 : Addr} {q0 : Str} {params : Arguments} {body : Expr} {scope : Scope} {pos : Pos} {E : Value → Shared → Prop} {Q : Value → Shared → Prop} (I : Inv X pins σ H s) (TB : TabB X.base X.mg cB PB) (hcode : X.env.code = .ref c0)
    (hc0 : H c0 = some (CodeO c0 (q0, P0))) (hp0 : TabP T H P0 (X.env.qual ++ "<lambda>")) (hq : ∀ p, T.head? = some p → nq p.2 = X.env.qual ++ "<lambda>") (hT : Tabs T H) (hdef : defaultsOf params X.env = ([], [])) (hfree : ∀ y ∈ scope.names, y.2 = .free → ∃ c, X.env.cells.lookup y.1 = some c)
    (h : ∀ (f c' P' : Addr) (pm ctv : Value) (H1 : Hp) (s' : Shared), Inv X pins σ H1 s' → ExtN H H1 → Tabs T H1 →
      s'.heap.get? f = some (PySem.W.kla_obj "<lambda>" (X.env.qual ++ "<lambda>") params body scope (cloFrom X.env.cells scope.names []) pm c' ctv) → H1 f = none → f ∉ frs X.stack → H1 c' = some (CodeO c' (X.env.qual ++ "<lambda>", P')) → Q (.ref f) s') :
    wpAny (model X.prog X.w) X.A (eval (.Lambda params body scope pos) X.env) Q E s := by
  obtain ⟨ps, hP, ht, ha⟩ := id hp0.2
  refine PySem.W.kla_eval hdef ?_
  obtain ⟨⟨_, hhd0⟩, _, _⟩ := I.hok c0 _ hc0
  have off : ∀ b o, X.base.get? b = some o → b ≠ P0 := fun b o e z => by
    have := (I.env0.bs b o e).2
    rw [z, hP] at this
    cases this
  have bP : s.heap.BuiltinsAt X.mg P0 := by
    obtain ⟨bm, ob, z1, z2, z3, z4, z5, z6⟩ := TB.bm
    exact ⟨bm, ob, z1, z2, z3, off _ _ z5, I.bk _ _ z5, z6⟩
  have gP : mainGlobals ≠ P0 := by
    obtain ⟨o, es, ep, e, _⟩ := I.mod.glob
    exact off _ _ e
  have hP' : s.heap.get? P0 = some { cls := .none, data := .fields ps } := I.hok P0 _ hP
  have nofr : ∀ f, s.heap.objs.size ≤ f → f ∉ frs X.stack := fun f hf z => by
    rcases List.mem_cons.mp (I.stkSub _ z) with e | e
    · have h1 := I.lt
      rw [← e] at h1
      exact Nat.lt_irrefl _ (Nat.lt_of_lt_of_le h1 hf)
    · exact I.nofs hf e
  cases hc : codeAmong pos ps.toList with
  | none =>
    refine kla_makeFunctionN (mg := X.mg) (c := c0) (P := P0) (ps := ps) (closure_ok hfree) I.ok.glob (I.mod.glob.keeps I.bk) hcode hhd0 hP' ht hc gP bP fun c' P1 ctv h' tk hx hge hlt hrec htb h1s hP1 hhd => ?_
    obtain ⟨c2, oc, vs, t, e2, hoc, hd, hv⟩ := hrec
    cases e2
    have hsz : s.heap.objs.size ≤ h'.objs.size := Nat.le_trans hge (Nat.le_of_lt hlt)
    have nC : H c' = none := I.hok.fresh hge
    have n1 : H P1 = none := I.hok.fresh h1s
    have hc1 : c' ≠ P1 := by
      obtain ⟨_, _, _, _, _, _, _, _, _, _, _, _, _, _, _, _, _, _, ne⟩ := hhd
      exact ne
    have I1 := inv_table (q := X.env.qual ++ "<lambda>") (t' := tk) (more := #[rawInt pos.line, rawInt pos.col, .ref c']) (h' := h'.push (PySem.W.kla_obj "<lambda>" (X.env.qual ++ "<lambda>") params body scope (cloFrom X.env.cells scope.names []) ((X.mg "__name__").getD .none) c' ctv)) I hP
      (fun b o hb e => Heap.get?_push_of_some _ (hx b o hb e)) (Heap.get?_push_of_some _ htb) hge h1s hc1 (Heap.get?_push_of_some _ hP1) ⟨⟨oc, vs, t, Heap.get?_push_of_some _ hoc, hd, hv⟩, hhd.keeps fun b o e => Heap.get?_push_of_some _ e⟩
    obtain ⟨gT, _⟩ := hT.growN (pos := pos) hq hp0 hP ht nC n1 hc1
    have hE : ExtN H (upd (upd (upd H P0 (.tbl (ps ++ #[rawInt pos.line, rawInt pos.col, .ref c']))) c' (CodeO c' (X.env.qual ++ "<lambda>", P1))) P1 (.tbl #[])) := fun b o e n => by
      rw [upd_ne (ne_of_none e n1), upd_ne (ne_of_none e nC), upd_ne (fun z => n ps (Option.some.inj (e.symm.trans (by rw [z]; exact hP))))]
      exact e
    refine h h'.objs.size c' P1 ((X.mg "__name__").getD .none) ctv _ _ I1 hE gT (Heap.get?_push_size _ rfl) ?_ (nofr _ hsz) (by rw [upd_ne hc1, upd_same])
    have m1 : h'.objs.size ≠ c' := Nat.ne_of_gt hlt
    have m2 : h'.objs.size ≠ P0 := Nat.ne_of_gt (Nat.lt_of_lt_of_le (Heap.lt_size hP') hsz)
    have m3 : h'.objs.size ≠ P1 := Nat.ne_of_gt (Heap.lt_size hP1)
    rw [upd_ne m3, upd_ne m1, upd_ne m2]
    exact I.hok.fresh hsz
  | some cv =>
    obtain ⟨c', P', e, hco⟩ := ha pos cv hc
    subst e
    refine PySem.W.kla_makeFunctionHit (mg := X.mg) (c := c0) (P := P0) (ps := ps) (closure_ok hfree) I.ok.glob (I.mod.glob.keeps I.bk) hcode hhd0 hP' ht hc bP fun ctv h' tk hx hsz => ?_
    have I1 : Inv X pins σ H { s with heap := h'.push (PySem.W.kla_obj "<lambda>" (X.env.qual ++ "<lambda>") params body scope (cloFrom X.env.cells scope.names []) ((X.mg "__name__").getD .none) c' ctv), toks := tk } := I.kept fun b o e => Heap.get?_push_of_some _ (hx b o e)
    exact h h'.objs.size c' P' ((X.mg "__name__").getD .none) ctv H _ I1 (ExtN.refl H) hT (Heap.get?_push_size _ rfl) (I.hok.fresh hsz) (nofr _ hsz) hco
variable {HZ : Hp} {s1 : Shared}
/-- x(), in the def that got the lambda -/
theorem pe_act {CXg : CXT} {Eg : XK} {Ng : List Str} {qg : Str} {sg : Scope} {g f c' P' : Addr} {cdg pm ctv : Value} {params : Arguments} {body : Expr} {scope : Scope} {k i : Nat} {a : Str} {pn : List (Addr × Obj)} {xe : Value → Shared → Prop} {W : WX} {E : XK} {tb : TE} {p1 p2 : Pos}
    (I : Inv X pins σ H s) (L : LamS X.env.scope scope) (hf : s.heap.get? f = some (PySem.W.kla_obj "<lambda>" (X.env.qual ++ "<lambda>") params body scope (cloFrom X.env.cells scope.names []) pm c' ctv)) (hfn : H f = none) (hfr : f ∉ frs X.stack)
    (hbind : bindArgs (PySem.W.kla_fn "<lambda>" (X.env.qual ++ "<lambda>") params body scope (cloFrom X.env.cells scope.names []) pm (.ref c') ctv) ⟨[], []⟩ = pure [])
    (tk : Takes ((cxOf CXg X.prog X.w X.K X.mg X.base Ng qg sg g cdg X.A X.stack s H Eg).tr pn xe) W) (hW : ∀ cls d σ' H', E cls d H' → W cls d σ' H') (hr : Room (k + 1) (X.A.deeper (envOfC qg sg s.heap.objs.size g cdg)))
    (hbody : ∀ (A : Around) (outer : List Env) (s : Shared) (H : Hp), Room k (A.deeper (lamEnv X scope s.heap.objs.size f c')) → A.guards = X.A.guards → PE (lamCx X A outer s H E scope f c') body tb)
    (hN : Ng[i]? = some a) (hv : Vis sg a) (hd : (a == ("__debug__" : Str)) = false := by decide) (hcd : (a == ("__classdict__" : Str)) = false := by decide) :
    PE ((cxOf CXg X.prog X.w X.K X.mg X.base Ng qg sg g cdg X.A X.stack s H Eg).tr pn xe) (.Call (.Name a p1) [] [] p2)
      (fun σZ HZ Q => σZ[i]? = some (some (.ref f)) ∧ HZ c' = some (CodeO c' (X.env.qual ++ "<lambda>", P')) ∧ tb σ HZ Q) := by
  refine ⟨fun pinsZ sZ σZ HZ Q IZ ⟨hs, hc, ht⟩ => ?_⟩
  refine wpAny_Call_Name_kw (thn ((pe_var (pos := p1) (i := i) hN hv hd hcd).run pinsZ sZ σZ HZ (fun v H1 => v = .ref f ∧ H1 = HZ) IZ ⟨.ref f, hs, rfl, rfl⟩) fun u s1 ⟨v, H1, I1, r1, ev, eH⟩ => ?_)
  subst ev
  rw [eH] at I1
  cases (show u = Value.ref f from r1)
  have of1 := I1.base.keep f _ hf hfn hfr (fun z => nomatch (show f ∈ ([] : List Addr) from z))
  refine PySem.W.callWith_F0 ⟨_, _, _, _, of1⟩ ?_
  obtain ⟨⟨⟨oc, vs, t, hoc, hdc, hvc⟩, _⟩, _, _⟩ := I1.hok c' _ hc
  have rc : codeAny (model X.prog X.w) (X.A.deeper (envOfC qg sg s.heap.objs.size g cdg)) (.call (.ref f) ⟨[], []⟩) (CR (L2.CX X.prog X.w) (envOfC qg sg s.heap.objs.size g cdg :: X.stack) X.prog X.w HZ s1 Q E) s1 := by
    refine PySem.W.kla_callFunE hr.depth of1 rfl L.co L.gen rfl ⟨c', oc, vs, t, rfl, hoc, hdc, hvc⟩ ?_
    rw [hbind]
    refine wpAny_pure (wpAny_newFunctionEnv (fun y hy => (L.own y hy).2) (fun y hy => absurd hy (by simp)) (fun h₁ hns hsb => ⟨I1.nolimit.fresh _ hsb, ?_⟩) L.kind)
    show codeAny _ _ (.expr body (lamEnv X scope s1.heap.objs.size f c')) _ _
    have kp : ∀ b o, s1.heap.get? b = some o → h₁.get? b = some o := fun b o e => hsb.extBut b o (Nat.ne_of_lt (Heap.lt_size e)) (Heap.get?_push_of_some _ e)
    have J := lam_start2 (E := E) (f := f) (c' := c') (tk := s1.toks + ([] : List (Str × Value)).length) I L I1.env0 hr.hd I1.base hns kp
    refine PySem.W.kla_codeExpr (wpAny_mono ((hbody _ _ s1 HZ (hr.deeper _) rfl).run [] _ _ HZ Q J ht) (fun v s' hq => ?_) fun e s' hq => hq)
    obtain ⟨w', H', J', rv, q⟩ := hq
    exact ⟨w', H', J'.os, J'.bare, J'.base, J'.hok, rv, q⟩
  have hx : Passes (L2.CX X.prog X.w) ((cxOf CXg X.prog X.w X.K X.mg X.base Ng qg sg g cdg X.A X.stack s H Eg).tr pn xe) E := passes_call tk hW
  refine wpAny_call (codeAny_mono rc fun r s' hq => ?_)
  cases r with
  | error e => exact hx pinsZ σZ HZ s1 e s' I1 hq
  | ok fl =>
    cases fl with
    | ret u => exact I1.after hq
    | next => exact False.elim hq
    | brk => exact False.elim hq
    | cont => exact False.elim hq
/-- the def that calls what it got: a calls it; TT: what it makes of the lambda's reading -/
def GivesTo (X : Cx) (Ng : List Str) (x : Str) (sg : Scope) (g : Addr) (cdg : Value) (bg : List Stmt) (a : Str) (q : QN) (TT : (XK → Hp → VK → Prop) → Hp → VK → Prop) : Prop :=
  ∀ (f c' : Addr) (s : Shared) (H : Hp) (Q : VK) (tl : XK → Hp → VK → Prop),
    (∀ (W : WX) (pn : List (Addr × Obj)) (xe : Value → Shared → Prop) (E : XK) (p1 p2 : Pos), Takes ((cxOf C8.CX0 X.prog X.w X.K X.mg X.base Ng x sg g cdg X.A X.stack s H C8.E0).tr pn xe) W → (∀ cls d σ' H', E cls d H' → W cls d σ' H') →
      PE ((cxOf C8.CX0 X.prog X.w X.K X.mg X.base Ng x sg g cdg X.A X.stack s H C8.E0).tr pn xe) (.Call (.Name a p1) [] [] p2) (fun σZ HZ Q => σZ[0]? = some (some (.ref f)) ∧ HZ c' = some (CodeO c' q) ∧ tl E HZ Q)) →
    H c' = some (CodeO c' q) → TT tl H Q →
    ∃ t, PSs (cxOf C8.CX0 X.prog X.w X.K X.mg X.base Ng x sg g cdg X.A X.stack s H C8.E0).nox bg t ∧ t { nx := fun _ H' => Q .non H', rt := Q } (L2.start Ng [.ref f]) H
/-- what x(lambda: body) asks: q the lambda's name, P the maker's table; t is told where the code object stands -/
def tLam (T : List (Addr × Str)) (P : Addr) (q : Str) (TT : (XK → Hp → VK → Prop) → Hp → VK → Prop) (t : Addr → XK → TE) : TE := fun σ H Q => Tabs T H ∧ ∀ c' P' H1, ExtN H H1 → Tabs T H1 → H1 c' = some (CodeO c' (q, P')) → (T.head? = some (P, q) → TabP T H1 P' (nq q)) → TT (fun E H' Q' => t c' E σ H' Q') H1 Q
theorem pe_lamcall {T : List (Addr × Str)} {TT : (XK → Hp → VK → Prop) → Hp → VK → Prop} {x a : Str} {g c P : Addr} {k : Nat} {pg : Arguments} {bg : List Stmt} {sg : Scope} {dV kV doc pm cdv ct oc : Value} {an od : Option Addr} {osl : Array (Option Value)} {Ng : List Str}
    {params : Arguments} {body : Expr} {scope : Scope} {t : Addr → XK → TE} {p lpos pos : Pos} (hg : Gl X x) (hm : X.mg x = some (.ref g)) (hk : PySem.W.keepIn X.K (.ref g) = true)
    (lk : X.K.lookup g = some ⟨oc, od, .func (PySem.W.fnOf x x pg bg sg dV kV doc pm an cdv ct), osl⟩) (hcg : PySem.W.codeIn X.K cdv x = true) (hb : L2.Binds X.K (PySem.W.fnOf x x pg bg sg dV kV doc pm an cdv ct) [a] []) (Sg : FnScope Ng [a] sg) (hNg : Ng[0]? = some a) (hva : Vis sg a)
    (hG : ∀ q : QN, GivesTo X Ng x sg g cdv bg a q TT)
    (TB : TabB X.base X.mg c P) (hcode : X.env.code = .ref c) (hmT : (P, X.env.qual ++ "<lambda>") ∈ T) (hu : ∀ p ∈ T, p.1 = P → p.2 = X.env.qual ++ "<lambda>") (hr : Room (k + 2) X.A) (L : LamS X.env.scope scope) (hdef : defaultsOf params X.env = ([], []))
    (hbind : ∀ (q : Str) (cl : List (Str × Addr)) (pm cv ctv : Value), bindArgs (PySem.W.kla_fn "<lambda>" q params body scope cl pm cv ctv) ⟨[], []⟩ = pure [])
    (hbody : ∀ (A : Around) (outer : List Env) (s : Shared) (H : Hp) (E : XK) (f c' : Addr), Room k (A.deeper (lamEnv X scope s.heap.objs.size f c')) → A.guards = X.A.guards → PE (lamCx X A outer s H E scope f c') body (t c' E))
    (hdb : (x == ("__debug__" : Str)) = false := by decide) (hd : (a == ("__debug__" : Str)) = false := by decide) (hcd : (a == ("__classdict__" : Str)) = false := by decide) :
    PE X (.Call (.Name x p) [.Lambda params body scope lpos] [] pos) (tLam T P (X.env.qual ++ "<lambda>") TT t) := by
  refine ⟨fun pins s σ H Q I ⟨hT, h⟩ => ?_⟩
  refine wpAny_Call_Name_kw (ld_glob I hg hm ?_ hdb)
  refine PySem.W.callWith_K (h₀ := X.base) I.ok.mod.kin hk ?_ (by rfl) (by rfl)
  show wpAny _ _ (spliced ((false, eval (.Lambda params body scope lpos) X.env) :: backTo pos (starEach [] X.env))) _ _ s
  refine Calls.spliced_cons (lam_make2 I TB hcode hmT hu hT hdef (L.has I.ok) fun f c' P' pm' ctv H1 s' I1 eN T1 hf hfn hfr hco hpp => ?_)
  refine Calls.spliced_nil ⟨I1.kIn, ?_⟩
  have rc : codeAny (model X.prog X.w) X.A (.call (.ref g) ⟨[.ref f], []⟩) (CR C8.CX0 X.stack X.prog X.w H1 s' Q C8.E0) s' := by
    refine run_ofS (N := Ng) (ps := [a]) (us := [.ref f]) (vs := [.ref f]) lk hcg Sg hr I1.env0 (hb s' [.ref f] I1.kIn rfl) (.cons rfl .nil) rfl fun hr' => ?_
    obtain ⟨t', ht', hq'⟩ := hG (X.env.qual ++ "<lambda>", P') f c' s' H1 Q (fun E H' Q' => t c' E σ H' Q') (fun W pn xe E p1 p2 tk hW => pe_act (i := 0) I1 L hf hfn hfr (hbind _ _ _ _ _) tk hW hr' (fun A outer s H hr2 gq => hbody A outer s H E f c' hr2 gq) hNg hva hd hcd) hco (h c' P' H1 eN T1 hco hpp)
    exact ⟨t', ht'.nox, hq'⟩
  refine wpAny_call (codeAny_mono rc fun r s2 hq => ?_)
  cases r with
  | error e => exact (show False from hq).elim
  | ok fl =>
    cases fl with
    | ret u => exact I1.after hq
    | next => exact False.elim hq
    | brk => exact False.elim hq
    | cont => exact False.elim hq
end
end Gu
namespace Gu
open PySem PySem.Spec PyProof.Rows L2 LamX
/-! ### heaps with tables -/
/-- all but tables stands -/
def SameN (H G : Hp) : Prop := ∀ c o, H c = some o → (∀ ps, o ≠ .tbl ps) → G c = some o
theorem SameN.refl (H : Hp) : SameN H H := fun _ _ e _ => e
theorem SameN.trans {H G J : Hp} (a : SameN H G) (b : SameN G J) : SameN H J := fun c o e n => b c o (a c o e n) n
theorem Same.n {H G : Hp} (a : Same H G) : SameN H G := fun c o e _ => a c o e
theorem SameN.lst {H G : Hp} (s : SameN H G) {a : Addr} {xs : List V} (h : H a = some (.lst xs)) : G a = some (.lst xs) := s _ _ h fun _ z => by cases z
theorem SameN.tup {H G : Hp} (s : SameN H G) {a : Addr} {xs : List V} (h : H a = some (.tup xs)) : G a = some (.tup xs) := s _ _ h fun _ z => by cases z
theorem SameN.xd {H G : Hp} (s : SameN H G) {a : Addr} {xs : List (Str × V)} (h : H a = some (.xd xs)) : G a = some (.xd xs) := s _ _ h fun _ z => by cases z
theorem SameN.ins {H G : Hp} (s : SameN H G) {a C dx : Addr} {fs : List (Str × V)} (h : H a = some (.ins C dx fs)) : G a = some (.ins C dx fs) := s _ _ h fun _ z => by cases z
theorem SameN.sys {H G : Hp} (s : SameN H G) (h : Sys H) : Sys G := by
  obtain ⟨o, u, e⟩ := h
  exact ⟨o, u, s _ _ e fun _ z => by cases z⟩
theorem SameN.sqT {K : PySem.W.Frag} {H G : Hp} {a : Addr} {xs : List V} (s : SameN H G) (h : SqT K H a xs) : SqT K G a xs := by
  rcases h with (h | ⟨o, h⟩) | h
  · exact .inl (.inl (s.tup h))
  · exact .inl (.inr ⟨o, s _ _ h fun _ z => by cases z⟩)
  · exact .inr h
theorem SameN.sqL {K : PySem.W.Frag} {H G : Hp} {a : Addr} {xs : List V} (s : SameN H G) (h : SqL K H a xs) : SqL K G a xs := by
  rcases h with (h | ⟨o, h⟩) | h
  · exact .inl (.inl (s.lst h))
  · exact .inl (.inr ⟨o, s _ _ h fun _ z => by cases z⟩)
  · exact .inr h
mutual
theorem DpE.sameN {K : PySem.W.Frag} {H G : Hp} (s : SameN H G) : ∀ {v : V} {d : PyData}, DpE K H v d → DpE K G v d
  | _, _, .non => .non
  | _, _, .bl b => .bl b
  | _, _, .int i => .int i
  | _, _, .str x => .str x
  | _, _, .lst h a => .lst (s.lst h) (DpEs.sameN s a)
  | _, _, .tup h a => .tup (s.sqT h) (DpEs.sameN s a)
  | _, _, .dict h => .dict (s _ _ h fun _ z => by cases z)
theorem DpEs.sameN {K : PySem.W.Frag} {H G : Hp} (s : SameN H G) : ∀ {vs : List V} {ds : List PyData}, DpEs K H vs ds → DpEs K G vs ds
  | _, _, .nil => .nil
  | _, _, .cons a b => .cons (DpE.sameN s a) (DpEs.sameN s b)
end
/-- from H to G the pot at p may have changed and tables may have grown, the rest stands -/
structure LadT (T : List (Addr × Str)) (p : Addr) (H G : Hp) : Prop where
  pot : Pot G p
  keep : ∀ c o, H c = some o → c ≠ p → (∀ ps, o ≠ .tbl ps) → G c = some o
  tabs : Tabs T G
  sys : Sys G
/-! ### defs that make lambdas -/
structure AtC (K : PySem.W.Frag) (mg : Str → Option Value) (x : Str) (st : Stmt) (ps : List Str) (c : Addr) : Prop where
  ex : ∃ (f : Addr) (fd : FuncData), Fun K x x st f fd ∧ Binds K fd ps [] ∧ mg x = some (.ref f) ∧ fd.code = .ref c
section
variable {P : Program} {w : World} {K : PySem.W.Frag} {mg : Str → Option Value} {base : Heap}
theorem okGT {x qual : Str} {st : Stmt} {f c : Addr} {fd : FuncData} {N ps : List Str} {k : Nat} {sp : Sp} (F : Fun K x qual st f fd) (hc : fd.code = .ref c) (S : FnScope N ps (defScope st)) (len : ∀ vs H Q E, sp vs H Q E → vs.length = ps.length)
    (body : ∀ (A : Around) (outer : List Env) (s : Shared) (H : Hp) (vs : List V) (Q : VK) (E : XK), Room k (A.deeper (envOfC qual (defScope st) s.heap.objs.size f (.ref c))) → A.guards = some [] → sp vs H Q E →
      ∃ t, PSs (cxOf CX0 P w K mg base N qual (defScope st) f (.ref c) A outer s H E).nox (defBody st) t ∧ t { nx := fun _ G => Q .non G, rt := Q } (start N vs) H) : FnG P w K mg base (k + 1) f fd ps sp := by
  obtain ⟨oc, od, kV, doc, pm, an, cdv, ct, osl, rfl, lk, hcd⟩ := F.ex
  obtain rfl : cdv = .ref c := hc
  refine ⟨len, fun A outer s H args us vs Q E room quiet env binds rel want => ?_⟩
  have stays : ∀ b o, base.get? b = some o → s.heap.get? b = some o := fun b o e => (env.bs b o e).1
  have inK : K.In s.heap := env.mod.kin.keeps stays
  have free : s.heap.NoLimit := env.mod.nolimit.keeps stays
  refine codeAny_call_function room.depth (inK _ _ lk) rfl S.co S.gen rfl (PySem.W.codeRec_of inK hcd) (binds _ _ _ _ ?_)
  refine wpAny_newFunctionEnv_cells S.kind (fun ⟨n, v⟩ hy => (S.par n (List.of_mem_zip hy).1).imp id fun q => ⟨q, PySem.W.cellsFrom_some _ _ _ (.inl q)⟩) fun env1 e1 s1 c1 => ?_
  subst e1
  refine ⟨free.keeps c1.toInCall.keep, codeAny_func ?_⟩
  obtain ⟨t, d, q⟩ := body A outer s H vs Q E (room.deeper _) quiet want
  refine wpAny_mono (d.nox.run [] s1 (start N vs) H _ (inv_start S room.hd env (len _ _ _ _ want) rel c1) q) (fun fl s2 h2 => ?_) fun e s2 h2 => h2
  cases fl with
  | ret u =>
    obtain ⟨v, σ2, G, J, rv, r⟩ := h2
    exact ⟨v, G, J.os, J.bare, J.base, J.hok, rv, r⟩
  | next =>
    obtain ⟨σ2, G, J, r⟩ := h2
    exact ⟨V.non, G, J.os, J.bare, J.base, J.hok, rfl, r⟩
  | brk => exact (h2.choose_spec.choose_spec.2 : False).elim
  | cont => exact (h2.choose_spec.choose_spec.2 : False).elim
theorem AtC.calG {x : Str} {st : Stmt} {N ps : List Str} {k : Nat} {sp : Sp} {c : Addr} (D : AtC K mg x st ps c) (S : FnScope N ps (defScope st)) (len : ∀ vs H Q E, sp vs H Q E → vs.length = ps.length)
    (body : ∀ (f : Addr) (A : Around) (outer : List Env) (s : Shared) (H : Hp) (vs : List V) (Q : VK) (E : XK), Room k (A.deeper (envOfC x (defScope st) s.heap.objs.size f (.ref c))) → A.guards = some [] → sp vs H Q E →
      ∃ t, PSs (cxOf CX0 P w K mg base N x (defScope st) f (.ref c) A outer s H E).nox (defBody st) t ∧ t { nx := fun _ G => Q .non G, rt := Q } (start N vs) H) : CalG P w K mg base (k + 1) x ps sp := by
  obtain ⟨f, fd, F, b, g, hc⟩ := D.ex
  exact ⟨f, fd, okGT F hc S len (body f), g, F.kp, b⟩
/-! ### defs that may raise -/
structure CalX (P : Program) (w : World) (K : PySem.W.Frag) (mg : Str → Option Value) (base : Heap) (k : Nat) (x : Str) (ps : List Str) (sp : Sp) : Prop where
  ex : ∃ (f : Addr) (fd : FuncData), FnOk P w K mg base (L2.CX P w) k f fd ps sp ∧ mg x = some (.ref f) ∧ PySem.W.keepIn K (.ref f) = true ∧ Binds K fd ps [] ∧ ∃ oc od sl, K.lookup f = some ⟨oc, od, .func fd, sl⟩
theorem At.calX {x : Str} {st : Stmt} {N ps : List Str} {k : Nat} {sp : Sp} (D : At K mg x st ps) (S : FnScope N ps (defScope st)) (len : ∀ vs H Q E, sp vs H Q E → vs.length = ps.length)
    (body : ∀ (f : Addr) (cdv : Value) (A : Around) (outer : List Env) (s : Shared) (H : Hp) (vs : List V) (Q : VK) (E : XK), Room k (A.deeper (envOfC x (defScope st) s.heap.objs.size f cdv)) → sp vs H Q E →
      ∃ t, PSs (cxOf (L2.CX P w) P w K mg base N x (defScope st) f cdv A outer s H E) (defBody st) t ∧ t { nx := fun _ G => Q .non G, rt := Q } (start N vs) H) : CalX P w K mg base (k + 1) x ps sp := by
  obtain ⟨f, fd, F, b, g⟩ := D.ex
  obtain ⟨oc, od, kV, doc, pm, an, cdv, ct, osl, e, lk, hcd⟩ := F.ex
  exact ⟨f, fd, F.okX S len (body f), g, F.kp, b, oc, od, osl, lk⟩
structure MakX (P : Program) (w : World) (K : PySem.W.Frag) (mg : Str → Option Value) (base : Heap) (k : Nat) (x : Str) (C : Addr) (sp : Sp) : Prop where
  ex : ∃ (f : Addr) (fd : FuncData) (ps : List Str), Mk K C f ∧ FnOk P w K mg base (L2.CX P w) k f fd ps sp ∧ mg x = some (.ref C) ∧ Binds K fd ps []
end
section
variable {X : Cx} {k j : Nat} {x : Str} {ps : List Str} {sp : Sp} {p pos : Pos} {e : Expr} {es : List Expr} {t : TA} {E : XK} {W : WX} {C : Addr}
theorem pe_ownX (c : CalX X.prog X.w X.K X.mg X.base k x ps sp) (hr : Room j X.A) (hk : k ≤ j) (tk : Takes X W) (hW : ∀ cls d σ H, E cls d H → W cls d σ H) (hg : Gl X x) (ha : PA X (e :: es) t)
    (hdb : (x == ("__debug__" : Str)) = false := by decide) (he : starEach (e :: es) X.env = (false, eval e X.env) :: starEach es X.env := by rfl) (hpl : (backTo pos (starEach es X.env)).any (·.1) = false := by rfl) :
    PE X (.Call (.Name x p) (e :: es) [] pos) (tCall sp [] E t) := by
  obtain ⟨f, fd, F, hm, kp, b, _⟩ := c.ex
  exact pe_call F (hr.mono hk) hg hm kp b .nil (passes_call tk hW) ha hdb he hpl
theorem pe_newX (c : MakX X.prog X.w X.K X.mg X.base k x C sp) (hr : Room j X.A) (hk : k + 1 ≤ j) (tk : Takes X W) (hW : ∀ cls d σ H, E cls d H → W cls d σ H) (hg : Gl X x) (ha : PA X (e :: es) t)
    (hdb : (x == ("__debug__" : Str)) = false := by decide) (he : starEach (e :: es) X.env = (false, eval e X.env) :: starEach es X.env := by rfl) (hpl : (backTo pos (starEach es X.env)).any (·.1) = false := by rfl) :
    PE X (.Call (.Name x p) (e :: es) [] pos) (tMake C sp [] E t) := by
  obtain ⟨f, fd, ps, M, F, hm, b⟩ := c.ex
  exact pe_make M F (hr.mono hk) hg hm b .nil (passes_call tk hW) ha hdb he hpl
end
/-! ### x(lambda: body) -/
section
variable {X : Cx}
theorem pe_lamE {T : List (Addr × Str)} {TT : (XK → Hp → VK → Prop) → Hp → VK → Prop} {x a : Str} {c P : Addr} {k j : Nat} {st : Stmt} {Ng : List Str} {params : Arguments} {body : Expr} {scope : Scope} {t : Addr → XK → TE} {p lpos pos : Pos} (D : At X.K X.mg x st [a]) (S : FnScope Ng [a] (defScope st))
    (hG : ∀ (g : Addr) (cdv : Value) {q : QN}, GivesTo X Ng x (defScope st) g cdv (defBody st) a q TT) (TB : TabB X.base X.mg c P) (hr : Room j X.A) (hk : k + 2 ≤ j) (hg : Gl X x) (hNg : Ng[0]? = some a) (hva : Vis (defScope st) a) (hcode : X.env.code = .ref c) (hmT : (P, X.env.qual ++ "<lambda>") ∈ T) (hu : ∀ p ∈ T, p.1 = P → p.2 = X.env.qual ++ "<lambda>") (L : LamS X.env.scope scope) (hdef : defaultsOf params X.env = ([], []))
    (hbind : ∀ (q : Str) (cl : List (Str × Addr)) (pm cv ctv : Value), bindArgs (PySem.W.kla_fn "<lambda>" q params body scope cl pm cv ctv) ⟨[], []⟩ = pure [])
    (hbody : ∀ (A : Around) (outer : List Env) (s : Shared) (H : Hp) (E : XK) (f c' : Addr), Room k (A.deeper (lamEnv X scope s.heap.objs.size f c')) → A.guards = X.A.guards → PE (lamCx X A outer s H E scope f c') body (t c' E))
    (hdb : (x == ("__debug__" : Str)) = false := by decide) (hd : (a == ("__debug__" : Str)) = false := by decide) (hcd : (a == ("__classdict__" : Str)) = false := by decide) :
    PE X (.Call (.Name x p) [.Lambda params body scope lpos] [] pos) (tLam T P (X.env.qual ++ "<lambda>") TT t) := by
  obtain ⟨g, fd, F, b, hm⟩ := D.ex
  obtain ⟨oc, od, kV, doc, pm, an, cdv, ct, osl, rfl, lk, hcg⟩ := F.ex
  exact pe_lamcall (k := k) hg hm F.kp lk hcg b S hNg hva (fun q => hG g cdv) TB hcode hmT hu (hr.mono hk) L hdef hbind hbody hdb hd hcd
end
end Gu
namespace Gu
open PySem PySem.Spec PyProof.Rows L2
/-! ### all the errors of the program -/
def bLE : BaseE := ⟨"LookupError", "LookupError.__new__", "LookupError.__init__", [.type "LookupError", .type "Exception", .type "BaseException", .type "object"]⟩
def bAE : BaseE := ⟨"ArithmeticError", "ArithmeticError.__new__", "ArithmeticError.__init__", [.type "ArithmeticError", .type "Exception", .type "BaseException", .type "object"]⟩
theorem bLE_ok : bLE.ok := ⟨F.excBase_LookupError, F.store_LookupError, fun D => rfl⟩
theorem bAE_ok : bAE.ok := ⟨F.excBase_ArithmeticError, F.store_ArithmeticError, fun D => rfl⟩
def eNm : Nat → Str
  | 0 => "InvalidNumber" | 1 => "InvalidMark" | 2 => "InvalidText" | 3 => "InvalidLength" | 4 => "InvalidRule" | 5 => "InvalidWidth" | 6 => "InvalidPlace" | 7 => "InvalidLine" | 8 => "NotANamer"
  | 9 => "NotAShelf" | 10 => "InvalidRow" | 11 => "InvalidViews" | 12 => "InvalidTexts" | 13 => "InvalidDeeds" | 14 => "NothingToUndo" | 15 => "Busy" | 16 => "UnknownName" | _ => "TooMany"
def eUp : Nat → Nat := fun i => if i < 14 then 0 else if i < 17 then 1 else 2
def uNm : Nat → Str
  | 0 => "InputError" | 1 => "StateError" | _ => "SizeError"
def uB : Nat → BaseE
  | 0 => bVE | 1 => bLE | _ => bAE
def uPy : Nat → String
  | 0 => "ValueError" | 1 => "LookupError" | _ => "ArithmeticError"
structure ErrAll (K : PySem.W.Frag) (mg : Str → Option Value) (c u : Nat → Addr) : Prop where
  up : ∀ i, i < 3 → UpK K mg (uB i) (uNm i) (u i)
  er : ∀ i, i < 18 → ErrK K mg (uB (eUp i)) (u (eUp i)) (eNm i) (c i)
theorem eUp_lt (i : Nat) : eUp i < 3 := by
  unfold eUp
  split
  · decide
  · split <;> decide
theorem eNm_inj : ∀ i ∈ List.range 18, ∀ j ∈ List.range 18, decide (eNm j = eNm i) = decide (i = j) := by decide +kernel
theorem uNm_ne : ∀ i ∈ List.range 3, ∀ j ∈ List.range 18, uNm i ≠ eNm j := by decide +kernel
theorem uNm_inj : ∀ i ∈ List.range 3, ∀ j ∈ List.range 3, uNm i = uNm j → i = j := by decide +kernel
theorem uB_ty : ∀ i ∈ List.range 3, ∀ j ∈ List.range 3, (uB j).tl.contains (.type (uPy i)) = decide (j = i) := by decide +kernel
theorem uPy_meta : ∀ i ∈ List.range 3, PySem.W.kitMeta (uPy i) = true := by decide +kernel
section
variable {K : PySem.W.Frag} {mg : Str → Option Value} {c u : Nat → Addr} {i j : Nat}
/-- isinstance of an error of class j, asked of class i -/
theorem ErrAll.kit (A : ErrAll K mg c u) (hi : i < 18) (hj : j < 18) : PySem.W.kitOne K (.ref (c j)) (.ref (c i)) = some (decide (i = j)) := by
  have T := A.er j hj
  have S := A.er i hi
  have ne : u (eUp j) ≠ c i := (A.up _ (eUp_lt j)).ne S (uNm_ne _ (List.mem_range.mpr (eUp_lt j)) _ (List.mem_range.mpr hi))
  have e := T.eqv S ne
  rw [eNm_inj i (List.mem_range.mpr hi) j (List.mem_range.mpr hj)] at e
  refine kit_one (kit_ref S.isC S.ty e) fun z => decide_eq_true ?_
  have z := Value.ref.inj z
  have d := eNm_inj i (List.mem_range.mpr hi) j (List.mem_range.mpr hj)
  obtain ⟨q, M, bs, sn, sub, ab, col, dd, k0, k1, k2, k3, k5, a⟩ := T.cls
  obtain ⟨q2, M2, bs2, sn2, sub2, ab2, col2, dd2, j0, j1, j2, j3, j5, b⟩ := S.cls
  exact of_decide_eq_true (by rw [← d, decide_eq_true (name_at a b z)])
/-- .. of a base of the program's own -/
theorem ErrAll.kitUp (A : ErrAll K mg c u) (hi : i < 3) (hj : j < 18) : PySem.W.kitOne K (.ref (c j)) (.ref (u i)) = some (decide (eUp j = i)) := by
  have T := A.er j hj
  have S := A.up i hi
  have ne : u i ≠ c j := S.ne T (uNm_ne _ (List.mem_range.mpr hi) _ (List.mem_range.mpr hj))
  have e : PySem.W.subIn K (.ref (c j)) (.ref (u i)) = some (decide (eUp j = i)) := by
    rw [T.sub, List.contains_cons, List.contains_cons, T.bok.plain, Bool.or_false, show (Value.ref (u i) == Value.ref (c j)) = false from beq_eq_false_iff_ne.mpr fun z => ne (Value.ref.inj z), Bool.false_or]
    by_cases h : eUp j = i
    · rw [h, beq_self_eq_true, decide_eq_true rfl]
    · rw [decide_eq_false h]
      refine congrArg some (beq_eq_false_iff_ne.mpr fun z => h ?_)
      obtain ⟨q, M, bs, sn, sub, ab, col, dd, k0, k1, k2, k3, k5, a⟩ := (A.up _ (eUp_lt j)).cls
      obtain ⟨q2, M2, bs2, sn2, sub2, ab2, col2, dd2, j0, j1, j2, j3, j5, b⟩ := S.cls
      exact (uNm_inj _ (List.mem_range.mpr hi) _ (List.mem_range.mpr (eUp_lt j)) (name_at b a (Value.ref.inj z))).symm
  exact kit_one (kit_ref S.isC S.ty e) fun z => absurd (Value.ref.inj z).symm ne
/-- .. of one of Python's -/
theorem ErrAll.kitPy (A : ErrAll K mg c u) (hi : i < 3) (hj : j < 18) : PySem.W.kitOne K (.ref (c j)) (.type (uPy i)) = some (decide (eUp j = i)) := by
  have T := A.er j hj
  unfold PySem.W.kitOne
  rw [if_neg (by simp)]
  show (if PySem.W.kitMeta (uPy i) = true then PySem.W.subIn K (.ref (c j)) (.type (uPy i)) else none) = _
  rw [if_pos (uPy_meta i (List.mem_range.mpr hi)), T.subT, uB_ty i (List.mem_range.mpr hi) _ (List.mem_range.mpr (eUp_lt j))]
theorem ErrAll.kitY (A : ErrAll K mg c u) (hj : j < 18) : PySem.W.kitOne K (.ref (c j)) (.ref (c j)) = some true := by rw [A.kit hj hj, decide_eq_true rfl]
theorem ErrAll.kitN (A : ErrAll K mg c u) (hi : i < 18) (hj : j < 18) (h : ¬ i = j) : PySem.W.kitOne K (.ref (c j)) (.ref (c i)) = some false := by rw [A.kit hi hj, decide_eq_false h]
theorem ErrAll.kitUpY (A : ErrAll K mg c u) (hj : j < 18) (hi : i < 3) (h : eUp j = i) : PySem.W.kitOne K (.ref (c j)) (.ref (u i)) = some true := by rw [A.kitUp hi hj, decide_eq_true h]
theorem ErrAll.kitUpN (A : ErrAll K mg c u) (hj : j < 18) (hi : i < 3) (h : ¬ eUp j = i) : PySem.W.kitOne K (.ref (c j)) (.ref (u i)) = some false := by rw [A.kitUp hi hj, decide_eq_false h]
theorem ErrAll.kitPyY (A : ErrAll K mg c u) {s : String} (hj : j < 18) (hi : i < 3) (e : uPy i = s) (h : eUp j = i) : PySem.W.kitOne K (.ref (c j)) (.type s) = some true := by rw [← e, A.kitPy hi hj, decide_eq_true h]
theorem ErrAll.kitPyN (A : ErrAll K mg c u) {s : String} (hj : j < 18) (hi : i < 3) (e : uPy i = s) (h : ¬ eUp j = i) : PySem.W.kitOne K (.ref (c j)) (.type s) = some false := by rw [← e, A.kitPy hi hj, decide_eq_false h]
/-- what an except clause with the three bases asks -/
theorem ErrAll.caught (A : ErrAll K mg c u) (hj : j < 18) : PySem.W.exmAny K (.ref (c j)) [.ref (u 0), .ref (u 1), .ref (u 2)] = some true := by
  have T := A.er j hj
  have one : ∀ i, i < 3 → PySem.W.exmOne K (.ref (c j)) (.ref (u i)) = some (decide (eUp j = i)) := fun i hi => by
    have S := A.up i hi
    have ok : (uB i).ok := by
      rcases (show i = 0 ∨ i = 1 ∨ i = 2 by omega) with rfl | rfl | rfl
      · exact bVE_ok
      · exact bLE_ok
      · exact bAE_ok
    unfold PySem.W.exmOne
    rw [S.exC ok, if_pos (by simp)]
    have k := A.kitUp hi hj
    have ne : u i ≠ c j := S.ne T (uNm_ne _ (List.mem_range.mpr hi) _ (List.mem_range.mpr hj))
    unfold PySem.W.kitOne at k
    rw [if_neg (by simpa using fun z => ne z.symm)] at k
    exact k
  simp only [PySem.W.exmAny, one 0 (by decide), one 1 (by decide), one 2 (by decide)]
  have l := eUp_lt j
  rcases (show eUp j = 0 ∨ eUp j = 1 ∨ eUp j = 2 by omega) with h | h | h <;> simp [h]
end
end Gu
namespace Gu
open PySem PySem.Spec PyProof.Rows L2 LamX
/-! ### a def that is handed the error that is being handled -/
structure FnE (P : Program) (w : World) (K : PySem.W.Frag) (mg : Str → Option Value) (base : Heap) (k : Nat) (f : Addr) (fd : FuncData) (ps : List Str) (sp : Addr × Obj → Sp) : Prop where
  len : ∀ e vs H Q E, sp e vs H Q E → vs.length = ps.length
  run : ∀ (e : Addr × Obj) (A : Around) (outer : List Env) (s : Shared) (H : Hp) (args : Args) (us : List Value) (vs : List V) (Q : VK) (E : XK), L2H.RoomH k A → L2H.PinOk outer H s e → Env0 P w K mg base A outer s H → BindsTo s fd args (ps.zip us) → Vals vs us → sp e vs H Q E →
    codeAny (model P w) A (.call (.ref f) args) (CR CX0 outer P w H s Q E) s
section
variable {P : Program} {w : World} {K : PySem.W.Frag} {mg : Str → Option Value} {base : Heap}
/-- where such a def's body stands -/
abbrev cxE (P : Program) (w : World) (K : PySem.W.Frag) (mg : Str → Option Value) (base : Heap) (N : List Str) (qual : Str) (scope : Scope) (f : Addr) (cd : Value) (A : Around) (outer : List Env) (s : Shared) (H : Hp) (E : XK) (e : Addr × Obj) : Cx := L2H.cxH CX0 P w K mg base N qual scope f cd A outer s H E e
theorem okE {x qual : Str} {st : Stmt} {f : Addr} {fd : FuncData} {N ps : List Str} {k : Nat} {sp : Addr × Obj → Sp} (F : Fun K x qual st f fd) (S : FnScope N ps (defScope st)) (len : ∀ e vs H Q E, sp e vs H Q E → vs.length = ps.length)
    (body : ∀ (e : Addr × Obj) (cdv : Value) (A : Around) (outer : List Env) (s : Shared) (H : Hp) (vs : List V) (Q : VK) (E : XK), L2H.RoomH k (A.deeper (envOfC qual (defScope st) s.heap.objs.size f cdv)) → sp e vs H Q E →
      ∃ t, PSs (cxE P w K mg base N qual (defScope st) f cdv A outer s H E e) (defBody st) t ∧ t { nx := fun _ G => Q .non G, rt := Q } (start N vs) H) : FnE P w K mg base (k + 1) f fd ps sp := by
  obtain ⟨oc, od, kV, doc, pm, an, cdv, ct, osl, rfl, lk, hcd⟩ := F.ex
  refine ⟨len, fun e A outer s H args us vs Q E room pin env binds rel want => ?_⟩
  have stays : ∀ b o, base.get? b = some o → s.heap.get? b = some o := fun b o e => (env.bs b o e).1
  have inK : K.In s.heap := env.mod.kin.keeps stays
  have free : s.heap.NoLimit := env.mod.nolimit.keeps stays
  refine codeAny_call_function room.depth (inK _ _ lk) rfl S.co S.gen rfl (PySem.W.codeRec_of inK hcd) (binds _ _ _ _ ?_)
  refine wpAny_newFunctionEnv_cells S.kind (fun ⟨n, v⟩ hy => (S.par n (List.of_mem_zip hy).1).imp id fun q => ⟨q, PySem.W.cellsFrom_some _ _ _ (.inl q)⟩) fun env1 e1 s1 c1 => ?_
  subst e1
  refine ⟨free.keeps c1.toInCall.keep, codeAny_func ?_⟩
  obtain ⟨t, d, q⟩ := body e cdv A outer s H vs Q E (room.deeper _) want
  refine wpAny_mono (d.run [] s1 (start N vs) H _ (L2H.inv_startH S pin env (len _ _ _ _ _ want) rel c1) q) (fun fl s2 h2 => ?_) fun e s2 h2 => h2
  cases fl with
  | ret u =>
    obtain ⟨v, σ2, G, J, rv, r⟩ := h2
    exact ⟨v, G, J.os, J.bare, J.base, J.hok, rv, r⟩
  | next =>
    obtain ⟨σ2, G, J, r⟩ := h2
    exact ⟨V.non, G, J.os, J.bare, J.base, J.hok, rfl, r⟩
  | brk => exact (h2.choose_spec.choose_spec.2 : False).elim
  | cont => exact (h2.choose_spec.choose_spec.2 : False).elim
structure CalE (P : Program) (w : World) (K : PySem.W.Frag) (mg : Str → Option Value) (base : Heap) (k : Nat) (x : Str) (ps : List Str) (sp : Addr × Obj → Sp) : Prop where
  ex : ∃ (f : Addr) (fd : FuncData), FnE P w K mg base k f fd ps sp ∧ mg x = some (.ref f) ∧ PySem.W.keepIn K (.ref f) = true ∧ Binds K fd ps [] ∧ ∃ oc od sl, K.lookup f = some ⟨oc, od, .func fd, sl⟩
theorem At.calE {x : Str} {st : Stmt} {N ps : List Str} {k : Nat} {sp : Addr × Obj → Sp} (D : At K mg x st ps) (S : FnScope N ps (defScope st)) (len : ∀ e vs H Q E, sp e vs H Q E → vs.length = ps.length)
    (body : ∀ (f : Addr) (e : Addr × Obj) (cdv : Value) (A : Around) (outer : List Env) (s : Shared) (H : Hp) (vs : List V) (Q : VK) (E : XK), L2H.RoomH k (A.deeper (envOfC x (defScope st) s.heap.objs.size f cdv)) → sp e vs H Q E →
      ∃ t, PSs (cxE P w K mg base N x (defScope st) f cdv A outer s H E e) (defBody st) t ∧ t { nx := fun _ G => Q .non G, rt := Q } (start N vs) H) : CalE P w K mg base (k + 1) x ps sp := by
  obtain ⟨f, fd, F, b, g⟩ := D.ex
  obtain ⟨oc, od, kV, doc, pm, an, cdv, ct, osl, e, lk, hcd⟩ := F.ex
  exact ⟨f, fd, okE F S len (body f), g, F.kp, b, oc, od, osl, lk⟩
/-- two promises of one def -/
theorem CalE.or {k : Nat} {x : Str} {ps : List Str} {s1 s2 : Addr × Obj → Sp} (c : CalE P w K mg base k x ps s1) (d : CalE P w K mg base k x ps s2) : CalE P w K mg base k x ps fun e vs H Q E => s1 e vs H Q E ∨ s2 e vs H Q E := by
  obtain ⟨f, fd, F, g, kp, b, oc, od, sl, lk⟩ := c.ex
  obtain ⟨f2, fd2, F2, g2, _, _, oc2, od2, sl2, lk2⟩ := d.ex
  rw [g] at g2
  cases g2
  rw [lk] at lk2
  cases lk2
  refine ⟨f, fd, ⟨fun e vs H Q E z => z.elim (F.len e vs H Q E) (F2.len e vs H Q E), fun e A outer s H args us vs Q E r p n bd v z => ?_⟩, g, kp, b, oc, od, sl, lk⟩
  rcases z with z | z
  · exact F.run e A outer s H args us vs Q E r p n bd v z
  · exact F2.run e A outer s H args us vs Q E r p n bd v z
end
def tCallE (a : Addr) (cls : Value) (d : Option Addr) (sp : Addr × Obj → Sp) (t : TA) : TE := fun σ H Q => t σ H fun vs G => ∀ oe : Obj, Zc cls d oe → (∃ vs, oe.data = .fields vs) → sp (a, oe) vs G Q E0
section
variable {X : Cx} {k j : Nat} {x : Str} {ps : List Str} {sp : Addr × Obj → Sp} {p pos : Pos} {a : Expr} {es : List Expr} {t : TA} {b : Addr} {oe : Obj} {cls : Value} {d : Option Addr}
theorem pe_ownE (c : CalE X.prog X.w X.K X.mg X.base k x ps sp) (hr : L2H.RoomH k X.A) (he : (b, oe) ∈ X.pn) (hz : Zc cls d oe) (hf : ∃ vs, oe.data = .fields vs) (hg : Gl X x) (ha : PA X (a :: es) t)
    (hdb : (x == ("__debug__" : Str)) = false := by decide) (hs : starEach (a :: es) X.env = (false, eval a X.env) :: starEach es X.env := by rfl) (hpl : (backTo pos (starEach es X.env)).any (·.1) = false := by rfl) :
    PE X (.Call (.Name x p) (a :: es) [] pos) (tCallE b cls d sp t) := by
  obtain ⟨f, fd, F, hm, kp, bd, _⟩ := c.ex
  refine ⟨fun pins s σ H Q I h => wpAny_Call_Name_kw (ld_glob I hg hm (PySem.W.callWith_K (h₀ := X.base) I.ok.mod.kin kp (thn (ha.run pos pins s σ H _ I h) fun us s1 ⟨vs, G, I1, r, q⟩ => ⟨I1.kIn, ?_⟩) hs hpl) hdb)⟩
  have ll : (us ++ []).length = ps.length := by
    rw [List.append_nil, ← r.length]
    exact F.len _ _ _ _ _ (q oe hz hf)
  have bt := bd s1 us I1.kIn ll
  rw [List.append_nil] at bt
  have P1 := I1.pin (b, oe) (List.mem_append_left _ he)
  have pin : L2H.PinOk X.stack G s1 (b, oe) := ⟨P1.1, P1.2.1, fun hm => (List.mem_cons.mp (I1.stkSub b hm)).elim P1.2.2.1 P1.2.2.2.1, P1.2.2.2.2⟩
  refine wpAny_call (codeAny_mono (F.run (b, oe) X.A X.stack s1 G ⟨us, []⟩ us vs Q E0 hr pin I1.env0 bt r (q oe hz hf)) fun rr s2 h2 => ?_)
  cases rr with
  | error e => exact (h2 : False).elim
  | ok fl =>
    cases fl with
    | ret u => exact I1.after h2
    | next => exact (h2 : False).elim
    | brk => exact (h2 : False).elim
    | cont => exact (h2 : False).elim
end
/-! ### list.count of what is flat -/
def rCntV (K : PySem.W.Frag) : V → List V → Hp → VK → Prop := fun x xs H Q => ∃ (a : Addr) (ys : List V) (y : V), x = .ref a ∧ xs = [y] ∧ SqL K H a ys ∧ flatV y = true ∧ ys.all flatV = true ∧ Q (.int (ys.countP (fun z => eqV z y) : Nat)) H
theorem cnt_vals {y : V} : ∀ {ys : List V} {its : List Value}, Vals ys its → ys.all flatV = true → its.countP (eqU y) = ys.countP fun z => eqV z y
  | [], _, r, _ => by
    cases r
    rfl
  | z :: zs, _, r, f => by
    cases r with
    | cons a r =>
      rw [List.all_cons, Bool.and_eq_true] at f
      rw [List.countP_cons, List.countP_cons, cnt_vals r f.2, eqU_of a f.1]
theorem mt_countV {X : Cx} : MtR X "list.count" (rCntV X.K) := by
  intro pins s σ H x xs v us Q I rx rxs h
  obtain ⟨p, ys, y, rfl, rfl, hs, fy, fys, q⟩ := h
  cases rx
  obtain ⟨u, rfl, ru⟩ := rxs.one
  obtain ⟨its, rv, ⟨⟨cls, dd, data, sl⟩, n, ho, hc, hdn, hd⟩, hlen⟩ := I.list hs
  simp only at hc hd
  subst hc hd
  refine call_meets PySem.F.slot_list_count ⟨_, ho, rfl⟩ PySem.F.entry_list_count (PySem.F.args_list_count_2 _ _) (SeqAt.list_countAt p its.toArray n dd sl u (eqU y)) ⟨ho, fun z hz => mem_eqAt ru fy rv fys z (by simpa using hz), ?_⟩
  have ec : its.toArray.toList.countP (eqU y) = ys.countP fun z => eqV z y := cnt_vals rv fys
  refine ⟨.int (ys.countP (fun z => eqV z y) : Nat), H, I.tok _, ⟨s.toks, ?_⟩, q⟩
  show Value.int ((its.toArray.toList.countP (eqU y) : Nat) : Int) s.toks = Value.int ((ys.countP (fun z => eqV z y) : Nat) : Int) s.toks
  rw [ec]
/-- what is not reached -/
theorem pe_never {X : Cx} {e : Expr} : PE X e (fun _ _ _ => False) := ⟨fun _ _ _ _ _ _ h => h.elim⟩
end Gu
namespace Gu
open PySem PySem.Spec PyProof.Rows L2
theorem iteBF {c : Bool} {a b : Prop} (h : c = false) (k : b) : if c = true then a else b := by
  rw [h, if_neg (by decide)]
  exact k
theorem iteB {c : Bool} {a b : Prop} (h : c = true) (k : a) : if c = true then a else b := by
  rw [if_pos h]
  exact k
theorem xd_same {H G : Hp} {d : Option Addr} (s : Same H G) (h : ∀ d2, d = some d2 → ∃ fs, H d2 = some (.xd fs)) : ∀ d2, d = some d2 → ∃ fs, G d2 = some (.xd fs) := fun d2 e => by
  obtain ⟨fs, q⟩ := h d2 e
  exact ⟨fs, s _ _ q⟩
end Gu
namespace Gu
open PySem PySem.Spec PyProof.Rows L2 LamX
theorem htest_tup3 {X : Cx} {x1 x2 x3 : Str} {c1 c2 c3 : Value} {p1 p2 p3 pos : Pos} {kk : Nat} (h1 : Names X x1 c1) (h2 : Names X x2 c2) (h3 : Names X x3 c3) : HTest X (.Tuple [.Name x1 p1, .Name x2 p2, .Name x3 p3] kk pos) (fun cls => PySem.W.exmAny X.K cls [c1, c2, c3]) := by
  intro a oe cls d pn pins σ H s r Q E I ha hz hm k
  have LT : PySem.W.Looks (model X.prog X.w) s.heap (typeOf (.ref a)) cls := fun A Q E s1 keep q => wpAny_typeOf_ref (keep _ _ ha) (by rw [hz.1]; exact q)
  have name : ∀ {x : Str} {c : Value} {p : Pos} {R : Value → Shared → Prop}, Names X x c → R c s → wpAny (model X.prog X.w) (X.A.mark (some (.ref a))) (eval (.Name x p) X.env) R E s := fun {x c p R} hc go => by
    obtain ⟨hg, hdb, hm | ⟨hm, hv, hn⟩⟩ := hc
    · exact ld_glob (X := X.suite a ((a, oe) :: pn)) I hg hm go hdb
    · exact ld_blt (X := X.suite a ((a, oe) :: pn)) I hg hm hv go hn hdb
  refine wpAny_Tuple ?_
  refine wpAny_items_cons (name h1 ?_)
  refine wpAny_items_cons (name h2 ?_)
  refine wpAny_items_cons (name h3 ?_)
  refine wpAny_items_nil ⟨by show 3 ≤ sizeLine; decide, ?_⟩
  have kp : ∀ q o, s.heap.get? q = some o → (s.heap.push { cls := .type "tuple", data := .seq [c1, c2, c3].toArray }).get? q = some o := fun _ _ z => Heap.get?_push_of_some _ z
  exact (PySem.W.exm_tup3 (I.kIn.keeps kp) (LT.keeps kp) (Heap.get?_push_size s.heap rfl) hm).here (k _ s.toks kp)
theorem roomE {A : Around} {env : Env} {o : Option Value} (hr : Room 2 A) : L2H.RoomH 1 ((A.deeper env).mark o) :=
  have r := L2H.RoomH.deeper (L2H.roomH_of hr) env
  ⟨r.dp, r.un⟩
end Gu
namespace Gu
open PySem PySem.Spec PyProof.Rows L2 LamX
section
variable {P : Program} {w : World} {K : PySem.W.Frag} {mg : Str → Option Value} {base : Heap} {c u : Nat → Addr}
def spRef2 (c : Nat → Addr) : Addr × Obj → Sp := fun e vs H Q _ => ∃ (dd : Addr) (v : V), vs = [.ref e.1] ∧ Zc (.ref (c 2)) (some dd) e.2 ∧ (∃ vs, e.2.data = .fields vs) ∧ H dd = some (.xd [("value", v)]) ∧ ∀ p G, Same H G → G p = some (.tup [.str "text", v]) → Q (.ref p) G
set_option maxHeartbeats 4000000 in
theorem cal_ref2 (B : Bi mg) (A : ErrAll K mg c u) (EF : ErrF K "InvalidText" "value" (c 2)) (D : At K mg "_law_refusal" s_law_refusal ps_law_refusal) : CalE P w K mg base 1 "_law_refusal" ps_law_refusal (spRef2 c) := by
  refine D.calE sc_law_refusal (fun e vs H Q E h => ?_) (fun f e cdv A2 outer s H vs Q E hr h => ?_)
  · obtain ⟨dd, v, rfl, _⟩ := h
    rfl
  · obtain ⟨dd, v, rfl, hz, hf, hd, k⟩ := h
    obtain ⟨d, ed⟩ : ∃ d : Option Addr, d = some dd := ⟨_, rfl⟩
    rw [← ed] at hz
    have hx : ∀ d2, d = some d2 → ∃ fs, H d2 = some (.xd fs) := fun d2 q => ⟨_, by rw [ed] at q; cases q; exact hd⟩
    have sH : Same H H := Same.refl H
    have hx0 := hx
    have hu : A2.units + 3 + 64 < cLine := by have := hr.un; show A2.units + 3 + 64 < _; exact Nat.lt_of_le_of_lt (by omega) (show A2.units + 3 + 16 * 0 + 200 < cLine from this)
    have kn_InvalidNumber : PySem.W.kitOne K (.ref (c 2)) (.ref (c 0)) = some false := A.kitN (i := 0) (j := 2) (by decide) (by decide) (by decide)
    have kn_InvalidMark : PySem.W.kitOne K (.ref (c 2)) (.ref (c 1)) = some false := A.kitN (i := 1) (j := 2) (by decide) (by decide) (by decide)
    have kn_InvalidText : PySem.W.kitOne K (.ref (c 2)) (.ref (c 2)) = some true := A.kitY (j := 2) (by decide)
    have kn_InvalidLength : PySem.W.kitOne K (.ref (c 2)) (.ref (c 3)) = some false := A.kitN (i := 3) (j := 2) (by decide) (by decide) (by decide)
    have kn_InvalidRule : PySem.W.kitOne K (.ref (c 2)) (.ref (c 4)) = some false := A.kitN (i := 4) (j := 2) (by decide) (by decide) (by decide)
    have kn_InvalidWidth : PySem.W.kitOne K (.ref (c 2)) (.ref (c 5)) = some false := A.kitN (i := 5) (j := 2) (by decide) (by decide) (by decide)
    have kn_InvalidPlace : PySem.W.kitOne K (.ref (c 2)) (.ref (c 6)) = some false := A.kitN (i := 6) (j := 2) (by decide) (by decide) (by decide)
    have kn_InvalidLine : PySem.W.kitOne K (.ref (c 2)) (.ref (c 7)) = some false := A.kitN (i := 7) (j := 2) (by decide) (by decide) (by decide)
    have kn_NotANamer : PySem.W.kitOne K (.ref (c 2)) (.ref (c 8)) = some false := A.kitN (i := 8) (j := 2) (by decide) (by decide) (by decide)
    have kn_NotAShelf : PySem.W.kitOne K (.ref (c 2)) (.ref (c 9)) = some false := A.kitN (i := 9) (j := 2) (by decide) (by decide) (by decide)
    have kn_InvalidRow : PySem.W.kitOne K (.ref (c 2)) (.ref (c 10)) = some false := A.kitN (i := 10) (j := 2) (by decide) (by decide) (by decide)
    have kn_InvalidViews : PySem.W.kitOne K (.ref (c 2)) (.ref (c 11)) = some false := A.kitN (i := 11) (j := 2) (by decide) (by decide) (by decide)
    have kn_InvalidTexts : PySem.W.kitOne K (.ref (c 2)) (.ref (c 12)) = some false := A.kitN (i := 12) (j := 2) (by decide) (by decide) (by decide)
    have kn_InvalidDeeds : PySem.W.kitOne K (.ref (c 2)) (.ref (c 13)) = some false := A.kitN (i := 13) (j := 2) (by decide) (by decide) (by decide)
    have kn_NothingToUndo : PySem.W.kitOne K (.ref (c 2)) (.ref (c 14)) = some false := A.kitN (i := 14) (j := 2) (by decide) (by decide) (by decide)
    have kn_Busy : PySem.W.kitOne K (.ref (c 2)) (.ref (c 15)) = some false := A.kitN (i := 15) (j := 2) (by decide) (by decide) (by decide)
    have kn_UnknownName : PySem.W.kitOne K (.ref (c 2)) (.ref (c 16)) = some false := A.kitN (i := 16) (j := 2) (by decide) (by decide) (by decide)
    have kn_TooMany : PySem.W.kitOne K (.ref (c 2)) (.ref (c 17)) = some false := A.kitN (i := 17) (j := 2) (by decide) (by decide) (by decide)
    have kn_InputError : PySem.W.kitOne K (.ref (c 2)) (.ref (u 0)) = some true := A.kitUpY (j := 2) (by decide) (i := 0) (by decide) (by decide)
    have kn_StateError : PySem.W.kitOne K (.ref (c 2)) (.ref (u 1)) = some false := A.kitUpN (j := 2) (by decide) (i := 1) (by decide) (by decide)
    have kn_SizeError : PySem.W.kitOne K (.ref (c 2)) (.ref (u 2)) = some false := A.kitUpN (j := 2) (by decide) (i := 2) (by decide) (by decide)
    have kn_ValueError : PySem.W.kitOne K (.ref (c 2)) (.type "ValueError") = some true := A.kitPyY (j := 2) (by decide) (i := 0) (by decide) rfl (by decide)
    have kn_LookupError : PySem.W.kitOne K (.ref (c 2)) (.type "LookupError") = some false := A.kitPyN (j := 2) (by decide) (i := 1) (by decide) rfl (by decide)
    have kn_ArithmeticError : PySem.W.kitOne K (.ref (c 2)) (.type "ArithmeticError") = some false := A.kitPyN (j := 2) (by decide) (i := 2) (by decide) rfl (by decide)
    refine ⟨_, (C8.pss_cut (ps_set (i := 1) sc_law_refusal.nd rfl (.inl rfl) (pe_lst (pa_cons (pe_callB (id := "isinstance") (r := rIsX K (c 2) e.1 (.ref (c 2)) d) (by exact call_isX (A.er 2 (by decide)) (List.mem_cons_self ..) hz hf) (by rfl) B.isinstance (by decide +kernel) (pa_cons (pv 0) (pa_cons (pe_glob (v := .ref (c 0)) (by rfl) (show mg "InvalidNumber" = some (.ref (c 0)) from (A.er 0 (by decide)).g) rfl) pa_nil))) (pa_cons (pe_callB (id := "isinstance") (r := rIsX K (c 2) e.1 (.ref (c 2)) d) (by exact call_isX (A.er 2 (by decide)) (List.mem_cons_self ..) hz hf) (by rfl) B.isinstance (by decide +kernel) (pa_cons (pv 0) (pa_cons (pe_glob (v := .ref (c 1)) (by rfl) (show mg "InvalidMark" = some (.ref (c 1)) from (A.er 1 (by decide)).g) rfl) pa_nil))) (pa_cons (pe_callB (id := "isinstance") (r := rIsX K (c 2) e.1 (.ref (c 2)) d) (by exact call_isX (A.er 2 (by decide)) (List.mem_cons_self ..) hz hf) (by rfl) B.isinstance (by decide +kernel) (pa_cons (pv 0) (pa_cons (pe_glob (v := .ref (c 2)) (by rfl) (show mg "InvalidText" = some (.ref (c 2)) from (A.er 2 (by decide)).g) rfl) pa_nil))) pa_nil)))))
      (C8.pss_cut (ps_set (i := 1) sc_law_refusal.nd rfl (.inl rfl) (pe_op op_cat (pv 1) (pe_lst (pa_cons (pe_callB (id := "isinstance") (r := rIsX K (c 2) e.1 (.ref (c 2)) d) (by exact call_isX (A.er 2 (by decide)) (List.mem_cons_self ..) hz hf) (by rfl) B.isinstance (by decide +kernel) (pa_cons (pv 0) (pa_cons (pe_glob (v := .ref (c 3)) (by rfl) (show mg "InvalidLength" = some (.ref (c 3)) from (A.er 3 (by decide)).g) rfl) pa_nil))) (pa_cons (pe_callB (id := "isinstance") (r := rIsX K (c 2) e.1 (.ref (c 2)) d) (by exact call_isX (A.er 2 (by decide)) (List.mem_cons_self ..) hz hf) (by rfl) B.isinstance (by decide +kernel) (pa_cons (pv 0) (pa_cons (pe_glob (v := .ref (c 4)) (by rfl) (show mg "InvalidRule" = some (.ref (c 4)) from (A.er 4 (by decide)).g) rfl) pa_nil))) (pa_cons (pe_callB (id := "isinstance") (r := rIsX K (c 2) e.1 (.ref (c 2)) d) (by exact call_isX (A.er 2 (by decide)) (List.mem_cons_self ..) hz hf) (by rfl) B.isinstance (by decide +kernel) (pa_cons (pv 0) (pa_cons (pe_glob (v := .ref (c 5)) (by rfl) (show mg "InvalidWidth" = some (.ref (c 5)) from (A.er 5 (by decide)).g) rfl) pa_nil))) pa_nil))))))
      (C8.pss_cut (ps_set (i := 1) sc_law_refusal.nd rfl (.inl rfl) (pe_op op_cat (pv 1) (pe_lst (pa_cons (pe_callB (id := "isinstance") (r := rIsX K (c 2) e.1 (.ref (c 2)) d) (by exact call_isX (A.er 2 (by decide)) (List.mem_cons_self ..) hz hf) (by rfl) B.isinstance (by decide +kernel) (pa_cons (pv 0) (pa_cons (pe_glob (v := .ref (c 6)) (by rfl) (show mg "InvalidPlace" = some (.ref (c 6)) from (A.er 6 (by decide)).g) rfl) pa_nil))) (pa_cons (pe_callB (id := "isinstance") (r := rIsX K (c 2) e.1 (.ref (c 2)) d) (by exact call_isX (A.er 2 (by decide)) (List.mem_cons_self ..) hz hf) (by rfl) B.isinstance (by decide +kernel) (pa_cons (pv 0) (pa_cons (pe_glob (v := .ref (c 7)) (by rfl) (show mg "InvalidLine" = some (.ref (c 7)) from (A.er 7 (by decide)).g) rfl) pa_nil))) (pa_cons (pe_callB (id := "isinstance") (r := rIsX K (c 2) e.1 (.ref (c 2)) d) (by exact call_isX (A.er 2 (by decide)) (List.mem_cons_self ..) hz hf) (by rfl) B.isinstance (by decide +kernel) (pa_cons (pv 0) (pa_cons (pe_glob (v := .ref (c 8)) (by rfl) (show mg "NotANamer" = some (.ref (c 8)) from (A.er 8 (by decide)).g) rfl) pa_nil))) pa_nil))))))
      (C8.pss_cut (ps_set (i := 1) sc_law_refusal.nd rfl (.inl rfl) (pe_op op_cat (pv 1) (pe_lst (pa_cons (pe_callB (id := "isinstance") (r := rIsX K (c 2) e.1 (.ref (c 2)) d) (by exact call_isX (A.er 2 (by decide)) (List.mem_cons_self ..) hz hf) (by rfl) B.isinstance (by decide +kernel) (pa_cons (pv 0) (pa_cons (pe_glob (v := .ref (c 9)) (by rfl) (show mg "NotAShelf" = some (.ref (c 9)) from (A.er 9 (by decide)).g) rfl) pa_nil))) (pa_cons (pe_callB (id := "isinstance") (r := rIsX K (c 2) e.1 (.ref (c 2)) d) (by exact call_isX (A.er 2 (by decide)) (List.mem_cons_self ..) hz hf) (by rfl) B.isinstance (by decide +kernel) (pa_cons (pv 0) (pa_cons (pe_glob (v := .ref (c 10)) (by rfl) (show mg "InvalidRow" = some (.ref (c 10)) from (A.er 10 (by decide)).g) rfl) pa_nil))) (pa_cons (pe_callB (id := "isinstance") (r := rIsX K (c 2) e.1 (.ref (c 2)) d) (by exact call_isX (A.er 2 (by decide)) (List.mem_cons_self ..) hz hf) (by rfl) B.isinstance (by decide +kernel) (pa_cons (pv 0) (pa_cons (pe_glob (v := .ref (c 11)) (by rfl) (show mg "InvalidViews" = some (.ref (c 11)) from (A.er 11 (by decide)).g) rfl) pa_nil))) pa_nil))))))
      (C8.pss_cut (ps_set (i := 1) sc_law_refusal.nd rfl (.inl rfl) (pe_op op_cat (pv 1) (pe_lst (pa_cons (pe_callB (id := "isinstance") (r := rIsX K (c 2) e.1 (.ref (c 2)) d) (by exact call_isX (A.er 2 (by decide)) (List.mem_cons_self ..) hz hf) (by rfl) B.isinstance (by decide +kernel) (pa_cons (pv 0) (pa_cons (pe_glob (v := .ref (c 12)) (by rfl) (show mg "InvalidTexts" = some (.ref (c 12)) from (A.er 12 (by decide)).g) rfl) pa_nil))) (pa_cons (pe_callB (id := "isinstance") (r := rIsX K (c 2) e.1 (.ref (c 2)) d) (by exact call_isX (A.er 2 (by decide)) (List.mem_cons_self ..) hz hf) (by rfl) B.isinstance (by decide +kernel) (pa_cons (pv 0) (pa_cons (pe_glob (v := .ref (c 13)) (by rfl) (show mg "InvalidDeeds" = some (.ref (c 13)) from (A.er 13 (by decide)).g) rfl) pa_nil))) (pa_cons (pe_callB (id := "isinstance") (r := rIsX K (c 2) e.1 (.ref (c 2)) d) (by exact call_isX (A.er 2 (by decide)) (List.mem_cons_self ..) hz hf) (by rfl) B.isinstance (by decide +kernel) (pa_cons (pv 0) (pa_cons (pe_glob (v := .ref (c 14)) (by rfl) (show mg "NothingToUndo" = some (.ref (c 14)) from (A.er 14 (by decide)).g) rfl) pa_nil))) pa_nil))))))
      (C8.pss_cut (ps_set (i := 1) sc_law_refusal.nd rfl (.inl rfl) (pe_op op_cat (pv 1) (pe_lst (pa_cons (pe_callB (id := "isinstance") (r := rIsX K (c 2) e.1 (.ref (c 2)) d) (by exact call_isX (A.er 2 (by decide)) (List.mem_cons_self ..) hz hf) (by rfl) B.isinstance (by decide +kernel) (pa_cons (pv 0) (pa_cons (pe_glob (v := .ref (c 15)) (by rfl) (show mg "Busy" = some (.ref (c 15)) from (A.er 15 (by decide)).g) rfl) pa_nil))) (pa_cons (pe_callB (id := "isinstance") (r := rIsX K (c 2) e.1 (.ref (c 2)) d) (by exact call_isX (A.er 2 (by decide)) (List.mem_cons_self ..) hz hf) (by rfl) B.isinstance (by decide +kernel) (pa_cons (pv 0) (pa_cons (pe_glob (v := .ref (c 16)) (by rfl) (show mg "UnknownName" = some (.ref (c 16)) from (A.er 16 (by decide)).g) rfl) pa_nil))) (pa_cons (pe_callB (id := "isinstance") (r := rIsX K (c 2) e.1 (.ref (c 2)) d) (by exact call_isX (A.er 2 (by decide)) (List.mem_cons_self ..) hz hf) (by rfl) B.isinstance (by decide +kernel) (pa_cons (pv 0) (pa_cons (pe_glob (v := .ref (c 17)) (by rfl) (show mg "TooMany" = some (.ref (c 17)) from (A.er 17 (by decide)).g) rfl) pa_nil))) pa_nil))))))
      (C8.pss_cut (ps_set (i := 2) sc_law_refusal.nd rfl (.inl rfl) (pe_lst (pa_cons (pe_callB (id := "isinstance") (r := rIsX K (c 2) e.1 (.ref (c 2)) d) (by exact call_isX (A.er 2 (by decide)) (List.mem_cons_self ..) hz hf) (by rfl) B.isinstance (by decide +kernel) (pa_cons (pv 0) (pa_cons (pe_glob (v := .ref (u 0)) (by rfl) (show mg "InputError" = some (.ref (u 0)) from (A.up 0 (by decide)).g) rfl) pa_nil))) (pa_cons (pe_callB (id := "isinstance") (r := rIsX K (c 2) e.1 (.ref (c 2)) d) (by exact call_isX (A.er 2 (by decide)) (List.mem_cons_self ..) hz hf) (by rfl) B.isinstance (by decide +kernel) (pa_cons (pv 0) (pa_cons (pe_glob (v := .ref (u 1)) (by rfl) (show mg "StateError" = some (.ref (u 1)) from (A.up 1 (by decide)).g) rfl) pa_nil))) (pa_cons (pe_callB (id := "isinstance") (r := rIsX K (c 2) e.1 (.ref (c 2)) d) (by exact call_isX (A.er 2 (by decide)) (List.mem_cons_self ..) hz hf) (by rfl) B.isinstance (by decide +kernel) (pa_cons (pv 0) (pa_cons (pe_glob (v := .ref (u 2)) (by rfl) (show mg "SizeError" = some (.ref (u 2)) from (A.up 2 (by decide)).g) rfl) pa_nil))) pa_nil)))))
      (C8.pss_cut (ps_set (i := 3) sc_law_refusal.nd rfl (.inl rfl) (pe_lst (pa_cons (pe_callB (id := "isinstance") (r := rIsX K (c 2) e.1 (.ref (c 2)) d) (by exact call_isX (A.er 2 (by decide)) (List.mem_cons_self ..) hz hf) (by rfl) B.isinstance (by decide +kernel) (pa_cons (pv 0) (pa_cons (pe_bltn (v := .ty "ValueError") (by rfl) B.ValueError (by decide +kernel) rfl) pa_nil))) (pa_cons (pe_callB (id := "isinstance") (r := rIsX K (c 2) e.1 (.ref (c 2)) d) (by exact call_isX (A.er 2 (by decide)) (List.mem_cons_self ..) hz hf) (by rfl) B.isinstance (by decide +kernel) (pa_cons (pv 0) (pa_cons (pe_bltn (v := .ty "LookupError") (by rfl) B.LookupError (by decide +kernel) rfl) pa_nil))) (pa_cons (pe_callB (id := "isinstance") (r := rIsX K (c 2) e.1 (.ref (c 2)) d) (by exact call_isX (A.er 2 (by decide)) (List.mem_cons_self ..) hz hf) (by rfl) B.isinstance (by decide +kernel) (pa_cons (pv 0) (pa_cons (pe_bltn (v := .ty "ArithmeticError") (by rfl) B.ArithmeticError (by decide +kernel) rfl) pa_nil))) pa_nil)))))
      (pss_cons (ps_if (PW.pt (pw_or (pt_cmpR op_ne (pe_bm PySem.F.plainAttrs_list PySem.F.slot_list_count PySem.F.type_list_count mt_countV (pv 1) (pa_cons pe_bl pa_nil)) pe_int (nomark _)) (pw_or1 (pt_cmpR (op_neD hu) (pv 2) (pv 3) (nomark _))))) (pss_one (ps_ret (pe_tup (pa_cons pe_str pa_nil)))) pss_nil)
      (C8.pss_cut (ps_set (i := 4) sc_law_refusal.nd rfl (.inl rfl) (pe_bm PySem.F.plainAttrs_list PySem.F.slot_list_index PySem.F.type_list_index mt_index (pv 1) (pa_cons pe_bl pa_nil)))
      (pss_cons (ps_if (pt_cmpR (op_neD hu) (pv 2) (pe_lst (pa_cons (pe_cmpR op_lt (pv 4) pe_int (nomark _)) (pa_cons (pe_chain op_lt op_lt pe_int (pv 4) pe_int) (pa_cons (pe_cmpR op_eq (pv 4) pe_int (nomark _)) pa_nil)))) (nomark _)) (pss_one (ps_ret (pe_tup (pa_cons pe_str pa_nil)))) pss_nil)
      (C8.pss_cut (ps_set (i := 5) sc_law_refusal.nd rfl (.inl rfl) (pe_lst (pa_cons pe_str (pa_cons pe_str (pa_cons pe_str (pa_cons pe_str (pa_cons pe_str (pa_cons pe_str (pa_cons pe_str (pa_cons pe_str (pa_cons pe_str (pa_cons pe_str (pa_cons pe_str (pa_cons pe_str pa_nil))))))))))))))
      (C8.pss_cut (ps_set (i := 5) sc_law_refusal.nd rfl (.inl rfl) (pe_op op_cat (pv 5) (pe_lst (pa_cons pe_str (pa_cons pe_str (pa_cons pe_str (pa_cons pe_str (pa_cons pe_str (pa_cons pe_str pa_nil)))))))))
      (pss_cons (ps_if (pt_cmpR op_in_seq (pv 4) (pe_lst (pa_cons pe_int (pa_cons pe_int pa_nil))) (by rfl)) (pss_one (ps_ret (pe_tup (pa_cons (pe_ix ix_list (pv 5) (pv 4) (fun _ _ => rfl)) pa_nil)))) pss_nil)
      (pss_cons (ps_if (pt_cmpR op_eq (pv 4) pe_int (nomark _)) (pss_one (ps_ret (pe_tup (pa_cons (pe_ix ix_list (pv 5) (pv 4) (fun _ _ => rfl)) (pa_cons pe_never pa_nil))))) pss_nil)
      (pss_one (ps_ret (pe_mid (pe_ifExp (pt_chain op_lt op_lt pe_int (pv 4) pe_int) (pe_tup (pa_cons (pe_ix ix_list (pv 5) (pv 4) (fun _ _ => rfl)) (pa_cons pe_never pa_nil))) (pe_tup (pa_cons (pe_ix ix_list (pv 5) (pv 4) (fun _ _ => rfl)) (pa_cons (pe_xfE (A.er 2 (by decide)) EF (List.mem_cons_self ..) hz hf (pv 0) rfl) pa_nil)))))))))))))))))))))), ?_⟩
    refine ⟨fun σ G => ∃ l1 : Addr, σ = [some (.ref e.1), some (.ref l1), none, none, none, none] ∧ G l1 = some (.lst [.bl false, .bl false, .bl true]) ∧ Same H G, ?_, ?_⟩
    · refine ⟨_, rfl, _, .ref (c 0), false, rfl, rfl, fun u hu => hu, kn_InvalidNumber, hx, _, rfl, _, .ref (c 1), false, rfl, rfl, fun u hu => hu, kn_InvalidMark, hx, _, rfl, _, .ref (c 2), true, rfl, rfl, fun u hu => hu, kn_InvalidText, hx, by show 3 ≤ sizeLine; decide, fun o1 no1 => ?_⟩
      have so1 : Same H (upd H o1 (.lst [.bl false, .bl false, .bl true])) := same_new no1
      have eo1 : upd H o1 (.lst [.bl false, .bl false, .bl true]) o1 = some (.lst [.bl false, .bl false, .bl true]) := upd_same
      generalize upd H o1 (.lst [.bl false, .bl false, .bl true]) = K1 at so1 eo1
      clear no1
      have hx := xd_same so1 hx
      have sH := sH.trans so1
      exact ⟨_, rfl, eo1, sH⟩
    rintro _ K2 ⟨c2_1, rfl, ec2_1, sH⟩
    have hx := xd_same sH hx0
    refine ⟨fun σ G => ∃ l1 : Addr, σ = [some (.ref e.1), some (.ref l1), none, none, none, none] ∧ G l1 = some (.lst [.bl false, .bl false, .bl true, .bl false, .bl false, .bl false]) ∧ Same H G, ?_, ?_⟩
    · refine ⟨_, rfl, _, rfl, _, .ref (c 3), false, rfl, rfl, fun u hu => hu, kn_InvalidLength, hx, _, rfl, _, .ref (c 4), false, rfl, rfl, fun u hu => hu, kn_InvalidRule, hx, _, rfl, _, .ref (c 5), false, rfl, rfl, fun u hu => hu, kn_InvalidWidth, hx, by show 3 ≤ sizeLine; decide, fun o3 no3 => ?_⟩
      have so3 : Same K2 (upd K2 o3 (.lst [.bl false, .bl false, .bl false])) := same_new no3
      have eo3 : upd K2 o3 (.lst [.bl false, .bl false, .bl false]) o3 = some (.lst [.bl false, .bl false, .bl false]) := upd_same
      generalize upd K2 o3 (.lst [.bl false, .bl false, .bl false]) = K3 at so3 eo3
      clear no3
      have hx := xd_same so3 hx
      have sH := sH.trans so3
      replace ec2_1 := so3 _ _ ec2_1
      refine ⟨_, _, _, _, rfl, rfl, ec2_1, eo3, by show 3 + 3 ≤ sizeLine; decide, fun o4 no4 => ?_⟩
      have so4 : Same K3 (upd K3 o4 (.lst ([.bl false, .bl false, .bl true] ++ [.bl false, .bl false, .bl false]))) := same_new no4
      have eo4 : upd K3 o4 (.lst ([.bl false, .bl false, .bl true] ++ [.bl false, .bl false, .bl false])) o4 = some (.lst ([.bl false, .bl false, .bl true] ++ [.bl false, .bl false, .bl false])) := upd_same
      generalize upd K3 o4 (.lst ([.bl false, .bl false, .bl true] ++ [.bl false, .bl false, .bl false])) = K4 at so4 eo4
      clear no4
      have eo4 : K4 o4 = some (.lst [.bl false, .bl false, .bl true, .bl false, .bl false, .bl false]) := eo4
      have hx := xd_same so4 hx
      have sH := sH.trans so4
      exact ⟨_, rfl, eo4, sH⟩
    rintro _ K5 ⟨c5_1, rfl, ec5_1, sH⟩
    have hx := xd_same sH hx0
    refine ⟨fun σ G => ∃ l1 : Addr, σ = [some (.ref e.1), some (.ref l1), none, none, none, none] ∧ G l1 = some (.lst [.bl false, .bl false, .bl true, .bl false, .bl false, .bl false, .bl false, .bl false, .bl false]) ∧ Same H G, ?_, ?_⟩
    · refine ⟨_, rfl, _, rfl, _, .ref (c 6), false, rfl, rfl, fun u hu => hu, kn_InvalidPlace, hx, _, rfl, _, .ref (c 7), false, rfl, rfl, fun u hu => hu, kn_InvalidLine, hx, _, rfl, _, .ref (c 8), false, rfl, rfl, fun u hu => hu, kn_NotANamer, hx, by show 3 ≤ sizeLine; decide, fun o6 no6 => ?_⟩
      have so6 : Same K5 (upd K5 o6 (.lst [.bl false, .bl false, .bl false])) := same_new no6
      have eo6 : upd K5 o6 (.lst [.bl false, .bl false, .bl false]) o6 = some (.lst [.bl false, .bl false, .bl false]) := upd_same
      generalize upd K5 o6 (.lst [.bl false, .bl false, .bl false]) = K6 at so6 eo6
      clear no6
      have hx := xd_same so6 hx
      have sH := sH.trans so6
      replace ec5_1 := so6 _ _ ec5_1
      refine ⟨_, _, _, _, rfl, rfl, ec5_1, eo6, by show 6 + 3 ≤ sizeLine; decide, fun o7 no7 => ?_⟩
      have so7 : Same K6 (upd K6 o7 (.lst ([.bl false, .bl false, .bl true, .bl false, .bl false, .bl false] ++ [.bl false, .bl false, .bl false]))) := same_new no7
      have eo7 : upd K6 o7 (.lst ([.bl false, .bl false, .bl true, .bl false, .bl false, .bl false] ++ [.bl false, .bl false, .bl false])) o7 = some (.lst ([.bl false, .bl false, .bl true, .bl false, .bl false, .bl false] ++ [.bl false, .bl false, .bl false])) := upd_same
      generalize upd K6 o7 (.lst ([.bl false, .bl false, .bl true, .bl false, .bl false, .bl false] ++ [.bl false, .bl false, .bl false])) = K7 at so7 eo7
      clear no7
      have eo7 : K7 o7 = some (.lst [.bl false, .bl false, .bl true, .bl false, .bl false, .bl false, .bl false, .bl false, .bl false]) := eo7
      have hx := xd_same so7 hx
      have sH := sH.trans so7
      exact ⟨_, rfl, eo7, sH⟩
    rintro _ K8 ⟨c8_1, rfl, ec8_1, sH⟩
    have hx := xd_same sH hx0
    refine ⟨fun σ G => ∃ l1 : Addr, σ = [some (.ref e.1), some (.ref l1), none, none, none, none] ∧ G l1 = some (.lst [.bl false, .bl false, .bl true, .bl false, .bl false, .bl false, .bl false, .bl false, .bl false, .bl false, .bl false, .bl false]) ∧ Same H G, ?_, ?_⟩
    · refine ⟨_, rfl, _, rfl, _, .ref (c 9), false, rfl, rfl, fun u hu => hu, kn_NotAShelf, hx, _, rfl, _, .ref (c 10), false, rfl, rfl, fun u hu => hu, kn_InvalidRow, hx, _, rfl, _, .ref (c 11), false, rfl, rfl, fun u hu => hu, kn_InvalidViews, hx, by show 3 ≤ sizeLine; decide, fun o9 no9 => ?_⟩
      have so9 : Same K8 (upd K8 o9 (.lst [.bl false, .bl false, .bl false])) := same_new no9
      have eo9 : upd K8 o9 (.lst [.bl false, .bl false, .bl false]) o9 = some (.lst [.bl false, .bl false, .bl false]) := upd_same
      generalize upd K8 o9 (.lst [.bl false, .bl false, .bl false]) = K9 at so9 eo9
      clear no9
      have hx := xd_same so9 hx
      have sH := sH.trans so9
      replace ec8_1 := so9 _ _ ec8_1
      refine ⟨_, _, _, _, rfl, rfl, ec8_1, eo9, by show 9 + 3 ≤ sizeLine; decide, fun o10 no10 => ?_⟩
      have so10 : Same K9 (upd K9 o10 (.lst ([.bl false, .bl false, .bl true, .bl false, .bl false, .bl false, .bl false, .bl false, .bl false] ++ [.bl false, .bl false, .bl false]))) := same_new no10
      have eo10 : upd K9 o10 (.lst ([.bl false, .bl false, .bl true, .bl false, .bl false, .bl false, .bl false, .bl false, .bl false] ++ [.bl false, .bl false, .bl false])) o10 = some (.lst ([.bl false, .bl false, .bl true, .bl false, .bl false, .bl false, .bl false, .bl false, .bl false] ++ [.bl false, .bl false, .bl false])) := upd_same
      generalize upd K9 o10 (.lst ([.bl false, .bl false, .bl true, .bl false, .bl false, .bl false, .bl false, .bl false, .bl false] ++ [.bl false, .bl false, .bl false])) = K10 at so10 eo10
      clear no10
      have eo10 : K10 o10 = some (.lst [.bl false, .bl false, .bl true, .bl false, .bl false, .bl false, .bl false, .bl false, .bl false, .bl false, .bl false, .bl false]) := eo10
      have hx := xd_same so10 hx
      have sH := sH.trans so10
      exact ⟨_, rfl, eo10, sH⟩
    rintro _ K11 ⟨c11_1, rfl, ec11_1, sH⟩
    have hx := xd_same sH hx0
    refine ⟨fun σ G => ∃ l1 : Addr, σ = [some (.ref e.1), some (.ref l1), none, none, none, none] ∧ G l1 = some (.lst [.bl false, .bl false, .bl true, .bl false, .bl false, .bl false, .bl false, .bl false, .bl false, .bl false, .bl false, .bl false, .bl false, .bl false, .bl false]) ∧ Same H G, ?_, ?_⟩
    · refine ⟨_, rfl, _, rfl, _, .ref (c 12), false, rfl, rfl, fun u hu => hu, kn_InvalidTexts, hx, _, rfl, _, .ref (c 13), false, rfl, rfl, fun u hu => hu, kn_InvalidDeeds, hx, _, rfl, _, .ref (c 14), false, rfl, rfl, fun u hu => hu, kn_NothingToUndo, hx, by show 3 ≤ sizeLine; decide, fun o12 no12 => ?_⟩
      have so12 : Same K11 (upd K11 o12 (.lst [.bl false, .bl false, .bl false])) := same_new no12
      have eo12 : upd K11 o12 (.lst [.bl false, .bl false, .bl false]) o12 = some (.lst [.bl false, .bl false, .bl false]) := upd_same
      generalize upd K11 o12 (.lst [.bl false, .bl false, .bl false]) = K12 at so12 eo12
      clear no12
      have hx := xd_same so12 hx
      have sH := sH.trans so12
      replace ec11_1 := so12 _ _ ec11_1
      refine ⟨_, _, _, _, rfl, rfl, ec11_1, eo12, by show 12 + 3 ≤ sizeLine; decide, fun o13 no13 => ?_⟩
      have so13 : Same K12 (upd K12 o13 (.lst ([.bl false, .bl false, .bl true, .bl false, .bl false, .bl false, .bl false, .bl false, .bl false, .bl false, .bl false, .bl false] ++ [.bl false, .bl false, .bl false]))) := same_new no13
      have eo13 : upd K12 o13 (.lst ([.bl false, .bl false, .bl true, .bl false, .bl false, .bl false, .bl false, .bl false, .bl false, .bl false, .bl false, .bl false] ++ [.bl false, .bl false, .bl false])) o13 = some (.lst ([.bl false, .bl false, .bl true, .bl false, .bl false, .bl false, .bl false, .bl false, .bl false, .bl false, .bl false, .bl false] ++ [.bl false, .bl false, .bl false])) := upd_same
      generalize upd K12 o13 (.lst ([.bl false, .bl false, .bl true, .bl false, .bl false, .bl false, .bl false, .bl false, .bl false, .bl false, .bl false, .bl false] ++ [.bl false, .bl false, .bl false])) = K13 at so13 eo13
      clear no13
      have eo13 : K13 o13 = some (.lst [.bl false, .bl false, .bl true, .bl false, .bl false, .bl false, .bl false, .bl false, .bl false, .bl false, .bl false, .bl false, .bl false, .bl false, .bl false]) := eo13
      have hx := xd_same so13 hx
      have sH := sH.trans so13
      exact ⟨_, rfl, eo13, sH⟩
    rintro _ K14 ⟨c14_1, rfl, ec14_1, sH⟩
    have hx := xd_same sH hx0
    refine ⟨fun σ G => ∃ l1 : Addr, σ = [some (.ref e.1), some (.ref l1), none, none, none, none] ∧ G l1 = some (.lst [.bl false, .bl false, .bl true, .bl false, .bl false, .bl false, .bl false, .bl false, .bl false, .bl false, .bl false, .bl false, .bl false, .bl false, .bl false, .bl false, .bl false, .bl false]) ∧ Same H G, ?_, ?_⟩
    · refine ⟨_, rfl, _, rfl, _, .ref (c 15), false, rfl, rfl, fun u hu => hu, kn_Busy, hx, _, rfl, _, .ref (c 16), false, rfl, rfl, fun u hu => hu, kn_UnknownName, hx, _, rfl, _, .ref (c 17), false, rfl, rfl, fun u hu => hu, kn_TooMany, hx, by show 3 ≤ sizeLine; decide, fun o15 no15 => ?_⟩
      have so15 : Same K14 (upd K14 o15 (.lst [.bl false, .bl false, .bl false])) := same_new no15
      have eo15 : upd K14 o15 (.lst [.bl false, .bl false, .bl false]) o15 = some (.lst [.bl false, .bl false, .bl false]) := upd_same
      generalize upd K14 o15 (.lst [.bl false, .bl false, .bl false]) = K15 at so15 eo15
      clear no15
      have hx := xd_same so15 hx
      have sH := sH.trans so15
      replace ec14_1 := so15 _ _ ec14_1
      refine ⟨_, _, _, _, rfl, rfl, ec14_1, eo15, by show 15 + 3 ≤ sizeLine; decide, fun o16 no16 => ?_⟩
      have so16 : Same K15 (upd K15 o16 (.lst ([.bl false, .bl false, .bl true, .bl false, .bl false, .bl false, .bl false, .bl false, .bl false, .bl false, .bl false, .bl false, .bl false, .bl false, .bl false] ++ [.bl false, .bl false, .bl false]))) := same_new no16
      have eo16 : upd K15 o16 (.lst ([.bl false, .bl false, .bl true, .bl false, .bl false, .bl false, .bl false, .bl false, .bl false, .bl false, .bl false, .bl false, .bl false, .bl false, .bl false] ++ [.bl false, .bl false, .bl false])) o16 = some (.lst ([.bl false, .bl false, .bl true, .bl false, .bl false, .bl false, .bl false, .bl false, .bl false, .bl false, .bl false, .bl false, .bl false, .bl false, .bl false] ++ [.bl false, .bl false, .bl false])) := upd_same
      generalize upd K15 o16 (.lst ([.bl false, .bl false, .bl true, .bl false, .bl false, .bl false, .bl false, .bl false, .bl false, .bl false, .bl false, .bl false, .bl false, .bl false, .bl false] ++ [.bl false, .bl false, .bl false])) = K16 at so16 eo16
      clear no16
      have eo16 : K16 o16 = some (.lst [.bl false, .bl false, .bl true, .bl false, .bl false, .bl false, .bl false, .bl false, .bl false, .bl false, .bl false, .bl false, .bl false, .bl false, .bl false, .bl false, .bl false, .bl false]) := eo16
      have hx := xd_same so16 hx
      have sH := sH.trans so16
      exact ⟨_, rfl, eo16, sH⟩
    rintro _ K17 ⟨c17_1, rfl, ec17_1, sH⟩
    have hx := xd_same sH hx0
    refine ⟨fun σ G => ∃ l1 l2 : Addr, σ = [some (.ref e.1), some (.ref l1), some (.ref l2), none, none, none] ∧ G l1 = some (.lst [.bl false, .bl false, .bl true, .bl false, .bl false, .bl false, .bl false, .bl false, .bl false, .bl false, .bl false, .bl false, .bl false, .bl false, .bl false, .bl false, .bl false, .bl false]) ∧ G l2 = some (.lst [.bl true, .bl false, .bl false]) ∧ Same H G, ?_, ?_⟩
    · refine ⟨_, rfl, _, .ref (u 0), true, rfl, rfl, fun u hu => hu, kn_InputError, hx, _, rfl, _, .ref (u 1), false, rfl, rfl, fun u hu => hu, kn_StateError, hx, _, rfl, _, .ref (u 2), false, rfl, rfl, fun u hu => hu, kn_SizeError, hx, by show 3 ≤ sizeLine; decide, fun o18 no18 => ?_⟩
      have so18 : Same K17 (upd K17 o18 (.lst [.bl true, .bl false, .bl false])) := same_new no18
      have eo18 : upd K17 o18 (.lst [.bl true, .bl false, .bl false]) o18 = some (.lst [.bl true, .bl false, .bl false]) := upd_same
      generalize upd K17 o18 (.lst [.bl true, .bl false, .bl false]) = K18 at so18 eo18
      clear no18
      have hx := xd_same so18 hx
      have sH := sH.trans so18
      replace ec17_1 := so18 _ _ ec17_1
      exact ⟨_, _, rfl, ec17_1, eo18, sH⟩
    rintro _ K19 ⟨c19_1, c19_2, rfl, ec19_1, ec19_2, sH⟩
    have hx := xd_same sH hx0
    refine ⟨fun σ G => ∃ l1 l2 l3 : Addr, σ = [some (.ref e.1), some (.ref l1), some (.ref l2), some (.ref l3), none, none] ∧ G l1 = some (.lst [.bl false, .bl false, .bl true, .bl false, .bl false, .bl false, .bl false, .bl false, .bl false, .bl false, .bl false, .bl false, .bl false, .bl false, .bl false, .bl false, .bl false, .bl false]) ∧ G l2 = some (.lst [.bl true, .bl false, .bl false]) ∧ G l3 = some (.lst [.bl true, .bl false, .bl false]) ∧ Same H G, ?_, ?_⟩
    · refine ⟨_, rfl, _, .type "ValueError", true, rfl, rfl, fun u hu => hu, kn_ValueError, hx, _, rfl, _, .type "LookupError", false, rfl, rfl, fun u hu => hu, kn_LookupError, hx, _, rfl, _, .type "ArithmeticError", false, rfl, rfl, fun u hu => hu, kn_ArithmeticError, hx, by show 3 ≤ sizeLine; decide, fun o20 no20 => ?_⟩
      have so20 : Same K19 (upd K19 o20 (.lst [.bl true, .bl false, .bl false])) := same_new no20
      have eo20 : upd K19 o20 (.lst [.bl true, .bl false, .bl false]) o20 = some (.lst [.bl true, .bl false, .bl false]) := upd_same
      generalize upd K19 o20 (.lst [.bl true, .bl false, .bl false]) = K20 at so20 eo20
      clear no20
      have hx := xd_same so20 hx
      have sH := sH.trans so20
      replace ec19_1 := so20 _ _ ec19_1
      replace ec19_2 := so20 _ _ ec19_2
      exact ⟨_, _, _, rfl, ec19_1, ec19_2, eo20, sH⟩
    rintro _ K21 ⟨c21_1, c21_2, c21_3, rfl, ec21_1, ec21_2, ec21_3, sH⟩
    have hx := xd_same sH hx0
    refine ⟨_, rfl, .inl ⟨rfl, _, .inl (.inl ec21_1)⟩, c21_1, _, _, rfl, rfl, .inl (.inl ec21_1), rfl, rfl, rfl, _, rfl, iteBF (by decide +kernel) ?_⟩
    refine ⟨_, rfl, _, rfl, (.list [.bool true, .bool false, .bool false]), (.list [.bool true, .bool false, .bool false]), (.lst (.inl (.inl ec21_2)) (.cons (.bl _) (.cons (.bl _) (.cons (.bl _) .nil)))), (.lst (.inl (.inl ec21_3)) (.cons (.bl _) (.cons (.bl _) (.cons (.bl _) .nil)))), by decide +kernel, by decide +kernel, _, rfl, iteBF (by decide +kernel) ?_⟩
    refine ⟨fun σ G => σ = [some (.ref e.1), some (.ref c21_1), some (.ref c21_2), some (.ref c21_3), some (.int ((2 : Nat) : Int)), none] ∧ G = K21, ?_, ?_⟩
    · refine ⟨_, rfl, .inl ⟨rfl, _, .inl (.inl ec21_1)⟩, c21_1, _, _, 2, .bl true, rfl, rfl, .inl (.inl ec21_1), rfl, rfl, rfl, rfl, fun m z hm hz => ?_, rfl, rfl⟩
      match m, hm, hz with
      | 0, _, hz => cases hz; rfl
      | 1, _, hz => cases hz; rfl
      | n + 2, hm, _ => exact absurd hm (by omega)
    rintro _ G22 ⟨rfl, rfl⟩
    refine ⟨_, rfl, _, rfl, _, _, rfl, rfl, _, rfl, _, _, rfl, rfl, _, rfl, ?_⟩
    refine iteBF (by decide) ?_
    refine ⟨_, rfl, rfl, by show 3 ≤ sizeLine; decide, fun o23 no23 => ?_⟩
    have so23 : Same G22 (upd G22 o23 (.lst [.bl (decide (((2 : Nat) : Int) < 14)), .bl false, .bl (decide ((V.int ((2 : Nat) : Int)) = V.int 17))])) := same_new no23
    have eo23 : upd G22 o23 (.lst [.bl (decide (((2 : Nat) : Int) < 14)), .bl false, .bl (decide ((V.int ((2 : Nat) : Int)) = V.int 17))]) o23 = some (.lst [.bl (decide (((2 : Nat) : Int) < 14)), .bl false, .bl (decide ((V.int ((2 : Nat) : Int)) = V.int 17))]) := upd_same
    generalize upd G22 o23 (.lst [.bl (decide (((2 : Nat) : Int) < 14)), .bl false, .bl (decide ((V.int ((2 : Nat) : Int)) = V.int 17))]) = K23 at so23 eo23
    clear no23
    rw [show decide (((2 : Nat) : Int) < 14) = true by decide] at eo23
    rw [show decide ((V.int ((2 : Nat) : Int)) = V.int 17) = false by decide] at eo23
    have hx := xd_same so23 hx
    have sH := sH.trans so23
    replace ec21_2 := so23 _ _ ec21_2
    refine ⟨(.list [.bool true, .bool false, .bool false]), (.list [.bool true, .bool false, .bool false]), (.lst (.inl (.inl ec21_2)) (.cons (.bl _) (.cons (.bl _) (.cons (.bl _) .nil)))), (.lst (.inl (.inl eo23)) (.cons (.bl _) (.cons (.bl _) (.cons (.bl _) .nil)))), by decide +kernel, by decide +kernel, _, rfl, iteBF (by decide +kernel) ?_⟩
    refine ⟨fun σ G => ∃ l1 l2 l3 l5 : Addr, σ = [some (.ref e.1), some (.ref l1), some (.ref l2), some (.ref l3), some (.int ((2 : Nat) : Int)), some (.ref l5)] ∧ G l1 = some (.lst [.bl false, .bl false, .bl true, .bl false, .bl false, .bl false, .bl false, .bl false, .bl false, .bl false, .bl false, .bl false, .bl false, .bl false, .bl false, .bl false, .bl false, .bl false]) ∧ G l2 = some (.lst [.bl true, .bl false, .bl false]) ∧ G l3 = some (.lst [.bl true, .bl false, .bl false]) ∧ G l5 = some (.lst [.str "number", .str "mark", .str "text", .str "length", .str "rule", .str "width", .str "place", .str "line", .str "namer", .str "shelf", .str "row", .str "views"]) ∧ Same H G, ?_, ?_⟩
    · refine ⟨by show 12 ≤ sizeLine; decide, fun o24 no24 => ?_⟩
      have so24 : Same K23 (upd K23 o24 (.lst [.str "number", .str "mark", .str "text", .str "length", .str "rule", .str "width", .str "place", .str "line", .str "namer", .str "shelf", .str "row", .str "views"])) := same_new no24
      have eo24 : upd K23 o24 (.lst [.str "number", .str "mark", .str "text", .str "length", .str "rule", .str "width", .str "place", .str "line", .str "namer", .str "shelf", .str "row", .str "views"]) o24 = some (.lst [.str "number", .str "mark", .str "text", .str "length", .str "rule", .str "width", .str "place", .str "line", .str "namer", .str "shelf", .str "row", .str "views"]) := upd_same
      generalize upd K23 o24 (.lst [.str "number", .str "mark", .str "text", .str "length", .str "rule", .str "width", .str "place", .str "line", .str "namer", .str "shelf", .str "row", .str "views"]) = K24 at so24 eo24
      clear no24
      have hx := xd_same so24 hx
      have sH := sH.trans so24
      replace ec21_1 := so23 _ _ ec21_1
      replace ec21_1 := so24 _ _ ec21_1
      replace ec21_2 := so24 _ _ ec21_2
      replace ec21_3 := so23 _ _ ec21_3
      replace ec21_3 := so24 _ _ ec21_3
      exact ⟨_, _, _, _, rfl, ec21_1, ec21_2, ec21_3, eo24, sH⟩
    rintro _ K25 ⟨c25_1, c25_2, c25_3, c25_5, rfl, ec25_1, ec25_2, ec25_3, ec25_5, sH⟩
    have hx := xd_same sH hx0
    refine ⟨fun σ G => ∃ l1 l2 l3 l5 : Addr, σ = [some (.ref e.1), some (.ref l1), some (.ref l2), some (.ref l3), some (.int ((2 : Nat) : Int)), some (.ref l5)] ∧ G l1 = some (.lst [.bl false, .bl false, .bl true, .bl false, .bl false, .bl false, .bl false, .bl false, .bl false, .bl false, .bl false, .bl false, .bl false, .bl false, .bl false, .bl false, .bl false, .bl false]) ∧ G l2 = some (.lst [.bl true, .bl false, .bl false]) ∧ G l3 = some (.lst [.bl true, .bl false, .bl false]) ∧ G l5 = some (.lst [.str "number", .str "mark", .str "text", .str "length", .str "rule", .str "width", .str "place", .str "line", .str "namer", .str "shelf", .str "row", .str "views", .str "texts", .str "deeds", .str "nothing", .str "busy", .str "unknown", .str "many"]) ∧ Same H G, ?_, ?_⟩
    · refine ⟨_, rfl, by show 6 ≤ sizeLine; decide, fun o26 no26 => ?_⟩
      have so26 : Same K25 (upd K25 o26 (.lst [.str "texts", .str "deeds", .str "nothing", .str "busy", .str "unknown", .str "many"])) := same_new no26
      have eo26 : upd K25 o26 (.lst [.str "texts", .str "deeds", .str "nothing", .str "busy", .str "unknown", .str "many"]) o26 = some (.lst [.str "texts", .str "deeds", .str "nothing", .str "busy", .str "unknown", .str "many"]) := upd_same
      generalize upd K25 o26 (.lst [.str "texts", .str "deeds", .str "nothing", .str "busy", .str "unknown", .str "many"]) = K26 at so26 eo26
      clear no26
      have hx := xd_same so26 hx
      have sH := sH.trans so26
      replace ec25_5 := so26 _ _ ec25_5
      refine ⟨_, _, _, _, rfl, rfl, ec25_5, eo26, by show 12 + 6 ≤ sizeLine; decide, fun o27 no27 => ?_⟩
      have so27 : Same K26 (upd K26 o27 (.lst ([.str "number", .str "mark", .str "text", .str "length", .str "rule", .str "width", .str "place", .str "line", .str "namer", .str "shelf", .str "row", .str "views"] ++ [.str "texts", .str "deeds", .str "nothing", .str "busy", .str "unknown", .str "many"]))) := same_new no27
      have eo27 : upd K26 o27 (.lst ([.str "number", .str "mark", .str "text", .str "length", .str "rule", .str "width", .str "place", .str "line", .str "namer", .str "shelf", .str "row", .str "views"] ++ [.str "texts", .str "deeds", .str "nothing", .str "busy", .str "unknown", .str "many"])) o27 = some (.lst ([.str "number", .str "mark", .str "text", .str "length", .str "rule", .str "width", .str "place", .str "line", .str "namer", .str "shelf", .str "row", .str "views"] ++ [.str "texts", .str "deeds", .str "nothing", .str "busy", .str "unknown", .str "many"])) := upd_same
      generalize upd K26 o27 (.lst ([.str "number", .str "mark", .str "text", .str "length", .str "rule", .str "width", .str "place", .str "line", .str "namer", .str "shelf", .str "row", .str "views"] ++ [.str "texts", .str "deeds", .str "nothing", .str "busy", .str "unknown", .str "many"])) = K27 at so27 eo27
      clear no27
      have eo27 : K27 o27 = some (.lst [.str "number", .str "mark", .str "text", .str "length", .str "rule", .str "width", .str "place", .str "line", .str "namer", .str "shelf", .str "row", .str "views", .str "texts", .str "deeds", .str "nothing", .str "busy", .str "unknown", .str "many"]) := eo27
      have hx := xd_same so27 hx
      have sH := sH.trans so27
      replace ec25_1 := so26 _ _ ec25_1
      replace ec25_1 := so27 _ _ ec25_1
      replace ec25_2 := so26 _ _ ec25_2
      replace ec25_2 := so27 _ _ ec25_2
      replace ec25_3 := so26 _ _ ec25_3
      replace ec25_3 := so27 _ _ ec25_3
      exact ⟨_, _, _, _, rfl, ec25_1, ec25_2, ec25_3, eo27, sH⟩
    rintro _ K28 ⟨c28_1, c28_2, c28_3, c28_5, rfl, ec28_1, ec28_2, ec28_3, ec28_5, sH⟩
    have hx := xd_same sH hx0
    refine ⟨_, rfl, by show 2 ≤ sizeLine; decide, fun o29 no29 => ?_⟩
    have so29 : Same K28 (upd K28 o29 (.lst [.int 14, .int 15])) := same_new no29
    have eo29 : upd K28 o29 (.lst [.int 14, .int 15]) o29 = some (.lst [.int 14, .int 15]) := upd_same
    generalize upd K28 o29 (.lst [.int 14, .int 15]) = K29 at so29 eo29
    clear no29
    have hx := xd_same so29 hx
    have sH := sH.trans so29
    refine ⟨o29, _, rfl, .inl (.inl (.inl eo29)), rfl, rfl, _, rfl, iteBF (by decide +kernel) ?_⟩
    replace ec28_5 := so29 _ _ ec28_5
    refine ⟨_, rfl, rfl, _, rfl, iteBF (by decide +kernel) ?_⟩
    have hd := sH _ _ hd
    refine ⟨fun y G => (∃ p, y = .ref p ∧ G p = some (.tup [.str "text", v])) ∧ Same H G, ?_, ?_⟩
    · refine ⟨_, rfl, _, _, rfl, rfl, _, rfl, ?_⟩
      refine iteBF (by decide) ?_
      refine ⟨_, rfl, iteBF rfl ?_⟩
      refine ⟨_, rfl, _, rfl, c28_5, _, _, _, rfl, rfl, .inl (.inl ec28_5), atI_nat (j := 2) rfl, _, rfl, rfl, rfl, dd, _, v, ed, hd, rfl, by show 2 ≤ sizeLine; decide, fun o30 no30 => ?_⟩
      have so30 : Same K29 (upd K29 o30 (.tup [.str "text", v])) := same_new no30
      have eo30 : upd K29 o30 (.tup [.str "text", v]) o30 = some (.tup [.str "text", v]) := upd_same
      generalize upd K29 o30 (.tup [.str "text", v]) = K30 at so30 eo30
      clear no30
      have hx := xd_same so30 hx
      have sH := sH.trans so30
      exact ⟨⟨o30, rfl, eo30⟩, sH⟩
    · rintro _ G ⟨⟨q, rfl, eq⟩, sG⟩
      exact k q G sG eq
end
end Gu
namespace Gu
open PySem PySem.Spec PyProof.Rows L2 LamX
section
variable {P : Program} {w : World} {K : PySem.W.Frag} {mg : Str → Option Value} {base : Heap} {c u : Nat → Addr}
def spRef16 (c : Nat → Addr) : Addr × Obj → Sp := fun e vs H Q _ => ∃ (dd : Addr) (v : V), vs = [.ref e.1] ∧ Zc (.ref (c 16)) (some dd) e.2 ∧ (∃ vs, e.2.data = .fields vs) ∧ H dd = some (.xd [("value", v)]) ∧ ∀ p G, Same H G → G p = some (.tup [.str "unknown", v]) → Q (.ref p) G
set_option maxHeartbeats 4000000 in
theorem cal_ref16 (B : Bi mg) (A : ErrAll K mg c u) (EF : ErrF K "UnknownName" "value" (c 16)) (D : At K mg "_law_refusal" s_law_refusal ps_law_refusal) : CalE P w K mg base 1 "_law_refusal" ps_law_refusal (spRef16 c) := by
  refine D.calE sc_law_refusal (fun e vs H Q E h => ?_) (fun f e cdv A2 outer s H vs Q E hr h => ?_)
  · obtain ⟨dd, v, rfl, _⟩ := h
    rfl
  · obtain ⟨dd, v, rfl, hz, hf, hd, k⟩ := h
    obtain ⟨d, ed⟩ : ∃ d : Option Addr, d = some dd := ⟨_, rfl⟩
    rw [← ed] at hz
    have hx : ∀ d2, d = some d2 → ∃ fs, H d2 = some (.xd fs) := fun d2 q => ⟨_, by rw [ed] at q; cases q; exact hd⟩
    have sH : Same H H := Same.refl H
    have hx0 := hx
    have hu : A2.units + 3 + 64 < cLine := by have := hr.un; show A2.units + 3 + 64 < _; exact Nat.lt_of_le_of_lt (by omega) (show A2.units + 3 + 16 * 0 + 200 < cLine from this)
    have kn_InvalidNumber : PySem.W.kitOne K (.ref (c 16)) (.ref (c 0)) = some false := A.kitN (i := 0) (j := 16) (by decide) (by decide) (by decide)
    have kn_InvalidMark : PySem.W.kitOne K (.ref (c 16)) (.ref (c 1)) = some false := A.kitN (i := 1) (j := 16) (by decide) (by decide) (by decide)
    have kn_InvalidText : PySem.W.kitOne K (.ref (c 16)) (.ref (c 2)) = some false := A.kitN (i := 2) (j := 16) (by decide) (by decide) (by decide)
    have kn_InvalidLength : PySem.W.kitOne K (.ref (c 16)) (.ref (c 3)) = some false := A.kitN (i := 3) (j := 16) (by decide) (by decide) (by decide)
    have kn_InvalidRule : PySem.W.kitOne K (.ref (c 16)) (.ref (c 4)) = some false := A.kitN (i := 4) (j := 16) (by decide) (by decide) (by decide)
    have kn_InvalidWidth : PySem.W.kitOne K (.ref (c 16)) (.ref (c 5)) = some false := A.kitN (i := 5) (j := 16) (by decide) (by decide) (by decide)
    have kn_InvalidPlace : PySem.W.kitOne K (.ref (c 16)) (.ref (c 6)) = some false := A.kitN (i := 6) (j := 16) (by decide) (by decide) (by decide)
    have kn_InvalidLine : PySem.W.kitOne K (.ref (c 16)) (.ref (c 7)) = some false := A.kitN (i := 7) (j := 16) (by decide) (by decide) (by decide)
    have kn_NotANamer : PySem.W.kitOne K (.ref (c 16)) (.ref (c 8)) = some false := A.kitN (i := 8) (j := 16) (by decide) (by decide) (by decide)
    have kn_NotAShelf : PySem.W.kitOne K (.ref (c 16)) (.ref (c 9)) = some false := A.kitN (i := 9) (j := 16) (by decide) (by decide) (by decide)
    have kn_InvalidRow : PySem.W.kitOne K (.ref (c 16)) (.ref (c 10)) = some false := A.kitN (i := 10) (j := 16) (by decide) (by decide) (by decide)
    have kn_InvalidViews : PySem.W.kitOne K (.ref (c 16)) (.ref (c 11)) = some false := A.kitN (i := 11) (j := 16) (by decide) (by decide) (by decide)
    have kn_InvalidTexts : PySem.W.kitOne K (.ref (c 16)) (.ref (c 12)) = some false := A.kitN (i := 12) (j := 16) (by decide) (by decide) (by decide)
    have kn_InvalidDeeds : PySem.W.kitOne K (.ref (c 16)) (.ref (c 13)) = some false := A.kitN (i := 13) (j := 16) (by decide) (by decide) (by decide)
    have kn_NothingToUndo : PySem.W.kitOne K (.ref (c 16)) (.ref (c 14)) = some false := A.kitN (i := 14) (j := 16) (by decide) (by decide) (by decide)
    have kn_Busy : PySem.W.kitOne K (.ref (c 16)) (.ref (c 15)) = some false := A.kitN (i := 15) (j := 16) (by decide) (by decide) (by decide)
    have kn_UnknownName : PySem.W.kitOne K (.ref (c 16)) (.ref (c 16)) = some true := A.kitY (j := 16) (by decide)
    have kn_TooMany : PySem.W.kitOne K (.ref (c 16)) (.ref (c 17)) = some false := A.kitN (i := 17) (j := 16) (by decide) (by decide) (by decide)
    have kn_InputError : PySem.W.kitOne K (.ref (c 16)) (.ref (u 0)) = some false := A.kitUpN (j := 16) (by decide) (i := 0) (by decide) (by decide)
    have kn_StateError : PySem.W.kitOne K (.ref (c 16)) (.ref (u 1)) = some true := A.kitUpY (j := 16) (by decide) (i := 1) (by decide) (by decide)
    have kn_SizeError : PySem.W.kitOne K (.ref (c 16)) (.ref (u 2)) = some false := A.kitUpN (j := 16) (by decide) (i := 2) (by decide) (by decide)
    have kn_ValueError : PySem.W.kitOne K (.ref (c 16)) (.type "ValueError") = some false := A.kitPyN (j := 16) (by decide) (i := 0) (by decide) rfl (by decide)
    have kn_LookupError : PySem.W.kitOne K (.ref (c 16)) (.type "LookupError") = some true := A.kitPyY (j := 16) (by decide) (i := 1) (by decide) rfl (by decide)
    have kn_ArithmeticError : PySem.W.kitOne K (.ref (c 16)) (.type "ArithmeticError") = some false := A.kitPyN (j := 16) (by decide) (i := 2) (by decide) rfl (by decide)
    refine ⟨_, (C8.pss_cut (ps_set (i := 1) sc_law_refusal.nd rfl (.inl rfl) (pe_lst (pa_cons (pe_callB (id := "isinstance") (r := rIsX K (c 16) e.1 (.ref (c 16)) d) (by exact call_isX (A.er 16 (by decide)) (List.mem_cons_self ..) hz hf) (by rfl) B.isinstance (by decide +kernel) (pa_cons (pv 0) (pa_cons (pe_glob (v := .ref (c 0)) (by rfl) (show mg "InvalidNumber" = some (.ref (c 0)) from (A.er 0 (by decide)).g) rfl) pa_nil))) (pa_cons (pe_callB (id := "isinstance") (r := rIsX K (c 16) e.1 (.ref (c 16)) d) (by exact call_isX (A.er 16 (by decide)) (List.mem_cons_self ..) hz hf) (by rfl) B.isinstance (by decide +kernel) (pa_cons (pv 0) (pa_cons (pe_glob (v := .ref (c 1)) (by rfl) (show mg "InvalidMark" = some (.ref (c 1)) from (A.er 1 (by decide)).g) rfl) pa_nil))) (pa_cons (pe_callB (id := "isinstance") (r := rIsX K (c 16) e.1 (.ref (c 16)) d) (by exact call_isX (A.er 16 (by decide)) (List.mem_cons_self ..) hz hf) (by rfl) B.isinstance (by decide +kernel) (pa_cons (pv 0) (pa_cons (pe_glob (v := .ref (c 2)) (by rfl) (show mg "InvalidText" = some (.ref (c 2)) from (A.er 2 (by decide)).g) rfl) pa_nil))) pa_nil)))))
      (C8.pss_cut (ps_set (i := 1) sc_law_refusal.nd rfl (.inl rfl) (pe_op op_cat (pv 1) (pe_lst (pa_cons (pe_callB (id := "isinstance") (r := rIsX K (c 16) e.1 (.ref (c 16)) d) (by exact call_isX (A.er 16 (by decide)) (List.mem_cons_self ..) hz hf) (by rfl) B.isinstance (by decide +kernel) (pa_cons (pv 0) (pa_cons (pe_glob (v := .ref (c 3)) (by rfl) (show mg "InvalidLength" = some (.ref (c 3)) from (A.er 3 (by decide)).g) rfl) pa_nil))) (pa_cons (pe_callB (id := "isinstance") (r := rIsX K (c 16) e.1 (.ref (c 16)) d) (by exact call_isX (A.er 16 (by decide)) (List.mem_cons_self ..) hz hf) (by rfl) B.isinstance (by decide +kernel) (pa_cons (pv 0) (pa_cons (pe_glob (v := .ref (c 4)) (by rfl) (show mg "InvalidRule" = some (.ref (c 4)) from (A.er 4 (by decide)).g) rfl) pa_nil))) (pa_cons (pe_callB (id := "isinstance") (r := rIsX K (c 16) e.1 (.ref (c 16)) d) (by exact call_isX (A.er 16 (by decide)) (List.mem_cons_self ..) hz hf) (by rfl) B.isinstance (by decide +kernel) (pa_cons (pv 0) (pa_cons (pe_glob (v := .ref (c 5)) (by rfl) (show mg "InvalidWidth" = some (.ref (c 5)) from (A.er 5 (by decide)).g) rfl) pa_nil))) pa_nil))))))
      (C8.pss_cut (ps_set (i := 1) sc_law_refusal.nd rfl (.inl rfl) (pe_op op_cat (pv 1) (pe_lst (pa_cons (pe_callB (id := "isinstance") (r := rIsX K (c 16) e.1 (.ref (c 16)) d) (by exact call_isX (A.er 16 (by decide)) (List.mem_cons_self ..) hz hf) (by rfl) B.isinstance (by decide +kernel) (pa_cons (pv 0) (pa_cons (pe_glob (v := .ref (c 6)) (by rfl) (show mg "InvalidPlace" = some (.ref (c 6)) from (A.er 6 (by decide)).g) rfl) pa_nil))) (pa_cons (pe_callB (id := "isinstance") (r := rIsX K (c 16) e.1 (.ref (c 16)) d) (by exact call_isX (A.er 16 (by decide)) (List.mem_cons_self ..) hz hf) (by rfl) B.isinstance (by decide +kernel) (pa_cons (pv 0) (pa_cons (pe_glob (v := .ref (c 7)) (by rfl) (show mg "InvalidLine" = some (.ref (c 7)) from (A.er 7 (by decide)).g) rfl) pa_nil))) (pa_cons (pe_callB (id := "isinstance") (r := rIsX K (c 16) e.1 (.ref (c 16)) d) (by exact call_isX (A.er 16 (by decide)) (List.mem_cons_self ..) hz hf) (by rfl) B.isinstance (by decide +kernel) (pa_cons (pv 0) (pa_cons (pe_glob (v := .ref (c 8)) (by rfl) (show mg "NotANamer" = some (.ref (c 8)) from (A.er 8 (by decide)).g) rfl) pa_nil))) pa_nil))))))
      (C8.pss_cut (ps_set (i := 1) sc_law_refusal.nd rfl (.inl rfl) (pe_op op_cat (pv 1) (pe_lst (pa_cons (pe_callB (id := "isinstance") (r := rIsX K (c 16) e.1 (.ref (c 16)) d) (by exact call_isX (A.er 16 (by decide)) (List.mem_cons_self ..) hz hf) (by rfl) B.isinstance (by decide +kernel) (pa_cons (pv 0) (pa_cons (pe_glob (v := .ref (c 9)) (by rfl) (show mg "NotAShelf" = some (.ref (c 9)) from (A.er 9 (by decide)).g) rfl) pa_nil))) (pa_cons (pe_callB (id := "isinstance") (r := rIsX K (c 16) e.1 (.ref (c 16)) d) (by exact call_isX (A.er 16 (by decide)) (List.mem_cons_self ..) hz hf) (by rfl) B.isinstance (by decide +kernel) (pa_cons (pv 0) (pa_cons (pe_glob (v := .ref (c 10)) (by rfl) (show mg "InvalidRow" = some (.ref (c 10)) from (A.er 10 (by decide)).g) rfl) pa_nil))) (pa_cons (pe_callB (id := "isinstance") (r := rIsX K (c 16) e.1 (.ref (c 16)) d) (by exact call_isX (A.er 16 (by decide)) (List.mem_cons_self ..) hz hf) (by rfl) B.isinstance (by decide +kernel) (pa_cons (pv 0) (pa_cons (pe_glob (v := .ref (c 11)) (by rfl) (show mg "InvalidViews" = some (.ref (c 11)) from (A.er 11 (by decide)).g) rfl) pa_nil))) pa_nil))))))
      (C8.pss_cut (ps_set (i := 1) sc_law_refusal.nd rfl (.inl rfl) (pe_op op_cat (pv 1) (pe_lst (pa_cons (pe_callB (id := "isinstance") (r := rIsX K (c 16) e.1 (.ref (c 16)) d) (by exact call_isX (A.er 16 (by decide)) (List.mem_cons_self ..) hz hf) (by rfl) B.isinstance (by decide +kernel) (pa_cons (pv 0) (pa_cons (pe_glob (v := .ref (c 12)) (by rfl) (show mg "InvalidTexts" = some (.ref (c 12)) from (A.er 12 (by decide)).g) rfl) pa_nil))) (pa_cons (pe_callB (id := "isinstance") (r := rIsX K (c 16) e.1 (.ref (c 16)) d) (by exact call_isX (A.er 16 (by decide)) (List.mem_cons_self ..) hz hf) (by rfl) B.isinstance (by decide +kernel) (pa_cons (pv 0) (pa_cons (pe_glob (v := .ref (c 13)) (by rfl) (show mg "InvalidDeeds" = some (.ref (c 13)) from (A.er 13 (by decide)).g) rfl) pa_nil))) (pa_cons (pe_callB (id := "isinstance") (r := rIsX K (c 16) e.1 (.ref (c 16)) d) (by exact call_isX (A.er 16 (by decide)) (List.mem_cons_self ..) hz hf) (by rfl) B.isinstance (by decide +kernel) (pa_cons (pv 0) (pa_cons (pe_glob (v := .ref (c 14)) (by rfl) (show mg "NothingToUndo" = some (.ref (c 14)) from (A.er 14 (by decide)).g) rfl) pa_nil))) pa_nil))))))
      (C8.pss_cut (ps_set (i := 1) sc_law_refusal.nd rfl (.inl rfl) (pe_op op_cat (pv 1) (pe_lst (pa_cons (pe_callB (id := "isinstance") (r := rIsX K (c 16) e.1 (.ref (c 16)) d) (by exact call_isX (A.er 16 (by decide)) (List.mem_cons_self ..) hz hf) (by rfl) B.isinstance (by decide +kernel) (pa_cons (pv 0) (pa_cons (pe_glob (v := .ref (c 15)) (by rfl) (show mg "Busy" = some (.ref (c 15)) from (A.er 15 (by decide)).g) rfl) pa_nil))) (pa_cons (pe_callB (id := "isinstance") (r := rIsX K (c 16) e.1 (.ref (c 16)) d) (by exact call_isX (A.er 16 (by decide)) (List.mem_cons_self ..) hz hf) (by rfl) B.isinstance (by decide +kernel) (pa_cons (pv 0) (pa_cons (pe_glob (v := .ref (c 16)) (by rfl) (show mg "UnknownName" = some (.ref (c 16)) from (A.er 16 (by decide)).g) rfl) pa_nil))) (pa_cons (pe_callB (id := "isinstance") (r := rIsX K (c 16) e.1 (.ref (c 16)) d) (by exact call_isX (A.er 16 (by decide)) (List.mem_cons_self ..) hz hf) (by rfl) B.isinstance (by decide +kernel) (pa_cons (pv 0) (pa_cons (pe_glob (v := .ref (c 17)) (by rfl) (show mg "TooMany" = some (.ref (c 17)) from (A.er 17 (by decide)).g) rfl) pa_nil))) pa_nil))))))
      (C8.pss_cut (ps_set (i := 2) sc_law_refusal.nd rfl (.inl rfl) (pe_lst (pa_cons (pe_callB (id := "isinstance") (r := rIsX K (c 16) e.1 (.ref (c 16)) d) (by exact call_isX (A.er 16 (by decide)) (List.mem_cons_self ..) hz hf) (by rfl) B.isinstance (by decide +kernel) (pa_cons (pv 0) (pa_cons (pe_glob (v := .ref (u 0)) (by rfl) (show mg "InputError" = some (.ref (u 0)) from (A.up 0 (by decide)).g) rfl) pa_nil))) (pa_cons (pe_callB (id := "isinstance") (r := rIsX K (c 16) e.1 (.ref (c 16)) d) (by exact call_isX (A.er 16 (by decide)) (List.mem_cons_self ..) hz hf) (by rfl) B.isinstance (by decide +kernel) (pa_cons (pv 0) (pa_cons (pe_glob (v := .ref (u 1)) (by rfl) (show mg "StateError" = some (.ref (u 1)) from (A.up 1 (by decide)).g) rfl) pa_nil))) (pa_cons (pe_callB (id := "isinstance") (r := rIsX K (c 16) e.1 (.ref (c 16)) d) (by exact call_isX (A.er 16 (by decide)) (List.mem_cons_self ..) hz hf) (by rfl) B.isinstance (by decide +kernel) (pa_cons (pv 0) (pa_cons (pe_glob (v := .ref (u 2)) (by rfl) (show mg "SizeError" = some (.ref (u 2)) from (A.up 2 (by decide)).g) rfl) pa_nil))) pa_nil)))))
      (C8.pss_cut (ps_set (i := 3) sc_law_refusal.nd rfl (.inl rfl) (pe_lst (pa_cons (pe_callB (id := "isinstance") (r := rIsX K (c 16) e.1 (.ref (c 16)) d) (by exact call_isX (A.er 16 (by decide)) (List.mem_cons_self ..) hz hf) (by rfl) B.isinstance (by decide +kernel) (pa_cons (pv 0) (pa_cons (pe_bltn (v := .ty "ValueError") (by rfl) B.ValueError (by decide +kernel) rfl) pa_nil))) (pa_cons (pe_callB (id := "isinstance") (r := rIsX K (c 16) e.1 (.ref (c 16)) d) (by exact call_isX (A.er 16 (by decide)) (List.mem_cons_self ..) hz hf) (by rfl) B.isinstance (by decide +kernel) (pa_cons (pv 0) (pa_cons (pe_bltn (v := .ty "LookupError") (by rfl) B.LookupError (by decide +kernel) rfl) pa_nil))) (pa_cons (pe_callB (id := "isinstance") (r := rIsX K (c 16) e.1 (.ref (c 16)) d) (by exact call_isX (A.er 16 (by decide)) (List.mem_cons_self ..) hz hf) (by rfl) B.isinstance (by decide +kernel) (pa_cons (pv 0) (pa_cons (pe_bltn (v := .ty "ArithmeticError") (by rfl) B.ArithmeticError (by decide +kernel) rfl) pa_nil))) pa_nil)))))
      (pss_cons (ps_if (PW.pt (pw_or (pt_cmpR op_ne (pe_bm PySem.F.plainAttrs_list PySem.F.slot_list_count PySem.F.type_list_count mt_countV (pv 1) (pa_cons pe_bl pa_nil)) pe_int (nomark _)) (pw_or1 (pt_cmpR (op_neD hu) (pv 2) (pv 3) (nomark _))))) (pss_one (ps_ret (pe_tup (pa_cons pe_str pa_nil)))) pss_nil)
      (C8.pss_cut (ps_set (i := 4) sc_law_refusal.nd rfl (.inl rfl) (pe_bm PySem.F.plainAttrs_list PySem.F.slot_list_index PySem.F.type_list_index mt_index (pv 1) (pa_cons pe_bl pa_nil)))
      (pss_cons (ps_if (pt_cmpR (op_neD hu) (pv 2) (pe_lst (pa_cons (pe_cmpR op_lt (pv 4) pe_int (nomark _)) (pa_cons (pe_chain op_lt op_lt pe_int (pv 4) pe_int) (pa_cons (pe_cmpR op_eq (pv 4) pe_int (nomark _)) pa_nil)))) (nomark _)) (pss_one (ps_ret (pe_tup (pa_cons pe_str pa_nil)))) pss_nil)
      (C8.pss_cut (ps_set (i := 5) sc_law_refusal.nd rfl (.inl rfl) (pe_lst (pa_cons pe_str (pa_cons pe_str (pa_cons pe_str (pa_cons pe_str (pa_cons pe_str (pa_cons pe_str (pa_cons pe_str (pa_cons pe_str (pa_cons pe_str (pa_cons pe_str (pa_cons pe_str (pa_cons pe_str pa_nil))))))))))))))
      (C8.pss_cut (ps_set (i := 5) sc_law_refusal.nd rfl (.inl rfl) (pe_op op_cat (pv 5) (pe_lst (pa_cons pe_str (pa_cons pe_str (pa_cons pe_str (pa_cons pe_str (pa_cons pe_str (pa_cons pe_str pa_nil)))))))))
      (pss_cons (ps_if (pt_cmpR op_in_seq (pv 4) (pe_lst (pa_cons pe_int (pa_cons pe_int pa_nil))) (by rfl)) (pss_one (ps_ret (pe_tup (pa_cons (pe_ix ix_list (pv 5) (pv 4) (fun _ _ => rfl)) pa_nil)))) pss_nil)
      (pss_cons (ps_if (pt_cmpR op_eq (pv 4) pe_int (nomark _)) (pss_one (ps_ret (pe_tup (pa_cons (pe_ix ix_list (pv 5) (pv 4) (fun _ _ => rfl)) (pa_cons pe_never pa_nil))))) pss_nil)
      (pss_one (ps_ret (pe_mid (pe_ifExp (pt_chain op_lt op_lt pe_int (pv 4) pe_int) (pe_tup (pa_cons (pe_ix ix_list (pv 5) (pv 4) (fun _ _ => rfl)) (pa_cons pe_never pa_nil))) (pe_tup (pa_cons (pe_ix ix_list (pv 5) (pv 4) (fun _ _ => rfl)) (pa_cons (pe_xfE (A.er 16 (by decide)) EF (List.mem_cons_self ..) hz hf (pv 0) rfl) pa_nil)))))))))))))))))))))), ?_⟩
    refine ⟨fun σ G => ∃ l1 : Addr, σ = [some (.ref e.1), some (.ref l1), none, none, none, none] ∧ G l1 = some (.lst [.bl false, .bl false, .bl false]) ∧ Same H G, ?_, ?_⟩
    · refine ⟨_, rfl, _, .ref (c 0), false, rfl, rfl, fun u hu => hu, kn_InvalidNumber, hx, _, rfl, _, .ref (c 1), false, rfl, rfl, fun u hu => hu, kn_InvalidMark, hx, _, rfl, _, .ref (c 2), false, rfl, rfl, fun u hu => hu, kn_InvalidText, hx, by show 3 ≤ sizeLine; decide, fun o1 no1 => ?_⟩
      have so1 : Same H (upd H o1 (.lst [.bl false, .bl false, .bl false])) := same_new no1
      have eo1 : upd H o1 (.lst [.bl false, .bl false, .bl false]) o1 = some (.lst [.bl false, .bl false, .bl false]) := upd_same
      generalize upd H o1 (.lst [.bl false, .bl false, .bl false]) = K1 at so1 eo1
      clear no1
      have hx := xd_same so1 hx
      have sH := sH.trans so1
      exact ⟨_, rfl, eo1, sH⟩
    rintro _ K2 ⟨c2_1, rfl, ec2_1, sH⟩
    have hx := xd_same sH hx0
    refine ⟨fun σ G => ∃ l1 : Addr, σ = [some (.ref e.1), some (.ref l1), none, none, none, none] ∧ G l1 = some (.lst [.bl false, .bl false, .bl false, .bl false, .bl false, .bl false]) ∧ Same H G, ?_, ?_⟩
    · refine ⟨_, rfl, _, rfl, _, .ref (c 3), false, rfl, rfl, fun u hu => hu, kn_InvalidLength, hx, _, rfl, _, .ref (c 4), false, rfl, rfl, fun u hu => hu, kn_InvalidRule, hx, _, rfl, _, .ref (c 5), false, rfl, rfl, fun u hu => hu, kn_InvalidWidth, hx, by show 3 ≤ sizeLine; decide, fun o3 no3 => ?_⟩
      have so3 : Same K2 (upd K2 o3 (.lst [.bl false, .bl false, .bl false])) := same_new no3
      have eo3 : upd K2 o3 (.lst [.bl false, .bl false, .bl false]) o3 = some (.lst [.bl false, .bl false, .bl false]) := upd_same
      generalize upd K2 o3 (.lst [.bl false, .bl false, .bl false]) = K3 at so3 eo3
      clear no3
      have hx := xd_same so3 hx
      have sH := sH.trans so3
      replace ec2_1 := so3 _ _ ec2_1
      refine ⟨_, _, _, _, rfl, rfl, ec2_1, eo3, by show 3 + 3 ≤ sizeLine; decide, fun o4 no4 => ?_⟩
      have so4 : Same K3 (upd K3 o4 (.lst ([.bl false, .bl false, .bl false] ++ [.bl false, .bl false, .bl false]))) := same_new no4
      have eo4 : upd K3 o4 (.lst ([.bl false, .bl false, .bl false] ++ [.bl false, .bl false, .bl false])) o4 = some (.lst ([.bl false, .bl false, .bl false] ++ [.bl false, .bl false, .bl false])) := upd_same
      generalize upd K3 o4 (.lst ([.bl false, .bl false, .bl false] ++ [.bl false, .bl false, .bl false])) = K4 at so4 eo4
      clear no4
      have eo4 : K4 o4 = some (.lst [.bl false, .bl false, .bl false, .bl false, .bl false, .bl false]) := eo4
      have hx := xd_same so4 hx
      have sH := sH.trans so4
      exact ⟨_, rfl, eo4, sH⟩
    rintro _ K5 ⟨c5_1, rfl, ec5_1, sH⟩
    have hx := xd_same sH hx0
    refine ⟨fun σ G => ∃ l1 : Addr, σ = [some (.ref e.1), some (.ref l1), none, none, none, none] ∧ G l1 = some (.lst [.bl false, .bl false, .bl false, .bl false, .bl false, .bl false, .bl false, .bl false, .bl false]) ∧ Same H G, ?_, ?_⟩
    · refine ⟨_, rfl, _, rfl, _, .ref (c 6), false, rfl, rfl, fun u hu => hu, kn_InvalidPlace, hx, _, rfl, _, .ref (c 7), false, rfl, rfl, fun u hu => hu, kn_InvalidLine, hx, _, rfl, _, .ref (c 8), false, rfl, rfl, fun u hu => hu, kn_NotANamer, hx, by show 3 ≤ sizeLine; decide, fun o6 no6 => ?_⟩
      have so6 : Same K5 (upd K5 o6 (.lst [.bl false, .bl false, .bl false])) := same_new no6
      have eo6 : upd K5 o6 (.lst [.bl false, .bl false, .bl false]) o6 = some (.lst [.bl false, .bl false, .bl false]) := upd_same
      generalize upd K5 o6 (.lst [.bl false, .bl false, .bl false]) = K6 at so6 eo6
      clear no6
      have hx := xd_same so6 hx
      have sH := sH.trans so6
      replace ec5_1 := so6 _ _ ec5_1
      refine ⟨_, _, _, _, rfl, rfl, ec5_1, eo6, by show 6 + 3 ≤ sizeLine; decide, fun o7 no7 => ?_⟩
      have so7 : Same K6 (upd K6 o7 (.lst ([.bl false, .bl false, .bl false, .bl false, .bl false, .bl false] ++ [.bl false, .bl false, .bl false]))) := same_new no7
      have eo7 : upd K6 o7 (.lst ([.bl false, .bl false, .bl false, .bl false, .bl false, .bl false] ++ [.bl false, .bl false, .bl false])) o7 = some (.lst ([.bl false, .bl false, .bl false, .bl false, .bl false, .bl false] ++ [.bl false, .bl false, .bl false])) := upd_same
      generalize upd K6 o7 (.lst ([.bl false, .bl false, .bl false, .bl false, .bl false, .bl false] ++ [.bl false, .bl false, .bl false])) = K7 at so7 eo7
      clear no7
      have eo7 : K7 o7 = some (.lst [.bl false, .bl false, .bl false, .bl false, .bl false, .bl false, .bl false, .bl false, .bl false]) := eo7
      have hx := xd_same so7 hx
      have sH := sH.trans so7
      exact ⟨_, rfl, eo7, sH⟩
    rintro _ K8 ⟨c8_1, rfl, ec8_1, sH⟩
    have hx := xd_same sH hx0
    refine ⟨fun σ G => ∃ l1 : Addr, σ = [some (.ref e.1), some (.ref l1), none, none, none, none] ∧ G l1 = some (.lst [.bl false, .bl false, .bl false, .bl false, .bl false, .bl false, .bl false, .bl false, .bl false, .bl false, .bl false, .bl false]) ∧ Same H G, ?_, ?_⟩
    · refine ⟨_, rfl, _, rfl, _, .ref (c 9), false, rfl, rfl, fun u hu => hu, kn_NotAShelf, hx, _, rfl, _, .ref (c 10), false, rfl, rfl, fun u hu => hu, kn_InvalidRow, hx, _, rfl, _, .ref (c 11), false, rfl, rfl, fun u hu => hu, kn_InvalidViews, hx, by show 3 ≤ sizeLine; decide, fun o9 no9 => ?_⟩
      have so9 : Same K8 (upd K8 o9 (.lst [.bl false, .bl false, .bl false])) := same_new no9
      have eo9 : upd K8 o9 (.lst [.bl false, .bl false, .bl false]) o9 = some (.lst [.bl false, .bl false, .bl false]) := upd_same
      generalize upd K8 o9 (.lst [.bl false, .bl false, .bl false]) = K9 at so9 eo9
      clear no9
      have hx := xd_same so9 hx
      have sH := sH.trans so9
      replace ec8_1 := so9 _ _ ec8_1
      refine ⟨_, _, _, _, rfl, rfl, ec8_1, eo9, by show 9 + 3 ≤ sizeLine; decide, fun o10 no10 => ?_⟩
      have so10 : Same K9 (upd K9 o10 (.lst ([.bl false, .bl false, .bl false, .bl false, .bl false, .bl false, .bl false, .bl false, .bl false] ++ [.bl false, .bl false, .bl false]))) := same_new no10
      have eo10 : upd K9 o10 (.lst ([.bl false, .bl false, .bl false, .bl false, .bl false, .bl false, .bl false, .bl false, .bl false] ++ [.bl false, .bl false, .bl false])) o10 = some (.lst ([.bl false, .bl false, .bl false, .bl false, .bl false, .bl false, .bl false, .bl false, .bl false] ++ [.bl false, .bl false, .bl false])) := upd_same
      generalize upd K9 o10 (.lst ([.bl false, .bl false, .bl false, .bl false, .bl false, .bl false, .bl false, .bl false, .bl false] ++ [.bl false, .bl false, .bl false])) = K10 at so10 eo10
      clear no10
      have eo10 : K10 o10 = some (.lst [.bl false, .bl false, .bl false, .bl false, .bl false, .bl false, .bl false, .bl false, .bl false, .bl false, .bl false, .bl false]) := eo10
      have hx := xd_same so10 hx
      have sH := sH.trans so10
      exact ⟨_, rfl, eo10, sH⟩
    rintro _ K11 ⟨c11_1, rfl, ec11_1, sH⟩
    have hx := xd_same sH hx0
    refine ⟨fun σ G => ∃ l1 : Addr, σ = [some (.ref e.1), some (.ref l1), none, none, none, none] ∧ G l1 = some (.lst [.bl false, .bl false, .bl false, .bl false, .bl false, .bl false, .bl false, .bl false, .bl false, .bl false, .bl false, .bl false, .bl false, .bl false, .bl false]) ∧ Same H G, ?_, ?_⟩
    · refine ⟨_, rfl, _, rfl, _, .ref (c 12), false, rfl, rfl, fun u hu => hu, kn_InvalidTexts, hx, _, rfl, _, .ref (c 13), false, rfl, rfl, fun u hu => hu, kn_InvalidDeeds, hx, _, rfl, _, .ref (c 14), false, rfl, rfl, fun u hu => hu, kn_NothingToUndo, hx, by show 3 ≤ sizeLine; decide, fun o12 no12 => ?_⟩
      have so12 : Same K11 (upd K11 o12 (.lst [.bl false, .bl false, .bl false])) := same_new no12
      have eo12 : upd K11 o12 (.lst [.bl false, .bl false, .bl false]) o12 = some (.lst [.bl false, .bl false, .bl false]) := upd_same
      generalize upd K11 o12 (.lst [.bl false, .bl false, .bl false]) = K12 at so12 eo12
      clear no12
      have hx := xd_same so12 hx
      have sH := sH.trans so12
      replace ec11_1 := so12 _ _ ec11_1
      refine ⟨_, _, _, _, rfl, rfl, ec11_1, eo12, by show 12 + 3 ≤ sizeLine; decide, fun o13 no13 => ?_⟩
      have so13 : Same K12 (upd K12 o13 (.lst ([.bl false, .bl false, .bl false, .bl false, .bl false, .bl false, .bl false, .bl false, .bl false, .bl false, .bl false, .bl false] ++ [.bl false, .bl false, .bl false]))) := same_new no13
      have eo13 : upd K12 o13 (.lst ([.bl false, .bl false, .bl false, .bl false, .bl false, .bl false, .bl false, .bl false, .bl false, .bl false, .bl false, .bl false] ++ [.bl false, .bl false, .bl false])) o13 = some (.lst ([.bl false, .bl false, .bl false, .bl false, .bl false, .bl false, .bl false, .bl false, .bl false, .bl false, .bl false, .bl false] ++ [.bl false, .bl false, .bl false])) := upd_same
      generalize upd K12 o13 (.lst ([.bl false, .bl false, .bl false, .bl false, .bl false, .bl false, .bl false, .bl false, .bl false, .bl false, .bl false, .bl false] ++ [.bl false, .bl false, .bl false])) = K13 at so13 eo13
      clear no13
      have eo13 : K13 o13 = some (.lst [.bl false, .bl false, .bl false, .bl false, .bl false, .bl false, .bl false, .bl false, .bl false, .bl false, .bl false, .bl false, .bl false, .bl false, .bl false]) := eo13
      have hx := xd_same so13 hx
      have sH := sH.trans so13
      exact ⟨_, rfl, eo13, sH⟩
    rintro _ K14 ⟨c14_1, rfl, ec14_1, sH⟩
    have hx := xd_same sH hx0
    refine ⟨fun σ G => ∃ l1 : Addr, σ = [some (.ref e.1), some (.ref l1), none, none, none, none] ∧ G l1 = some (.lst [.bl false, .bl false, .bl false, .bl false, .bl false, .bl false, .bl false, .bl false, .bl false, .bl false, .bl false, .bl false, .bl false, .bl false, .bl false, .bl false, .bl true, .bl false]) ∧ Same H G, ?_, ?_⟩
    · refine ⟨_, rfl, _, rfl, _, .ref (c 15), false, rfl, rfl, fun u hu => hu, kn_Busy, hx, _, rfl, _, .ref (c 16), true, rfl, rfl, fun u hu => hu, kn_UnknownName, hx, _, rfl, _, .ref (c 17), false, rfl, rfl, fun u hu => hu, kn_TooMany, hx, by show 3 ≤ sizeLine; decide, fun o15 no15 => ?_⟩
      have so15 : Same K14 (upd K14 o15 (.lst [.bl false, .bl true, .bl false])) := same_new no15
      have eo15 : upd K14 o15 (.lst [.bl false, .bl true, .bl false]) o15 = some (.lst [.bl false, .bl true, .bl false]) := upd_same
      generalize upd K14 o15 (.lst [.bl false, .bl true, .bl false]) = K15 at so15 eo15
      clear no15
      have hx := xd_same so15 hx
      have sH := sH.trans so15
      replace ec14_1 := so15 _ _ ec14_1
      refine ⟨_, _, _, _, rfl, rfl, ec14_1, eo15, by show 15 + 3 ≤ sizeLine; decide, fun o16 no16 => ?_⟩
      have so16 : Same K15 (upd K15 o16 (.lst ([.bl false, .bl false, .bl false, .bl false, .bl false, .bl false, .bl false, .bl false, .bl false, .bl false, .bl false, .bl false, .bl false, .bl false, .bl false] ++ [.bl false, .bl true, .bl false]))) := same_new no16
      have eo16 : upd K15 o16 (.lst ([.bl false, .bl false, .bl false, .bl false, .bl false, .bl false, .bl false, .bl false, .bl false, .bl false, .bl false, .bl false, .bl false, .bl false, .bl false] ++ [.bl false, .bl true, .bl false])) o16 = some (.lst ([.bl false, .bl false, .bl false, .bl false, .bl false, .bl false, .bl false, .bl false, .bl false, .bl false, .bl false, .bl false, .bl false, .bl false, .bl false] ++ [.bl false, .bl true, .bl false])) := upd_same
      generalize upd K15 o16 (.lst ([.bl false, .bl false, .bl false, .bl false, .bl false, .bl false, .bl false, .bl false, .bl false, .bl false, .bl false, .bl false, .bl false, .bl false, .bl false] ++ [.bl false, .bl true, .bl false])) = K16 at so16 eo16
      clear no16
      have eo16 : K16 o16 = some (.lst [.bl false, .bl false, .bl false, .bl false, .bl false, .bl false, .bl false, .bl false, .bl false, .bl false, .bl false, .bl false, .bl false, .bl false, .bl false, .bl false, .bl true, .bl false]) := eo16
      have hx := xd_same so16 hx
      have sH := sH.trans so16
      exact ⟨_, rfl, eo16, sH⟩
    rintro _ K17 ⟨c17_1, rfl, ec17_1, sH⟩
    have hx := xd_same sH hx0
    refine ⟨fun σ G => ∃ l1 l2 : Addr, σ = [some (.ref e.1), some (.ref l1), some (.ref l2), none, none, none] ∧ G l1 = some (.lst [.bl false, .bl false, .bl false, .bl false, .bl false, .bl false, .bl false, .bl false, .bl false, .bl false, .bl false, .bl false, .bl false, .bl false, .bl false, .bl false, .bl true, .bl false]) ∧ G l2 = some (.lst [.bl false, .bl true, .bl false]) ∧ Same H G, ?_, ?_⟩
    · refine ⟨_, rfl, _, .ref (u 0), false, rfl, rfl, fun u hu => hu, kn_InputError, hx, _, rfl, _, .ref (u 1), true, rfl, rfl, fun u hu => hu, kn_StateError, hx, _, rfl, _, .ref (u 2), false, rfl, rfl, fun u hu => hu, kn_SizeError, hx, by show 3 ≤ sizeLine; decide, fun o18 no18 => ?_⟩
      have so18 : Same K17 (upd K17 o18 (.lst [.bl false, .bl true, .bl false])) := same_new no18
      have eo18 : upd K17 o18 (.lst [.bl false, .bl true, .bl false]) o18 = some (.lst [.bl false, .bl true, .bl false]) := upd_same
      generalize upd K17 o18 (.lst [.bl false, .bl true, .bl false]) = K18 at so18 eo18
      clear no18
      have hx := xd_same so18 hx
      have sH := sH.trans so18
      replace ec17_1 := so18 _ _ ec17_1
      exact ⟨_, _, rfl, ec17_1, eo18, sH⟩
    rintro _ K19 ⟨c19_1, c19_2, rfl, ec19_1, ec19_2, sH⟩
    have hx := xd_same sH hx0
    refine ⟨fun σ G => ∃ l1 l2 l3 : Addr, σ = [some (.ref e.1), some (.ref l1), some (.ref l2), some (.ref l3), none, none] ∧ G l1 = some (.lst [.bl false, .bl false, .bl false, .bl false, .bl false, .bl false, .bl false, .bl false, .bl false, .bl false, .bl false, .bl false, .bl false, .bl false, .bl false, .bl false, .bl true, .bl false]) ∧ G l2 = some (.lst [.bl false, .bl true, .bl false]) ∧ G l3 = some (.lst [.bl false, .bl true, .bl false]) ∧ Same H G, ?_, ?_⟩
    · refine ⟨_, rfl, _, .type "ValueError", false, rfl, rfl, fun u hu => hu, kn_ValueError, hx, _, rfl, _, .type "LookupError", true, rfl, rfl, fun u hu => hu, kn_LookupError, hx, _, rfl, _, .type "ArithmeticError", false, rfl, rfl, fun u hu => hu, kn_ArithmeticError, hx, by show 3 ≤ sizeLine; decide, fun o20 no20 => ?_⟩
      have so20 : Same K19 (upd K19 o20 (.lst [.bl false, .bl true, .bl false])) := same_new no20
      have eo20 : upd K19 o20 (.lst [.bl false, .bl true, .bl false]) o20 = some (.lst [.bl false, .bl true, .bl false]) := upd_same
      generalize upd K19 o20 (.lst [.bl false, .bl true, .bl false]) = K20 at so20 eo20
      clear no20
      have hx := xd_same so20 hx
      have sH := sH.trans so20
      replace ec19_1 := so20 _ _ ec19_1
      replace ec19_2 := so20 _ _ ec19_2
      exact ⟨_, _, _, rfl, ec19_1, ec19_2, eo20, sH⟩
    rintro _ K21 ⟨c21_1, c21_2, c21_3, rfl, ec21_1, ec21_2, ec21_3, sH⟩
    have hx := xd_same sH hx0
    refine ⟨_, rfl, .inl ⟨rfl, _, .inl (.inl ec21_1)⟩, c21_1, _, _, rfl, rfl, .inl (.inl ec21_1), rfl, rfl, rfl, _, rfl, iteBF (by decide +kernel) ?_⟩
    refine ⟨_, rfl, _, rfl, (.list [.bool false, .bool true, .bool false]), (.list [.bool false, .bool true, .bool false]), (.lst (.inl (.inl ec21_2)) (.cons (.bl _) (.cons (.bl _) (.cons (.bl _) .nil)))), (.lst (.inl (.inl ec21_3)) (.cons (.bl _) (.cons (.bl _) (.cons (.bl _) .nil)))), by decide +kernel, by decide +kernel, _, rfl, iteBF (by decide +kernel) ?_⟩
    refine ⟨fun σ G => σ = [some (.ref e.1), some (.ref c21_1), some (.ref c21_2), some (.ref c21_3), some (.int ((16 : Nat) : Int)), none] ∧ G = K21, ?_, ?_⟩
    · refine ⟨_, rfl, .inl ⟨rfl, _, .inl (.inl ec21_1)⟩, c21_1, _, _, 16, .bl true, rfl, rfl, .inl (.inl ec21_1), rfl, rfl, rfl, rfl, fun m z hm hz => ?_, rfl, rfl⟩
      match m, hm, hz with
      | 0, _, hz => cases hz; rfl
      | 1, _, hz => cases hz; rfl
      | 2, _, hz => cases hz; rfl
      | 3, _, hz => cases hz; rfl
      | 4, _, hz => cases hz; rfl
      | 5, _, hz => cases hz; rfl
      | 6, _, hz => cases hz; rfl
      | 7, _, hz => cases hz; rfl
      | 8, _, hz => cases hz; rfl
      | 9, _, hz => cases hz; rfl
      | 10, _, hz => cases hz; rfl
      | 11, _, hz => cases hz; rfl
      | 12, _, hz => cases hz; rfl
      | 13, _, hz => cases hz; rfl
      | 14, _, hz => cases hz; rfl
      | 15, _, hz => cases hz; rfl
      | n + 16, hm, _ => exact absurd hm (by omega)
    rintro _ G22 ⟨rfl, rfl⟩
    refine ⟨_, rfl, _, rfl, _, _, rfl, rfl, _, rfl, _, _, rfl, rfl, _, rfl, ?_⟩
    refine iteB (by decide) ?_
    refine ⟨_, _, rfl, rfl, _, rfl, rfl, by show 3 ≤ sizeLine; decide, fun o23 no23 => ?_⟩
    have so23 : Same G22 (upd G22 o23 (.lst [.bl (decide (((16 : Nat) : Int) < 14)), .bl (decide (((16 : Nat) : Int) < 17)), .bl (decide ((V.int ((16 : Nat) : Int)) = V.int 17))])) := same_new no23
    have eo23 : upd G22 o23 (.lst [.bl (decide (((16 : Nat) : Int) < 14)), .bl (decide (((16 : Nat) : Int) < 17)), .bl (decide ((V.int ((16 : Nat) : Int)) = V.int 17))]) o23 = some (.lst [.bl (decide (((16 : Nat) : Int) < 14)), .bl (decide (((16 : Nat) : Int) < 17)), .bl (decide ((V.int ((16 : Nat) : Int)) = V.int 17))]) := upd_same
    generalize upd G22 o23 (.lst [.bl (decide (((16 : Nat) : Int) < 14)), .bl (decide (((16 : Nat) : Int) < 17)), .bl (decide ((V.int ((16 : Nat) : Int)) = V.int 17))]) = K23 at so23 eo23
    clear no23
    rw [show decide (((16 : Nat) : Int) < 14) = false by decide] at eo23
    rw [show decide (((16 : Nat) : Int) < 17) = true by decide] at eo23
    rw [show decide ((V.int ((16 : Nat) : Int)) = V.int 17) = false by decide] at eo23
    have hx := xd_same so23 hx
    have sH := sH.trans so23
    replace ec21_2 := so23 _ _ ec21_2
    refine ⟨(.list [.bool false, .bool true, .bool false]), (.list [.bool false, .bool true, .bool false]), (.lst (.inl (.inl ec21_2)) (.cons (.bl _) (.cons (.bl _) (.cons (.bl _) .nil)))), (.lst (.inl (.inl eo23)) (.cons (.bl _) (.cons (.bl _) (.cons (.bl _) .nil)))), by decide +kernel, by decide +kernel, _, rfl, iteBF (by decide +kernel) ?_⟩
    refine ⟨fun σ G => ∃ l1 l2 l3 l5 : Addr, σ = [some (.ref e.1), some (.ref l1), some (.ref l2), some (.ref l3), some (.int ((16 : Nat) : Int)), some (.ref l5)] ∧ G l1 = some (.lst [.bl false, .bl false, .bl false, .bl false, .bl false, .bl false, .bl false, .bl false, .bl false, .bl false, .bl false, .bl false, .bl false, .bl false, .bl false, .bl false, .bl true, .bl false]) ∧ G l2 = some (.lst [.bl false, .bl true, .bl false]) ∧ G l3 = some (.lst [.bl false, .bl true, .bl false]) ∧ G l5 = some (.lst [.str "number", .str "mark", .str "text", .str "length", .str "rule", .str "width", .str "place", .str "line", .str "namer", .str "shelf", .str "row", .str "views"]) ∧ Same H G, ?_, ?_⟩
    · refine ⟨by show 12 ≤ sizeLine; decide, fun o24 no24 => ?_⟩
      have so24 : Same K23 (upd K23 o24 (.lst [.str "number", .str "mark", .str "text", .str "length", .str "rule", .str "width", .str "place", .str "line", .str "namer", .str "shelf", .str "row", .str "views"])) := same_new no24
      have eo24 : upd K23 o24 (.lst [.str "number", .str "mark", .str "text", .str "length", .str "rule", .str "width", .str "place", .str "line", .str "namer", .str "shelf", .str "row", .str "views"]) o24 = some (.lst [.str "number", .str "mark", .str "text", .str "length", .str "rule", .str "width", .str "place", .str "line", .str "namer", .str "shelf", .str "row", .str "views"]) := upd_same
      generalize upd K23 o24 (.lst [.str "number", .str "mark", .str "text", .str "length", .str "rule", .str "width", .str "place", .str "line", .str "namer", .str "shelf", .str "row", .str "views"]) = K24 at so24 eo24
      clear no24
      have hx := xd_same so24 hx
      have sH := sH.trans so24
      replace ec21_1 := so23 _ _ ec21_1
      replace ec21_1 := so24 _ _ ec21_1
      replace ec21_2 := so24 _ _ ec21_2
      replace ec21_3 := so23 _ _ ec21_3
      replace ec21_3 := so24 _ _ ec21_3
      exact ⟨_, _, _, _, rfl, ec21_1, ec21_2, ec21_3, eo24, sH⟩
    rintro _ K25 ⟨c25_1, c25_2, c25_3, c25_5, rfl, ec25_1, ec25_2, ec25_3, ec25_5, sH⟩
    have hx := xd_same sH hx0
    refine ⟨fun σ G => ∃ l1 l2 l3 l5 : Addr, σ = [some (.ref e.1), some (.ref l1), some (.ref l2), some (.ref l3), some (.int ((16 : Nat) : Int)), some (.ref l5)] ∧ G l1 = some (.lst [.bl false, .bl false, .bl false, .bl false, .bl false, .bl false, .bl false, .bl false, .bl false, .bl false, .bl false, .bl false, .bl false, .bl false, .bl false, .bl false, .bl true, .bl false]) ∧ G l2 = some (.lst [.bl false, .bl true, .bl false]) ∧ G l3 = some (.lst [.bl false, .bl true, .bl false]) ∧ G l5 = some (.lst [.str "number", .str "mark", .str "text", .str "length", .str "rule", .str "width", .str "place", .str "line", .str "namer", .str "shelf", .str "row", .str "views", .str "texts", .str "deeds", .str "nothing", .str "busy", .str "unknown", .str "many"]) ∧ Same H G, ?_, ?_⟩
    · refine ⟨_, rfl, by show 6 ≤ sizeLine; decide, fun o26 no26 => ?_⟩
      have so26 : Same K25 (upd K25 o26 (.lst [.str "texts", .str "deeds", .str "nothing", .str "busy", .str "unknown", .str "many"])) := same_new no26
      have eo26 : upd K25 o26 (.lst [.str "texts", .str "deeds", .str "nothing", .str "busy", .str "unknown", .str "many"]) o26 = some (.lst [.str "texts", .str "deeds", .str "nothing", .str "busy", .str "unknown", .str "many"]) := upd_same
      generalize upd K25 o26 (.lst [.str "texts", .str "deeds", .str "nothing", .str "busy", .str "unknown", .str "many"]) = K26 at so26 eo26
      clear no26
      have hx := xd_same so26 hx
      have sH := sH.trans so26
      replace ec25_5 := so26 _ _ ec25_5
      refine ⟨_, _, _, _, rfl, rfl, ec25_5, eo26, by show 12 + 6 ≤ sizeLine; decide, fun o27 no27 => ?_⟩
      have so27 : Same K26 (upd K26 o27 (.lst ([.str "number", .str "mark", .str "text", .str "length", .str "rule", .str "width", .str "place", .str "line", .str "namer", .str "shelf", .str "row", .str "views"] ++ [.str "texts", .str "deeds", .str "nothing", .str "busy", .str "unknown", .str "many"]))) := same_new no27
      have eo27 : upd K26 o27 (.lst ([.str "number", .str "mark", .str "text", .str "length", .str "rule", .str "width", .str "place", .str "line", .str "namer", .str "shelf", .str "row", .str "views"] ++ [.str "texts", .str "deeds", .str "nothing", .str "busy", .str "unknown", .str "many"])) o27 = some (.lst ([.str "number", .str "mark", .str "text", .str "length", .str "rule", .str "width", .str "place", .str "line", .str "namer", .str "shelf", .str "row", .str "views"] ++ [.str "texts", .str "deeds", .str "nothing", .str "busy", .str "unknown", .str "many"])) := upd_same
      generalize upd K26 o27 (.lst ([.str "number", .str "mark", .str "text", .str "length", .str "rule", .str "width", .str "place", .str "line", .str "namer", .str "shelf", .str "row", .str "views"] ++ [.str "texts", .str "deeds", .str "nothing", .str "busy", .str "unknown", .str "many"])) = K27 at so27 eo27
      clear no27
      have eo27 : K27 o27 = some (.lst [.str "number", .str "mark", .str "text", .str "length", .str "rule", .str "width", .str "place", .str "line", .str "namer", .str "shelf", .str "row", .str "views", .str "texts", .str "deeds", .str "nothing", .str "busy", .str "unknown", .str "many"]) := eo27
      have hx := xd_same so27 hx
      have sH := sH.trans so27
      replace ec25_1 := so26 _ _ ec25_1
      replace ec25_1 := so27 _ _ ec25_1
      replace ec25_2 := so26 _ _ ec25_2
      replace ec25_2 := so27 _ _ ec25_2
      replace ec25_3 := so26 _ _ ec25_3
      replace ec25_3 := so27 _ _ ec25_3
      exact ⟨_, _, _, _, rfl, ec25_1, ec25_2, ec25_3, eo27, sH⟩
    rintro _ K28 ⟨c28_1, c28_2, c28_3, c28_5, rfl, ec28_1, ec28_2, ec28_3, ec28_5, sH⟩
    have hx := xd_same sH hx0
    refine ⟨_, rfl, by show 2 ≤ sizeLine; decide, fun o29 no29 => ?_⟩
    have so29 : Same K28 (upd K28 o29 (.lst [.int 14, .int 15])) := same_new no29
    have eo29 : upd K28 o29 (.lst [.int 14, .int 15]) o29 = some (.lst [.int 14, .int 15]) := upd_same
    generalize upd K28 o29 (.lst [.int 14, .int 15]) = K29 at so29 eo29
    clear no29
    have hx := xd_same so29 hx
    have sH := sH.trans so29
    refine ⟨o29, _, rfl, .inl (.inl (.inl eo29)), rfl, rfl, _, rfl, iteBF (by decide +kernel) ?_⟩
    replace ec28_5 := so29 _ _ ec28_5
    refine ⟨_, rfl, rfl, _, rfl, iteBF (by decide +kernel) ?_⟩
    have hd := sH _ _ hd
    refine ⟨fun y G => (∃ p, y = .ref p ∧ G p = some (.tup [.str "unknown", v])) ∧ Same H G, ?_, ?_⟩
    · refine ⟨_, rfl, _, _, rfl, rfl, _, rfl, ?_⟩
      refine iteB (by decide) ?_
      refine ⟨_, _, rfl, rfl, _, rfl, iteBF (by decide) ?_⟩
      refine ⟨_, rfl, _, rfl, c28_5, _, _, _, rfl, rfl, .inl (.inl ec28_5), atI_nat (j := 16) rfl, _, rfl, rfl, rfl, dd, _, v, ed, hd, rfl, by show 2 ≤ sizeLine; decide, fun o30 no30 => ?_⟩
      have so30 : Same K29 (upd K29 o30 (.tup [.str "unknown", v])) := same_new no30
      have eo30 : upd K29 o30 (.tup [.str "unknown", v]) o30 = some (.tup [.str "unknown", v]) := upd_same
      generalize upd K29 o30 (.tup [.str "unknown", v]) = K30 at so30 eo30
      clear no30
      have hx := xd_same so30 hx
      have sH := sH.trans so30
      exact ⟨⟨o30, rfl, eo30⟩, sH⟩
    · rintro _ G ⟨⟨q, rfl, eq⟩, sG⟩
      exact k q G sG eq
end
end Gu
namespace Gu
open PySem PySem.Spec PyProof.Rows L2
/-! ### texts of the laws about names -/
def abc : Str := ".0123456789abcdefghijklmnopqrstuvwxyz~"
/-- at most n signs -/
structure Wd (n : Nat) (y : Str) : Prop where
  len : y.cps.toList.length ≤ n
  sgn : ∀ c ∈ y.cps.toList, c ∈ abc.cps.toList
theorem Wd.mono {n m : Nat} {y : Str} (h : Wd n y) (k : n ≤ m) : Wd m y := ⟨Nat.le_trans h.len k, h.sgn⟩
theorem str_app (a b : Str) : (a ++ b).cps.toList = a.cps.toList ++ b.cps.toList := by
  show (a.cps ++ b.cps).toList = _
  rw [Array.toList_append]
theorem Wd.app {n m k : Nat} {y z : Str} (a : Wd n y) (b : Wd m z) (h : n + m ≤ k) : Wd k (y ++ z) := by
  have h1 := a.len
  have h2 := b.len
  refine ⟨?_, fun c hc => ?_⟩
  · rw [str_app, List.length_append]
    omega
  · rw [str_app] at hc
    rcases List.mem_append.mp hc with hc | hc
    · exact a.sgn c hc
    · exact b.sgn c hc
theorem Wd.cut {n : Nat} {y : Str} (a : Wd n y) (lo hi : Option Int) : Wd n (cutS y lo hi) :=
  ⟨Nat.le_trans (cutS_length y lo hi) a.len, fun c hc => a.sgn c (List.mem_of_mem_drop (List.mem_of_mem_take hc))⟩
theorem cutS_head (y : Str) {h : Int} (h0 : 0 ≤ h) : (cutS y none (some h)).cps.toList = y.cps.toList.take h.toNat := by
  obtain ⟨k, rfl⟩ := Int.eq_ofNat_of_zero_le h0
  unfold cutS
  rw [HT.sIx_none, HT.sIx_nat, List.drop_zero, Nat.sub_zero, Int.toNat_natCast]
  show y.cps.toList.take (min k y.cps.toList.length) = _
  rw [List.take_eq_take_iff]
  omega
theorem wd_head {y : Str} (a : ∀ c ∈ y.cps.toList, c ∈ abc.cps.toList) {h : Int} (h0 : 0 ≤ h) {m : Nat} (hm : h ≤ m) : Wd m (cutS y none (some h)) := by
  refine ⟨?_, fun c hc => ?_⟩
  · rw [cutS_head y h0, List.length_take]
    omega
  · rw [cutS_head y h0] at hc
    exact a c (List.mem_of_mem_take hc)
theorem wd_lit {z : Str} {n : Nat} (h : decide (z.cps.toList.length ≤ n ∧ ∀ c ∈ z.cps.toList, c ∈ abc.cps.toList) = true) : Wd n z := ⟨(of_decide_eq_true h).1, (of_decide_eq_true h).2⟩
theorem wd_digit {i : Int} (h0 : 0 ≤ i) (h1 : i < 10) : Wd 1 (toString i : String) := by
  obtain ⟨k, rfl⟩ := Int.eq_ofNat_of_zero_le h0
  have a : ∀ k ∈ List.range 10, ((toString (Int.ofNat k) : String) : Str).cps.toList.length ≤ 1 ∧ ∀ c ∈ ((toString (Int.ofNat k) : String) : Str).cps.toList, c ∈ abc.cps.toList := by decide +kernel
  have b := a k (List.mem_range.mpr (by omega))
  exact ⟨b.1, b.2⟩
theorem log_small {i : Int} (h0 : 0 ≤ i) (h1 : i < 1000) : i.natAbs.log2 < 1920 := by
  by_cases e : i.natAbs = 0
  · rw [e]
    decide
  · exact (Nat.log2_lt e).mpr (Nat.lt_of_lt_of_le (by omega : i.natAbs < 2 ^ 10) (Nat.pow_le_pow_right (by decide) (by decide)))
theorem Pot.off {H : Hp} {p q : Addr} (h : Pot H p) (n : H q = none) : q ≠ p := fun e => by
  subst e
  obtain ⟨o, ho⟩ := h.some
  rw [n] at ho
  cases ho
theorem yesT {σ : L2.St} {H : Hp} {Q : Bool → Hp → Prop} (h : Q true H) : tYes σ H Q := h
/-! single signs -/
def sg (c : Nat) : Str := ⟨#[c]⟩
theorem join_sgs : ∀ cs : List Nat, (Str.join ⟨#[]⟩ (cs.map sg)).cps.toList = cs
  | [] => rfl
  | c :: r => by
    rw [List.map_cons, join_nil_cons, str_app, join_sgs r]
    rfl
theorem tjoin_sgs (cs : List Nat) : (Txt.join "" (cs.map sg)).cps.toList = cs := by
  have e : (("" : String) : Str) = ⟨#[]⟩ := by decide +kernel
  show (Builtin.Str.glued _ _).cps.toList = cs
  rw [e, StrLaws.glued_eq_join]
  exact join_sgs cs
theorem sgs_len (cs : List Nat) : ((cs.map sg).map (·.length)).sum = cs.length := by
  induction cs with
  | nil => rfl
  | cons c r ih =>
    rw [List.map_cons, List.map_cons, List.sum_cons, ih]
    show 1 + r.length = r.length + 1
    omega
/-! text * int -/
def rRepS : R2 := fun x y H Q => ∃ z k, x = .str z ∧ y = .int k ∧ 2 ≤ k ∧ k ≤ 1000 ∧ 0 < z.length ∧ z.length ≤ 1000 ∧ ∀ y : Str, y.cps.toList = (List.replicate k.toNat z.cps.toList).flatten → Q (.str y) H
theorem fold_rep (z : Array Nat) : ∀ (k : Nat) (acc : Array Nat), ((List.replicate k z).foldl (· ++ ·) acc).toList = acc.toList ++ (List.replicate k z.toList).flatten
  | 0, acc => by simp
  | k + 1, acc => by
    rw [List.replicate_succ, List.foldl_cons, fold_rep z k, List.replicate_succ, List.flatten_cons, Array.toList_append, List.append_assoc]
theorem op_mul_str {X : Cx} : OpR X (binaryOp .Mult) rRepS := by
  intro pins s σ H x y v u Q I rx ry h
  obtain ⟨z, k, rfl, rfl, k0, k1, z0, z1, q⟩ := h
  obtain ⟨t, rfl⟩ := rx
  obtain ⟨t', rfl⟩ := ry
  have n1 : ¬ k < 1 := by omega
  have n2 : (k == 1 || z.length == 0) = false := by
    rw [Bool.or_eq_false_iff]
    exact ⟨beq_eq_false_iff_ne.mpr (by omega), beq_eq_false_iff_ne.mpr (by omega)⟩
  have m1 : (z.length : Int) * k ≤ 1000 * 1000 := Int.mul_le_mul (by omega) k1 (by omega) (by omega)
  have m2 : z.length * k.toNat ≤ 1000 * 1000 := Nat.mul_le_mul z1 (by omega)
  refine PySem.P.mul_str ?_ (fun _ _ => Int.not_lt.mpr ((Int.le_ediv_iff_mul_le (by omega)).mpr (by omega))) (fun _ _ => decide_eq_false (by rw [sizeLine_eq]; omega)) ?_
  · rw [Bool.or_eq_false_iff]
    exact ⟨decide_eq_false (by omega), decide_eq_false (by omega)⟩
  · rw [if_neg n1, n2, if_neg Bool.false_ne_true]
    have e : ((List.replicate k.toNat z.cps).foldl (· ++ ·) #[]).toList = (List.replicate k.toNat z.cps.toList).flatten := by
      rw [fold_rep]
      rfl
    refine ⟨?_, .str ⟨(List.replicate k.toNat z.cps).foldl (· ++ ·) #[]⟩, H, I.tok _, ⟨_, rfl⟩, q _ e⟩
    show ((List.replicate k.toNat z.cps).foldl (· ++ ·) #[]).size ≤ _
    rw [← Array.length_toList, e, PyProof.Rows.lm_len_rep_flat]
    show k.toNat * z.length ≤ sizeLine
    rw [Nat.mul_comm, sizeLine_eq]
    omega
end Gu
namespace Gu
open PySem PySem.Spec PyProof.Rows L2
theorem Pot.ne {H : Hp} {p q : Addr} (h : Pot H p) (n : H q = none) : q ≠ p := h.off n
end Gu
namespace Gu
open PySem PySem.Spec PyProof.Rows L2
section
variable {P : Program} {w : World} {K : PySem.W.Frag} {mg : Str → Option Value} {base : Heap}
/-! ### _law_stem -/
def spStem : Sp := fun vs H Q _ => ∃ (p : Addr) (m : Int), vs = [.ref p, .int m] ∧ Pot H p ∧ 0 < m ∧ m < 100 ∧ ∀ (y : Str) (G : Hp), Ladled p H G → 0 < y.cps.toList.length → Wd m.toNat y → Q (.str y) G
theorem cal_stem (B : Bi mg) (D : At K mg "_law_stem" s_law_stem ps_law_stem) (C_law_draw : Cal P w K mg base 1 "_law_draw" ps_law_draw spLadle) : Cal P w K mg base 2 "_law_stem" ps_law_stem spStem := by
  refine D.cal sc_law_stem (fun vs H Q E h => ?_) (fun f cdv A outer s H vs Q E hr h => ?_)
  · obtain ⟨p, m, rfl, _⟩ := h
    rfl
  · obtain ⟨p, m, rfl, hp, m0, m1, k⟩ := h
    refine ⟨_, (pss_cons (ps_set (i := 2) sc_law_stem.nd rfl (.inr rfl) pe_str)
      (pss_one (ps_ret (pe_join pe_str (pe_lc (own := [("_law_k", 3)]) (by rfl) sc_law_stem.nd (pi_range1 (by rfl) B.range (pa_cons (pe_op op_add pe_int (pe_own C_law_draw hr (by decide) (by rfl) (pa_cons (pv 0) (pa_cons (pv 1) pa_nil)))) pa_nil)) (blkOk_by (own := [("_law_k", 3)]) (N := ["_law_source_here", "_law_size", "_law_abc", "_law_k"]) (sc := defScope s_law_stem) (by decide +kernel)) (fun _ _ _ _ _ => pg_name (i := 3) sc_law_stem.nd rfl (.inl rfl)) (fun _ _ _ _ _ => pts_nil) (fun _ _ _ _ _ => (pe_ix ix_str (pv 2) (pe_own C_law_draw hr (by decide) (by rfl) (pa_cons (pv 0) (pa_cons pe_int pa_nil))) (fun _ _ => rfl)))))))), ?_⟩
    refine ⟨⟨_, rfl⟩, _, rfl, _, rfl, p, m, rfl, hp, m0, by omega, fun d G1 d0 d1 L1 => ?_⟩
    refine ⟨_, _, rfl, rfl, _, rfl, by omega, by omega, fun M nM => lc_range (lo := 0) (n := (1 + d).toNat) (fun i J => ∃ cs : List Nat, cs.length = i ∧ (∀ c ∈ cs, c ∈ abc.cps.toList) ∧ J M = some (.lst ((cs.map sg).map V.str)) ∧ Ladled p H J)
      ⟨[], rfl, (fun c hc => by cases hc), upd_same, L1.mut (L1.free nM) (L1.pot.off nM)⟩ ?_ ?_⟩
    · rintro i J hi ⟨cs, rfl, hc, eM, L⟩
      have hM : H M = none := L1.free nM
      refine ⟨rfl, yesT (iteT ⟨_, rfl, _, rfl, p, 38, rfl, L.pot, by decide, by decide, fun c G c0 c1 L2 => ?_⟩)⟩
      obtain ⟨v, hv, ha⟩ := at_in (xs := abc.cps.toList) c0 c1
      have gM := L2.keep _ _ eM (hp.off hM)
      refine ⟨abc, c, v, rfl, rfl, by decide +kernel, ha, _, gM, small1000 (by rw [List.length_map, List.length_map]; omega), cs ++ [v], by rw [List.length_append]; rfl, fun x hx => ?_, ?_, (L.trans L2).mut hM (hp.off hM)⟩
      · rcases List.mem_append.mp hx with hx | hx
        · exact hc x hx
        · rw [List.mem_singleton.mp hx]
          exact hv
      · rw [upd_same, List.map_append, List.map_append]
        rfl
    · rintro J ⟨cs, el, hc, eM, L⟩
      refine ⟨_, M, _, rfl, rfl, .inl (.inl (.inl eM)), ?_, k _ J L ?_ ⟨?_, ?_⟩⟩
      · rw [sgs_len, List.length_map]
        have e0 : (("" : String) : Str).length = 0 := by decide +kernel
        rw [e0]
        omega
      · rw [tjoin_sgs]
        omega
      · rw [tjoin_sgs]
        omega
      · rw [tjoin_sgs]
        exact hc
end
end Gu
namespace Gu
open PySem PySem.Spec PyProof.Rows L2
/-! ### _law_numbered -/
def ending (n : Int) : Str := (("~" : String) : Str) ++ ((toString n : String) : Str)
def nbase (w : Int) (t : Str) : Str := cutS t none (some w)
def numbered (so : Str) (w : Int) (t : Str) (n : Int) : Str :=
  if decide (so = ("tight" : String)) && decide (w < ((nbase w t).length : Int) + ((ending n).length : Int)) then cutS (nbase w t) none (some (w - (ending n).length)) ++ ending n else nbase w t ++ ending n
theorem ending_len {n : Int} (h0 : 0 ≤ n) (h1 : n < 10) : (ending n).length ≤ 2 := by
  have a := (wd_digit h0 h1).len
  have e : (ending n).length = 1 + ((toString n : String) : Str).length := by
    show (ending n).cps.toList.length = _
    unfold ending
    rw [str_app, List.length_append]
    rfl
  rw [e]
  show 1 + ((toString n : String) : Str).cps.toList.length ≤ 2
  omega
theorem str_eq_iff {a b : Str} : decide (V.str a = V.str b) = decide (a = b) := by
  by_cases e : a = b
  · rw [decide_eq_true e, decide_eq_true (by rw [e])]
  · rw [decide_eq_false e, decide_eq_false (fun h => e (V.str.inj h))]
end Gu
namespace Gu
open PySem PySem.Spec PyProof.Rows L2
/-! ### names, as the laws tell them -/
/-- the first of f a, f (a + 1), .. that is not taken, f (a + k) at the latest -/
def seek (f : Nat → Str) (ys : List Str) : Nat → Nat → Str
  | 0, a => f a
  | k + 1, a => if f a ∈ ys then seek f ys k (a + 1) else f a
theorem seek_at {f : Nat → Str} {ys : List Str} : ∀ (d k a : Nat), d ≤ k → (∀ j, j < d → f (a + j) ∈ ys) → f (a + d) ∉ ys → seek f ys k a = f (a + d)
  | 0, 0, a, _, _, _ => rfl
  | 0, k + 1, a, _, _, n => by
    unfold seek
    rw [if_neg (show f a ∉ ys from n)]
    rfl
  | d + 1, 0, _, h, _, _ => absurd h (by omega)
  | d + 1, k + 1, a, h, t, n => by
    unfold seek
    rw [if_pos (show f a ∈ ys from t 0 (by omega)), seek_at d k (a + 1) (by omega) (fun j hj => by
      have := t (j + 1) (by omega)
      rw [show a + 1 + j = a + (j + 1) by omega]
      exact this) (by
      rw [show a + 1 + d = a + (d + 1) by omega]
      exact n), show a + 1 + d = a + (d + 1) by omega]
theorem fewer : ∀ (xs ys : List Str), xs.Nodup → (∀ x ∈ xs, x ∈ ys) → xs.length ≤ ys.length
  | [], _, _, _ => Nat.zero_le _
  | x :: xs, ys, hn, h => by
    have hx := h x (List.mem_cons_self ..)
    have hc := List.nodup_cons.mp hn
    have ne : ∀ y ∈ xs, y ≠ x := fun y hy e => by
      subst e
      exact hc.1 hy
    have := fewer xs (ys.erase x) hc.2 fun y hy => (List.mem_erase_of_ne (ne y hy)).mpr (h y (List.mem_cons_of_mem _ hy))
    rw [List.length_erase_of_mem hx] at this
    have := List.length_pos_of_mem hx
    rw [List.length_cons]
    omega
def cand (so : Str) (w : Int) (t : Str) (i : Nat) : Str := numbered so w t (2 + (i : Int))
theorem last_of (a : Str) {n : Int} (h0 : 0 ≤ n) (h1 : n < 10) : (a ++ ending n).cps.toList.getLast? = some (48 + n.toNat) := by
  obtain ⟨k, rfl⟩ := Int.eq_ofNat_of_zero_le h0
  have e : ∀ k ∈ List.range 10, (ending (Int.ofNat k)).cps.toList.getLast? = some (48 + k) := by decide +kernel
  have b := e k (List.mem_range.mpr (by omega))
  rw [str_app, List.getLast?_append, show (Int.toNat ((k : Nat) : Int)) = k from rfl, show (ending ((k : Nat) : Int)).cps.toList.getLast? = some (48 + k) from b]
  rfl
theorem cand_last (so : Str) (w : Int) (t : Str) {i : Nat} (h : i < 8) : (cand so w t i).cps.toList.getLast? = some (50 + i) := by
  have e : 48 + (2 + (i : Int)).toNat = 50 + i := by omega
  unfold cand numbered
  split
  · rw [last_of _ (by omega) (by omega), e]
  · rw [last_of _ (by omega) (by omega), e]
theorem cands_nodup (so : Str) (w : Int) (t : Str) : ∀ n, n ≤ 8 → ((List.range n).map (cand so w t)).Nodup
  | 0, _ => List.nodup_nil
  | n + 1, h => by
    rw [List.range_succ, List.map_append]
    refine List.nodup_append.mpr ⟨cands_nodup so w t n (by omega), List.nodup_cons.mpr ⟨List.not_mem_nil, List.nodup_nil⟩, fun x hx y hy e => ?_⟩
    obtain ⟨i, hi, rfl⟩ := List.mem_map.mp hx
    have hi := List.mem_range.mp hi
    rw [List.mem_singleton.mp hy] at e
    have a := cand_last so w t (i := i) (by omega)
    rw [e, cand_last so w t (i := n) (by omega)] at a
    have := Option.some.inj a
    omega
/-- not all of them are taken -/
theorem some_free {so : Str} {w : Int} {t : Str} {ys : List Str} (h : ys.length ≤ 6) (a : ∀ j, j < ys.length + 1 → cand so w t j ∈ ys) : False := by
  have := fewer _ ys (cands_nodup so w t (ys.length + 1) (by omega)) fun x hx => by
    obtain ⟨i, hi, rfl⟩ := List.mem_map.mp hx
    exact a i (List.mem_range.mp hi)
  rw [List.length_map, List.length_range] at this
  omega
def mates (w : Int) (t : Str) (ps : List (Str × Str)) : List (Str × Str) := ps.filter fun q => decide (nbase w q.1 = nbase w t)
def nameOf (so : Str) (w : Int) (t : Str) (ps : List (Str × Str)) : Str :=
  if so = ("count" : String) then (if (mates w t ps).length = 0 then nbase w t else numbered so w t (((mates w t ps).length : Int) + 1))
  else if nbase w t ∈ ps.map (·.2) then seek (cand so w t) (ps.map (·.2)) (ps.map (·.2)).length 0 else nbase w t
theorem wd_base {n : Nat} {t : Str} (h : Wd n t) (w : Int) : Wd n (nbase w t) := h.cut _ _
theorem wd_numbered {n : Nat} {t : Str} {so : Str} {w k : Int} (h : Wd n t) (h0 : 0 ≤ k) (h1 : k < 10) : Wd (n + 2) (numbered so w t k) := by
  have a : Wd 2 (ending k) := (wd_lit (z := ("~" : String)) (n := 1) (by decide +kernel)).app (wd_digit h0 h1) (by decide)
  unfold numbered
  split
  · exact ((wd_base h w).cut _ _).app a (Nat.le_refl _)
  · exact (wd_base h w).app a (Nat.le_refl _)
theorem wd_seek {n : Nat} {so : Str} {w : Int} {t : Str} {ys : List Str} (h : Wd n t) : ∀ (k a : Nat), a + k < 8 → Wd (n + 2) (seek (cand so w t) ys k a)
  | 0, a, l => wd_numbered h (by omega) (by omega)
  | k + 1, a, l => by
    unfold seek
    split
    · exact wd_seek h k (a + 1) (by omega)
    · exact wd_numbered h (by omega) (by omega)
theorem wd_name {n : Nat} {so : Str} {w : Int} {t : Str} {ps : List (Str × Str)} (h : Wd n t) (l : ps.length ≤ 6) : Wd (n + 2) (nameOf so w t ps) := by
  have m : (mates w t ps).length ≤ ps.length := List.length_filter_le ..
  unfold nameOf
  split
  · split
    · exact (wd_base h w).mono (by omega)
    · exact wd_numbered h (by omega) (by omega)
  · split
    · exact wd_seek h _ _ (by rw [List.length_map]; omega)
    · exact (wd_base h w).mono (by omega)
/-! lists that == looks into -/
theorem shaped_of {ds : List PyData} (h : ∀ d ∈ ds, d.canLay0 = true ∧ d.depth ≤ 10) : SeqAt.shaped (.list ds) = true := by
  have a : ∀ ds : List PyData, (∀ d ∈ ds, d.canLay0 = true ∧ d.depth ≤ 10) → PyData.canLayAll0 ds = true ∧ PyData.depthAll ds ≤ 10 := by
    intro ds
    induction ds with
    | nil => exact fun _ => ⟨rfl, Nat.zero_le _⟩
    | cons d ds ih =>
      intro h
      have b := ih fun e he => h e (List.mem_cons_of_mem _ he)
      have c := h d (List.mem_cons_self ..)
      refine ⟨?_, Nat.max_le.mpr ⟨c.2, b.2⟩⟩
      show (d.canLay0 && PyData.canLayAll0 ds) = true
      rw [c.1, b.1]
      rfl
  have b := a ds h
  unfold SeqAt.shaped
  rw [Bool.and_eq_true]
  refine ⟨b.1, decide_eq_true ?_⟩
  show PyData.depthAll ds + 1 ≤ 64
  omega
theorem wd_lay {n : Nat} {y : Str} (h : Wd n y) : (PyData.str y).canLay0 = true := by
  have a : ∀ c ∈ abc.cps.toList, c < 0x110000 := by decide +kernel
  show y.cps.all _ = true
  rw [← Array.all_toList, List.all_eq_true]
  exact fun c hc => decide_eq_true (a c (h.sgn c hc))
def pdat (q : Str × Str) : PyData := .tuple [.str q.1, .str q.2]
theorem pdat_ok {n : Nat} {q : Str × Str} (a : Wd n q.1) (b : Wd n q.2) : (pdat q).canLay0 = true ∧ (pdat q).depth ≤ 10 := by
  refine ⟨?_, by show 1 ≤ 10; decide⟩
  show ((PyData.str q.1).canLay0 && ((PyData.str q.2).canLay0 && true)) = true
  rw [wd_lay a, wd_lay b]
  rfl
theorem eqv_nil (ds : List PyData) : PyData.eqv (.list ds) (.list []) = decide (ds.length = 0) := by
  cases ds with
  | nil => rfl
  | cons d ds => rfl
end Gu
namespace Gu
open PySem PySem.Spec PyProof.Rows L2
/-! ### _law_name -/
/-- a list of pairs of texts -/
structure PairsAt (H : Hp) (a : Addr) (qs : List (Addr × Str × Str)) : Prop where
  ls : H a = some (.lst (qs.map fun q => V.ref q.1))
  tp : ∀ q ∈ qs, H q.1 = some (.tup [.str q.2.1, .str q.2.2])
theorem PairsAt.same {H G : Hp} {a : Addr} {qs : List (Addr × Str × Str)} (s : Same H G) (h : PairsAt H a qs) : PairsAt G a qs := ⟨s _ _ h.ls, fun q hq => s _ _ (h.tp q hq)⟩
theorem ref_at {qs : List (Addr × Str × Str)} {i : Nat} {v : V} (hi : (qs.map fun q => V.ref q.1)[i]? = some v) : ∃ q, qs[i]? = some q ∧ v = .ref q.1 ∧ q ∈ qs := by
  rw [List.getElem?_map] at hi
  cases e : qs[i]? with
  | none =>
    rw [e] at hi
    cases hi
  | some q =>
    rw [e] at hi
    exact ⟨q, rfl, (Option.some.inj hi).symm, List.mem_of_getElem? e⟩
theorem same_off {H J : Hp} {M : Addr} {o : HO} (s : Same H J) (n : H M = none) : Same H (upd J M o) := fun b x e => by
  rw [upd_ne (ne_of_none e n)]
  exact s b x e
theorem dp_pairs {K : PySem.W.Frag} {H : Hp} : ∀ {qs : List (Addr × Str × Str)}, (∀ q ∈ qs, H q.1 = some (.tup [.str q.2.1, .str q.2.2])) → DpAll K H (qs.map fun q => V.ref q.1) (qs.map fun q => pdat q.2)
  | [], _ => .nil
  | q :: qs, h => .cons (.tup (.inl (.inl (h q (List.mem_cons_self ..)))) (.cons (.str _) (.cons (.str _) .nil))) (dp_pairs fun r hr => h r (List.mem_cons_of_mem _ hr))
theorem mates_len (w : Int) (t : Str) (qs : List (Addr × Str × Str)) : (mates w t (qs.map (·.2))).length = (qs.filter fun q => decide (nbase w q.2.1 = nbase w t)).length := by
  unfold mates
  rw [List.filter_map, List.length_map]
  rfl
theorem in_strs (x : Str) (ys : List Str) : inV (.str x) (ys.map V.str) = decide (x ∈ ys) := by
  unfold inV
  rw [List.any_map]
  by_cases e : x ∈ ys
  · rw [decide_eq_true e, List.any_eq_true]
    exact ⟨x, e, beq_self_eq_true x⟩
  · rw [decide_eq_false e, List.any_eq_false]
    intro y hy h
    have h := eq_of_beq (show (y == x) = true from h)
    exact e (h ▸ hy)
theorem flat_strs (ys : List Str) : (ys.map V.str).all flatV = true := by
  rw [List.all_map, List.all_eq_true]
  exact fun _ _ => rfl
theorem take_next {α : Type} {qs : List α} {i : Nat} {q : α} (h : qs[i]? = some q) : qs.take (i + 1) = qs.take i ++ [q] := by
  rw [List.take_add_one, h]
  rfl
end Gu
namespace Gu
open PySem PySem.Spec PyProof.Rows L2
/-! ### _law_names -/
def pairsOf (so : Str) (w : Int) (ts : List Str) : List (Str × Str) := ts.foldl (fun ps t => ps ++ [(t, nameOf so w t ps)]) []
def namesOf (so : Str) (w : Int) (ts : List Str) : List Str := (pairsOf so w ts).map (·.2)
theorem pairsOf_snoc (so : Str) (w : Int) (ts : List Str) (t : Str) : pairsOf so w (ts ++ [t]) = pairsOf so w ts ++ [(t, nameOf so w t (pairsOf so w ts))] := by
  unfold pairsOf
  rw [List.foldl_append]
  rfl
theorem pairsOf_len (so : Str) (w : Int) (ts : List Str) : (pairsOf so w ts).length = ts.length := by
  have a : ∀ (ts : List Str) (acc : List (Str × Str)), (ts.foldl (fun ps t => ps ++ [(t, nameOf so w t ps)]) acc).length = acc.length + ts.length := by
    intro ts
    induction ts with
    | nil => exact fun _ => rfl
    | cons t ts ih =>
      intro acc
      rw [List.foldl_cons, ih, List.length_append, List.length_cons]
      show acc.length + 1 + ts.length = acc.length + (ts.length + 1)
      omega
  have b := a ts []
  rw [List.length_nil, Nat.zero_add] at b
  exact b
theorem st_same {K : PySem.W.Frag} {H G : Hp} {l : Addr} {xs : List V} (a : Same H G) (h : SqT K H l xs) : SqT K G l xs := by
  rcases h with (h | ⟨o, h⟩) | h
  · exact .inl (.inl (a _ _ h))
  · exact .inl (.inr ⟨o, a _ _ h⟩)
  · exact .inr h
theorem pairs_wd {so : Str} {w : Int} (ts : List Str) (l : ts.length ≤ 7) (h : ∀ t ∈ ts, Wd 200 t) : ∀ q ∈ pairsOf so w ts, Wd 200 q.1 ∧ Wd 202 q.2 := by
  have a : ∀ (ts : List Str) (acc : List (Str × Str)), acc.length + ts.length ≤ 7 → (∀ t ∈ ts, Wd 200 t) → (∀ q ∈ acc, Wd 200 q.1 ∧ Wd 202 q.2) → ∀ q ∈ ts.foldl (fun ps t => ps ++ [(t, nameOf so w t ps)]) acc, Wd 200 q.1 ∧ Wd 202 q.2 := by
    intro ts
    induction ts with
    | nil => exact fun _ _ _ h => h
    | cons t ts ih =>
      intro acc l ht ha
      rw [List.length_cons] at l
      rw [List.foldl_cons]
      refine ih _ (by rw [List.length_append, List.length_singleton]; omega) (fun x hx => ht x (List.mem_cons_of_mem _ hx)) fun q hq => ?_
      rcases List.mem_append.mp hq with hq | hq
      · exact ha q hq
      · rw [List.mem_singleton.mp hq]
        exact ⟨ht t (List.mem_cons_self ..), wd_name (ht t (List.mem_cons_self ..)) (by omega)⟩
  exact a ts [] (by rw [List.length_nil]; omega) h fun q hq => by cases hq
end Gu
namespace Gu
open PySem PySem.Spec PyProof.Rows L2
/-! ### things made by their class -/
structure Mak (P : Program) (w : World) (K : PySem.W.Frag) (mg : Str → Option Value) (base : Heap) (k : Nat) (x : Str) (C : Addr) (sp : Sp) : Prop where
  ex : ∃ (f : Addr) (fd : FuncData) (ps : List Str), Mk K C f ∧ FnOk P w K mg base CX0 k f fd ps sp ∧ mg x = some (.ref C) ∧ Binds K fd ps []
section
variable {X : Cx} {k j : Nat} {x : Str} {C : Addr} {sp : Sp} {p pos : Pos} {e : Expr} {es : List Expr} {t : TA}
theorem pe_new (c : Mak X.prog X.w X.K X.mg X.base k x C sp) (hr : Room j X.A) (hk : k + 1 ≤ j) (hg : Gl X x) (ha : PA X (e :: es) t)
    (hdb : (x == ("__debug__" : Str)) = false := by decide) (he : starEach (e :: es) X.env = (false, eval e X.env) :: starEach es X.env := by rfl) (hpl : (backTo pos (starEach es X.env)).any (·.1) = false := by rfl) :
    PE X (.Call (.Name x p) (e :: es) [] pos) (tMake C sp [] E0 t) := by
  obtain ⟨f, fd, ps, M, F, hm, b⟩ := c.ex
  exact pe_make M F (hr.mono hk) hg hm b .nil pass0 ha hdb he hpl
end
end Gu
namespace Gu
open PySem PySem.Spec PyProof.Rows L2
/-! ### calls by keywords alone -/
structure CalK (P : Program) (w : World) (K : PySem.W.Frag) (mg : Str → Option Value) (base : Heap) (k : Nat) (x : Str) (ks : List Str) (gV : List V → List V) (sp : Sp) : Prop where
  ex : ∃ (f : Addr) (fd : FuncData) (ps : List Str) (g : List Value → List Value), FnOk P w K mg base CX0 k f fd ps sp ∧ mg x = some (.ref f) ∧ PySem.W.keepIn K (.ref f) = true ∧ KBn K fd ps 0 ks (fun _ ws => g ws) (fun _ zs => gV zs)
theorem Cal.kw {P : Program} {w : World} {K : PySem.W.Frag} {mg : Str → Option Value} {base : Heap} {k : Nat} {x : Str} {st : Stmt} {ps ks : List Str} {sp : Sp} (g : {α : Type} → List α → List α) (c : Cal P w K mg base k x ps sp) (D : At K mg x st ps)
    (hv : ∀ {zs : List V} {ws : List Value}, Vals zs ws → Vals (g zs) (g ws))
    (hb : ∀ (kV doc pm : Value) (an : Option Addr) (cdv ct : Value) (ws : List Value), ws.length = ks.length → bindArgs (PySem.W.fnOf x x (defArgs st) (defBody st) (defScope st) .none kV doc pm an cdv ct) ⟨[], ks.zip ws⟩ = pure (ps.zip (g ws))) : CalK P w K mg base k x ks g sp := by
  obtain ⟨f, fd, F, hm, kp, b, oc, od, sl, lk⟩ := c.ex
  obtain ⟨f2, fd2, F2, b2, hm2⟩ := D.ex
  cases hm.symm.trans hm2
  obtain ⟨oc2, od2, kV, doc, pm, an, cdv, ct, sl2, e, lk2, hcd⟩ := F2.ex
  cases lk.symm.trans lk2
  refine ⟨f, fd, ps, g, F, hm, kp, ⟨fun s us ws I l1 l2 => ?_, fun _ r => hv r⟩⟩
  cases us with
  | nil =>
    rw [e]
    exact BindsTo.of_eq (hb kV doc pm an cdv ct ws l2)
  | cons u r => cases l1
def tKw (m : Nat) (gV : List V → List V) (sp : Sp) (tk : TA) : TE := fun σ H Q => tk σ H fun zs G => zs.length = m ∧ sp (gV zs) G Q E0
section
variable {X : Cx} {k j : Nat} {x : Str} {ks : List Str} {gV : List V → List V} {sp : Sp} {p pos : Pos} {kws : List Keyword} {tk : TA}
theorem pe_kw (c : CalK X.prog X.w X.K X.mg X.base k x ks gV sp) (hr : Room j X.A) (hk : k ≤ j) (hg : Gl X x) (hkw : PK X kws tk) (hall : (backToKw pos (keywordEach kws X.env)).all (·.1.isSome) = true := by rfl)
    (hks : (backToKw pos (keywordEach kws X.env)).filterMap (·.1) = ks := by rfl) (hdb : (x == ("__debug__" : Str)) = false := by decide)
    (hpl : ((backTo pos (starEach [] X.env)).any (·.1) || (backToKw pos (keywordEach kws X.env)).any (·.1.isNone)) = false := by rfl) : PE X (.Call (.Name x p) [] kws pos) (tKw ks.length gV sp tk) := by
  obtain ⟨f, fd, ps, g, F, hm, kp, b⟩ := c.ex
  refine ⟨fun pins s σ H Q I h => ?_⟩
  refine wpAny_Call_Name_kw (ld_glob I hg hm ?_ hdb)
  refine PySem.W.callWith_KW0 (h₀ := X.base) I.ok.mod.kin kp hall ?_ hpl
  refine thn (hkw.run pos pins s σ H _ I h) fun ws s2 ⟨zs, G, I2, rz, l2, q2⟩ => ⟨I2.kIn, ?_⟩
  rw [hks]
  exact run_fnN (us := []) (vs := []) F (hr.mono hk) b pass0 I2 .nil rz rfl l2 q2
end
def swap2 {α : Type} : List α → List α
  | [a, b] => [b, a]
  | l => l
theorem swap2_vals {zs : List V} {ws : List Value} (r : Vals zs ws) : Vals (swap2 zs) (swap2 ws) := by
  cases r with
  | nil => exact .nil
  | cons a r =>
    cases r with
    | nil => exact .cons a .nil
    | cons b r =>
      cases r with
      | nil => exact .cons b (.cons a .nil)
      | cons c r => exact .cons a (.cons b (.cons c r))
theorem str_ext {a b : Str} (h : a.cps.toList = b.cps.toList) : a = b := by
  cases a
  cases b
  exact congrArg Str.mk (Array.ext' h)
end Gu
namespace Gu
open PySem PySem.Spec PyProof.Rows L2
def spRight : Sp := fun vs H Q _ => ∃ (p : Addr), vs = [.ref p] ∧ Pot H p ∧ ∀ G, Ladled p H G → Q (.bl true) G
end Gu
namespace Gu
open PySem PySem.Spec PyProof.Rows L2
def sorts : List Str := ["count", "free", "tight"]
section
variable {P : Program} {w : World} {K : PySem.W.Frag} {mg : Str → Option Value} {base : Heap} {C : Addr}
/-- Namer.__init__, Nm: what stands at a namer -/
def spNInit (C : Addr) (Nm : Hp → Addr → Str → Int → Prop) : Sp := fun vs H Q _ => ∃ (x dx : Addr) (so : Str) (w : Int), vs = [.ref x, .str so, .int w] ∧ H x = some (.ins C dx []) ∧ so ∈ sorts ∧ 6 ≤ w ∧ w ≤ 40 ∧
  ∀ (G : Hp), Nm G x so w → (∀ c o, H c = some o → c ≠ x → G c = some o) → Q .non G
def spNamesP (K : PySem.W.Frag) (Nm : Hp → Addr → Str → Int → Prop) : Sp := fun vs H Q _ => ∃ (x l : Addr) (so : Str) (w : Int) (ts : List Str), vs = [.ref x, .ref l] ∧ Nm H x so w ∧ so ∈ sorts ∧ 6 ≤ w ∧ w ≤ 40 ∧ SqT K H l (ts.map V.str) ∧ ts.length ≤ 6 ∧ (∀ t ∈ ts, Wd 200 t) ∧
  ∀ (p : Addr) (G : Hp), SqT K G p ((namesOf so w ts).map V.str) → Same H G → Q (.ref p) G
theorem names_wd {so : Str} {w : Int} {ts : List Str} (l : ts.length ≤ 6) (h : ∀ t ∈ ts, Wd 200 t) : ∀ y ∈ namesOf so w ts, Wd 202 y := fun y hy => by
  obtain ⟨q, hq, rfl⟩ := List.mem_map.mp hy
  exact (pairs_wd ts (by omega) h q hq).2
theorem names_len (so : Str) (w : Int) (ts : List Str) : (namesOf so w ts).length = ts.length := by
  unfold namesOf
  rw [List.length_map, pairsOf_len]
theorem dp_strs {K : PySem.W.Frag} {H : Hp} : ∀ ys : List Str, DpAll K H (ys.map V.str) (ys.map PyData.str)
  | [] => .nil
  | y :: ys => .cons (.str y) (dp_strs ys)
theorem fine_strs {ys : List Str} (l : ys.length ≤ 100) (h : ∀ y ∈ ys, Wd 300 y) : Fine 60 100000 (.tuple (ys.map PyData.str)) := by
  have a : ∀ c ∈ abc.cps.toList, c < 16 ^ 8 := by decide +kernel
  have b : FineAll 0 300 (ys.map PyData.str) := FineAll.of fun d hd => by
    obtain ⟨y, hy, rfl⟩ := List.mem_map.mp hd
    exact Fine.str (fun c hc => a c ((h y hy).sgn c hc)) (h y hy).len
  refine b.tup.mono (by decide) ?_
  rw [List.length_map]
  have := Nat.mul_le_mul_right (300 + 1) l
  omega
/-! names are short -/
theorem wd_num {m : Nat} {so t : Str} {w k : Int} (h : Wd m (nbase w t)) (h0 : 0 ≤ k) (h1 : k < 10) : Wd (m + 2) (numbered so w t k) := by
  have a : Wd 2 (ending k) := (wd_lit (z := ("~" : String)) (n := 1) (by decide +kernel)).app (wd_digit h0 h1) (by decide)
  unfold numbered
  split
  · exact (h.cut _ _).app a (Nat.le_refl _)
  · exact h.app a (Nat.le_refl _)
theorem short_seek {m : Nat} {so t : Str} {w : Int} {ys : List Str} (h : Wd m (nbase w t)) : ∀ (k a : Nat), a + k < 8 → Wd (m + 2) (seek (cand so w t) ys k a)
  | 0, a, l => wd_num h (by omega) (by omega)
  | k + 1, a, l => by
    unfold seek
    split
    · exact short_seek h k (a + 1) (by omega)
    · exact wd_num h (by omega) (by omega)
theorem short_name {n : Nat} {so t : Str} {w : Int} {ps : List (Str × Str)} (h : Wd n t) (w0 : 0 ≤ w) (w1 : w ≤ 40) (l : ps.length ≤ 6) : Wd 42 (nameOf so w t ps) := by
  have b : Wd 40 (nbase w t) := wd_head h.sgn w0 (by omega)
  have m : (mates w t ps).length ≤ ps.length := List.length_filter_le ..
  unfold nameOf
  split
  · split
    · exact b.mono (by decide)
    · exact wd_num b (by omega) (by omega)
  · split
    · exact short_seek b _ _ (by rw [List.length_map]; omega)
    · exact b.mono (by decide)
theorem pairs_are {so : Str} {w : Int} (ts : List Str) (l : ts.length ≤ 7) : ∀ q ∈ pairsOf so w ts, ∃ ps : List (Str × Str), q.1 ∈ ts ∧ ps.length ≤ 6 ∧ q.2 = nameOf so w q.1 ps := by
  have a : ∀ (ts : List Str) (acc : List (Str × Str)) (all : List Str), acc.length + ts.length ≤ 7 → (∀ t ∈ ts, t ∈ all) → (∀ q ∈ acc, ∃ ps : List (Str × Str), q.1 ∈ all ∧ ps.length ≤ 6 ∧ q.2 = nameOf so w q.1 ps) → ∀ q ∈ ts.foldl (fun ps t => ps ++ [(t, nameOf so w t ps)]) acc, ∃ ps : List (Str × Str), q.1 ∈ all ∧ ps.length ≤ 6 ∧ q.2 = nameOf so w q.1 ps := by
    intro ts
    induction ts with
    | nil => exact fun _ _ _ _ h => h
    | cons t ts ih =>
      intro acc all l ht ha
      rw [List.length_cons] at l
      rw [List.foldl_cons]
      refine ih _ all (by rw [List.length_append, List.length_singleton]; omega) (fun x hx => ht x (List.mem_cons_of_mem _ hx)) fun q hq => ?_
      rcases List.mem_append.mp hq with hq | hq
      · exact ha q hq
      · rw [List.mem_singleton.mp hq]
        exact ⟨acc, ht t (List.mem_cons_self ..), by omega, rfl⟩
  exact a ts [] ts (by rw [List.length_nil]; omega) (fun _ h => h) fun q hq => by cases hq
theorem names_short {so : Str} {w : Int} {ts : List Str} (l : ts.length ≤ 6) (h : ∀ t ∈ ts, Wd 200 t) (w0 : 0 ≤ w) (w1 : w ≤ 40) : ∀ y ∈ namesOf so w ts, Wd 42 y := fun y hy => by
  obtain ⟨q, hq, rfl⟩ := List.mem_map.mp hy
  obtain ⟨ps, h1, h2, h3⟩ := pairs_are ts (by omega) q hq
  rw [h3]
  exact short_name (h _ h1) w0 w1 h2
end
end Gu
namespace Gu
open PySem PySem.Spec PyProof.Rows L2
theorem yes {σ : L2.St} {H : Hp} {Q : Bool → Hp → Prop} (h : Q true H) : tYes σ H Q := h
end Gu
namespace Gu
open PySem PySem.Spec PyProof.Rows L2
/-! ### is_integer, is_text -/
/-- isinstance(x, T) is b -/
def Isa (K : PySem.W.Frag) (H : Hp) (x : V) (T : String) (b : Bool) : Prop := ∃ t, TyX K H x t ∧ PySem.W.kitOne K t (.type T) = some b
def signs : Str := ".0123456789abcdefghijklmnopqrstuvwxyz~"
def isTxt (z : Str) (m : Int) : Bool := decide ((z.length : Int) ≤ m) && z.cps.toList.all fun c => decide (c ∈ signs.cps.toList)
section
variable {P : Program} {w : World} {K : PySem.W.Frag} {mg : Str → Option Value} {base : Heap}
theorem Isa.int_int {H : Hp} {i : Int} : Isa K H (.int i) "int" true := ⟨_, .base (.int i), kit_ty (by decide +kernel)⟩
theorem Isa.int_bool {H : Hp} {i : Int} : Isa K H (.int i) "bool" false := ⟨_, .base (.int i), kit_ty (by decide +kernel)⟩
theorem Isa.str_str {H : Hp} {z : Str} : Isa K H (.str z) "str" true := ⟨_, .base (.str z), kit_ty (by decide +kernel)⟩
def spIsInteger (K : PySem.W.Frag) : Sp := fun vs H Q _ => ∃ (x : V) (a b : Int), vs = [x, .int a, .int b] ∧
  ((∃ v, x = .int v ∧ Q (.bl (decide (a ≤ v ∧ v ≤ b))) H) ∨ (Isa K H x "int" false ∧ Q (.bl false) H) ∨ (Isa K H x "int" true ∧ Isa K H x "bool" true ∧ Q (.bl false) H))
theorem cal_isInteger (B : Bi mg) (D : At K mg "is_integer" s_is_integer ps_is_integer) : Cal P w K mg base 1 "is_integer" ps_is_integer (spIsInteger K) := by
  refine D.cal sc_is_integer (fun vs H Q E h => ?_) (fun f cdv A outer s H vs Q E hr h => ?_)
  · obtain ⟨x, a, b, rfl, _⟩ := h
    rfl
  · obtain ⟨x, a, b, rfl, h⟩ := h
    refine ⟨_, (pss_cons (ps_if (PW.pt (pw_or (pt_not (pt_val (pe_callB call_isi (by rfl) B.isinstance (by decide +kernel) (pa_cons (pv 0) (pa_cons (pe_bltn (v := .ty "int") (by rfl) B.int (by decide +kernel) rfl) pa_nil))))) (pw_or1 (pt_val (pe_callB call_isi (by rfl) B.isinstance (by decide +kernel) (pa_cons (pv 0) (pa_cons (pe_bltn (v := .ty "bool") (by rfl) B.bool (by decide +kernel) rfl) pa_nil))))))) (pss_one (ps_ret pe_bl)) pss_nil)
      (pss_one (ps_ret (pe_chain op_le op_le (pv 1) (pv 0) (pv 2))))), ?_⟩
    rcases h with ⟨v, rfl, k⟩ | ⟨⟨t, i1, i2⟩, k⟩ | ⟨⟨t, i1, i2⟩, ⟨t', j1, j2⟩, k⟩
    · obtain ⟨t, i1, i2⟩ := Isa.int_int (K := K) (H := H) (i := v)
      obtain ⟨t', j1, j2⟩ := Isa.int_bool (K := K) (H := H) (i := v)
      refine ⟨_, rfl, _, _, t, _, true, rfl, .ty _, i1, i2, _, rfl, iteF ⟨_, rfl, _, _, t', _, false, rfl, .ty _, j1, j2, _, rfl, iteF ?_⟩⟩
      refine ⟨_, rfl, _, rfl, _, _, rfl, rfl, _, rfl, ?_⟩
      by_cases e1 : a ≤ v
      · rw [decide_eq_true e1]
        refine iteT ⟨_, rfl, _, _, rfl, rfl, ?_⟩
        have e : decide (a ≤ v ∧ v ≤ b) = decide (v ≤ b) := by simp only [e1, true_and]
        rw [e] at k
        exact k
      · rw [decide_eq_false e1]
        refine iteF ?_
        have e : decide (a ≤ v ∧ v ≤ b) = false := by simp only [e1, false_and, decide_false]
        rw [e] at k
        exact k
    · refine ⟨_, rfl, _, _, t, _, false, rfl, .ty _, i1, i2, _, rfl, iteT (iteT k)⟩
    · refine ⟨_, rfl, _, _, t, _, true, rfl, .ty _, i1, i2, _, rfl, iteF ⟨_, rfl, _, _, t', _, true, rfl, .ty _, j1, j2, _, rfl, iteT k⟩⟩
def spIsText (K : PySem.W.Frag) : Sp := fun vs H Q _ => ∃ (x : V) (m : Int), vs = [x, .int m] ∧
  ((∃ z : Str, x = .str z ∧ z.length ≤ 1000 ∧ ∀ G, Same H G → Q (.bl (isTxt z m)) G) ∨ (Isa K H x "str" false ∧ Q (.bl false) H))
theorem cal_isText (B : Bi mg) (D : At K mg "is_text" s_is_text ps_is_text) : Cal P w K mg base 1 "is_text" ps_is_text (spIsText K) := by
  refine D.cal sc_is_text (fun vs H Q E h => ?_) (fun f cdv A outer s H vs Q E hr h => ?_)
  · obtain ⟨x, m, rfl, _⟩ := h
    rfl
  · obtain ⟨x, m, rfl, h⟩ := h
    refine ⟨_, (pss_cons (ps_if (PW.pt (pw_or (pt_not (pt_val (pe_callB call_isi (by rfl) B.isinstance (by decide +kernel) (pa_cons (pv 0) (pa_cons (pe_bltn (v := .ty "str") (by rfl) B.str (by decide +kernel) rfl) pa_nil))))) (pw_or1 (pt_cmpR op_gt (pe_callB call_len (by rfl) B.len (by decide +kernel) (pa_cons (pv 0) pa_nil)) (pv 1) (nomark _))))) (pss_one (ps_ret pe_bl)) pss_nil)
      (pss_one (ps_ret (pe_callB (cr_all rfl) (by rfl) B.all (by decide +kernel) (pa_cons (pe_lc (own := [("character", 2)]) (by rfl) sc_is_text.nd (pi_str (pv 0)) (blkOk_by (own := [("character", 2)]) (N := ["value", "most", "character"]) (sc := defScope s_is_text) (by decide +kernel)) (fun _ _ _ _ _ => pg_name (i := 2) sc_is_text.nd rfl (.inl rfl)) (fun _ _ _ _ _ => pts_nil) (fun _ _ _ _ _ => (pe_cmpR op_in_sign (pv 2) (pe_cst B.SIGNS (by rfl)) (by rfl)))) pa_nil))))), ?_⟩
    rcases h with ⟨z, rfl, zl, k⟩ | ⟨⟨t, i1, i2⟩, k⟩
    · obtain ⟨t, i1, i2⟩ := Isa.str_str (K := K) (H := H) (z := z)
      refine ⟨_, rfl, _, _, t, _, true, rfl, .ty _, i1, i2, _, rfl, iteF ⟨_, rfl, _, _, rfl, ⟨Nat.le_of_lt (small1000 zl), rfl⟩, _, rfl, _, _, rfl, rfl, _, rfl, ite2 (fun e => ?_) (fun e => ?_)⟩⟩
      · have e1 : ¬ (z.length : Int) ≤ m := by
          have := of_decide_eq_true e
          omega
        have e2 : isTxt z m = false := by
          unfold isTxt
          rw [decide_eq_false e1, Bool.false_and]
        rw [e2] at k
        exact k H (Same.refl H)
      · have e1 : (z.length : Int) ≤ m := by
          have h2 : ¬ m < (z.length : Int) := fun h3 => e (decide_eq_true h3)
          omega
        refine ⟨_, rfl, z, rfl, fun D nD => lc_it walk_str (fun i J => Same H J ∧ J D = some (.lst (((z.cps.toList.take i).map fun c => decide (c ∈ signs.cps.toList)).map V.bl)))
          ⟨same_new nD, by rw [upd_same]; rfl⟩ (fun _ _ _ _ => trivial) ?_ ?_⟩
        · rintro i v J _ hi ⟨sJ, eJ⟩ ⟨rfl, c, hc, rfl⟩
          refine ⟨rfl, yes (iteT ?_)⟩
          refine ⟨_, rfl, c, signs, rfl, rfl, _, eJ, small1000 ?_, ?_, ?_⟩
          · rw [List.length_map, List.length_map, List.length_take]
            have : z.length = z.cps.toList.length := rfl
            omega
          · exact fun b o e => by
              rw [upd_ne (ne_of_none e nD)]
              exact sJ b o e
          · rw [upd_same]
            have hc' : z.cps.toList[i]? = some c := by
              rw [← Array.getElem?_toList] at hc
              exact hc
            rw [List.take_add_one, hc', List.map_append, List.map_append]
            rfl
        · rintro J ⟨sJ, eJ⟩
          refine ⟨D, ((z.cps.toList.take z.cps.size).map fun c => decide (c ∈ signs.cps.toList)), rfl, .inl (.inl eJ), ?_⟩
          have e2 : ((z.cps.toList.take z.cps.size).map fun c => decide (c ∈ signs.cps.toList)).all id = isTxt z m := by
            unfold isTxt
            rw [decide_eq_true e1, Bool.true_and, List.take_of_length_le (show z.cps.toList.length ≤ z.cps.size from Nat.le_refl _), List.all_map]
            rfl
          rw [e2]
          exact k J sJ
    · refine ⟨_, rfl, _, _, t, _, false, rfl, .ty _, i1, i2, _, rfl, iteT (iteT k)⟩
end
end Gu
namespace Gu
open PySem PySem.Spec PyProof.Rows L2
/-! ### is_tuple -/
theorem isaTupP {K : PySem.W.Frag} {H : Hp} {l : Addr} {xs : List V} (h : SqT K H l xs) : Isa K H (.ref l) "tuple" true := by
  rcases h with (h | ⟨o, h⟩) | ⟨o, its, n, e, c, _⟩
  · exact ⟨_, .base (.tup h), kit_ty (by decide +kernel)⟩
  · exact ⟨_, .fTuple h, kit_ty (by decide +kernel)⟩
  · exact ⟨_, .kTuple e c, kit_ty (by decide +kernel)⟩
section
variable {P : Program} {w : World} {K : PySem.W.Frag} {mg : Str → Option Value} {base : Heap} {C : Addr}
def spIsTuple (K : PySem.W.Frag) : Sp := fun vs H Q _ => ∃ (x : V) (a b : Int), vs = [x, .int a, .int b] ∧
  ((∃ (l : Addr) (xs : List V), x = .ref l ∧ SqT K H l xs ∧ Q (.bl (decide (a ≤ (xs.length : Int) ∧ (xs.length : Int) ≤ b))) H) ∨ (Isa K H x "tuple" false ∧ Q (.bl false) H))
theorem cal_isTuple (B : Bi mg) (D : At K mg "is_tuple" s_is_tuple ps_is_tuple) : Cal P w K mg base 1 "is_tuple" ps_is_tuple (spIsTuple K) := by
  refine D.cal sc_is_tuple (fun vs H Q E h => ?_) (fun f cdv A outer s H vs Q E hr h => ?_)
  · obtain ⟨x, a, b, rfl, _⟩ := h
    rfl
  · obtain ⟨x, a, b, rfl, h⟩ := h
    refine ⟨_, (pss_one (ps_ret (pe_and (pe_callB call_isi (by rfl) B.isinstance (by decide +kernel) (pa_cons (pv 0) (pa_cons (pe_bltn (v := .ty "tuple") (by rfl) B.tuple (by decide +kernel) rfl) pa_nil))) (pe_one (pe_chain op_le op_le (pv 1) (pe_callB call_len (by rfl) B.len (by decide +kernel) (pa_cons (pv 0) pa_nil)) (pv 2)))))), ?_⟩
    rcases h with ⟨l, xs, rfl, hT, k⟩ | ⟨⟨t, i1, i2⟩, k⟩
    · obtain ⟨t, i1, i2⟩ := isaTupP hT
      refine ⟨_, rfl, _, _, t, _, true, rfl, .ty _, i1, i2, _, rfl, iteT ?_⟩
      refine ⟨_, rfl, _, rfl, _, _, rfl, .inr ⟨_, hT, rfl⟩, _, _, rfl, rfl, _, rfl, ?_⟩
      by_cases e1 : a ≤ (xs.length : Int)
      · rw [decide_eq_true e1]
        refine iteT ⟨_, rfl, _, _, rfl, rfl, ?_⟩
        have e : decide (a ≤ (xs.length : Int) ∧ (xs.length : Int) ≤ b) = decide ((xs.length : Int) ≤ b) := by simp only [e1, true_and]
        rw [e] at k
        exact k
      · rw [decide_eq_false e1]
        refine iteF ?_
        have e : decide (a ≤ (xs.length : Int) ∧ (xs.length : Int) ≤ b) = false := by simp only [e1, false_and, decide_false]
        rw [e] at k
        exact k
    · exact ⟨_, rfl, _, _, t, _, false, rfl, .ty _, i1, i2, _, rfl, iteF k⟩
end
end Gu
namespace PySem
open Sem (wp)
open AutoSeq1 (wpAny_loadPart')
theorem gu_new_enum (a : Addr) (vs : Array Value) (n : Nat) (dt : Option Addr) (sl : Array (Option Value)) : Meets (Builtin.«enumerate.__new__» ⟨[.type "enumerate", .ref a], []⟩) (fun _ R s =>
    s.heap.get? a = some ⟨.type "tuple", dt, .seq vs n, sl⟩ ∧ R (.ok (.ret (.ref (s.heap.push { cls := .type "tuple_iterator", data := .fields #[.ref a, .int 0 0] }).objs.size))) { s with heap := (s.heap.push { cls := .type "tuple_iterator", data := .fields #[.ref a, .int 0 0] }).push { cls := .type "enumerate", data := .fields #[.none, .bool false, .ref s.heap.objs.size, rawInt 0, .none, .none] } }) :=
  .of_wp fun prog w A R s h => by
    obtain ⟨s1, s2, s3, s4, s5⟩ := s
    obtain ⟨ha, h⟩ := h
    have sb := sub_enumerate
    have hT : Heap.IsTuple (Shared.heap ⟨s1, s2, s3, s4, s5⟩) a vs := ⟨_, ha, rfl, n, rfl⟩
    wp_walk using wpAny_loadPart' ha
    refine wpAny_stack_any fun fr => wpAny_pure ?_
    split
    · next c _ _ _ _ _ =>
      cases (c == Value.type "enumerate") <;> (wp_walk using wpAny_loadPart' ha, wpAny_pyIter_tuple hT; exact ⟨_, rfl, h⟩)
    · wp_walk using wpAny_loadPart' ha, wpAny_pyIter_tuple hT
      exact ⟨_, rfl, h⟩
section
variable {prog : Program} {w : World} {A : Around} {E : Value → Shared → Prop} {s : Shared}
theorem gu_call_enum {a : Addr} {vs : Array Value} {Q : Value → Shared → Prop} (hT : s.heap.IsTuple a vs)
    (h : ∀ g, IsEnum g (s.heap.objs.size + 1) s.heap.objs.size 0 .none → g.IsTupleIter s.heap.objs.size a 0 → (∀ b o, s.heap.get? b = some o → g.get? b = some o) → Q (.ref (s.heap.objs.size + 1)) { s with heap := g }) :
    wpAny (model prog w) A (call (.type "enumerate") [.ref a]) Q E s := by
  obtain ⟨⟨oc, od, dd, sl⟩, ha, hc, n, hd⟩ := hT
  cases (show oc = .type "tuple" from hc)
  cases (show dd = .seq vs n from hd)
  refine callType_new F.called_enumerate (by decide) (F.typeCall_enumerate_1 _) (F.newCall_enumerate_1 _) (fun o => F.args_object_init_2 o _) F.entry_enumerate_new (gu_new_enum a vs n od sl) ⟨ha, ?_⟩
  have z1 : (s.heap.push { cls := .type "tuple_iterator", data := .fields #[.ref a, .int 0 0] }).objs.size = s.heap.objs.size + 1 := Heap.size_push ..
  show _ ∧ _
  rw [z1]
  have en : IsEnum ((s.heap.push { cls := .type "tuple_iterator", data := .fields #[.ref a, .int 0 0] }).push { cls := .type "enumerate", data := .fields #[.none, .bool false, .ref s.heap.objs.size, rawInt 0, .none, .none] }) (s.heap.objs.size + 1) s.heap.objs.size 0 .none := by
    have q := Heap.get?_push_size (s.heap.push { cls := .type "tuple_iterator", data := .fields #[.ref a, .int 0 0] }) (o := { cls := .type "enumerate", data := .fields #[.none, .bool false, .ref s.heap.objs.size, rawInt 0, .none, .none] }) rfl
    rw [z1] at q
    exact q
  exact ⟨⟨_, en, rfl⟩, h _ en ⟨_, Heap.get?_push_of_some _ (Heap.get?_push_size _ rfl), rfl, rfl⟩ fun b o x => Heap.get?_push_of_some _ (Heap.get?_push_of_some _ x)⟩
end
end PySem
namespace Gu
open PySem PySem.Spec PyProof.Rows L2
/-- the tuple at a, each item in a new pair with its place -/
def EnT (K : PySem.W.Frag) (a : Addr) : It where
  go := fun i H => ∃ (xs : List V) (x : V), SqT K H a xs ∧ xs[i]? = some x
  yld := fun i H v G => ∃ T x, v = .ref T ∧ H T = none ∧ G = upd H T (.tup [.int (i : Nat), x]) ∧ ∀ xs, SqT K H a xs → xs[i]? = some x
  stop := fun i H => ∃ xs : List V, SqT K H a xs ∧ xs.length = i
theorem turn_enT {P : Program} {w : World} {K : PySem.W.Frag} {es : List Expr} {kk : Nat} {tp : Pos} (a e it : Addr) :
    Turn P w K (.Tuple es kk tp) (EnT K a) [e, it] e (fun i h => (∃ old, IsEnum h e it ((i : Nat) : Int) old) ∧ h.IsTupleIter it a i ∧ e ≠ it) where
  mem := List.mem_cons_self ..
  obj := fun i h st b hb => by
    obtain ⟨⟨old, he⟩, ⟨o, ho, hc, hd⟩, _⟩ := st
    simp only [List.mem_cons, List.not_mem_nil, or_false] at hb
    rcases hb with rfl | rfl
    · exact ⟨_, he, fun v q => nomatch q⟩
    · exact ⟨o, ho, fun v q => by rw [hd] at q; cases q⟩
  keep := fun i h g st k => by
    obtain ⟨⟨old, he⟩, hi, ne⟩ := st
    exact ⟨⟨old, k e (by simp) _ he⟩, hi.at fun o q => k it (by simp) o q, ne⟩
  item := by
    intro X hP hw hK hc i pins s σ H E I hf st hg
    subst hP hw hK
    obtain ⟨⟨old, he⟩, hit, ne⟩ := st
    obtain ⟨xs, x, hq, hx⟩ := hg
    obtain ⟨its, rv, tp, hz⟩ := I.tuple hq
    obtain ⟨u, hu, ru⟩ := rv.get hx
    have el : e < s.heap.objs.size := Heap.lt_size he
    have il : it < s.heap.objs.size := by
      obtain ⟨_, q, _⟩ := hit
      exact Heap.lt_size q
    have tp' : s.heap.IsTuple a its.toArray := tp
    have nai : a ≠ it := fun z => by
      obtain ⟨o1, g1, c1, _⟩ := tp'
      obtain ⟨o2, g2, c2, _⟩ := hit
      rw [z] at g1
      cases g1.symm.trans g2
      exact absurd (Value.type.inj (c1.symm.trans c2)) (by decide)
    have nea : e ≠ a := fun z => by
      obtain ⟨o1, g1, c1, _⟩ := tp'
      have g2 := he
      rw [z] at g2
      cases g1.symm.trans g2
      exact absurd (Value.type.inj c1) (by decide)
    have hd : X.A.in1.handled = none := I.ok.hd hc
    refine wpAny_pyNext_enum_itemD (Draws.tuple hd it a nai its.toArray) he ⟨hit, tp'⟩ (i := i) (by
      have := (List.getElem?_eq_some_iff.mp hu).1
      simpa using this) ne (by simp [ne, nea]) fun y g tk hy ho st' hT hsz hk => ?_
    have ey : y = u := by
      have : its[i]? = some y := by simpa using hy
      rw [hu] at this
      exact (Option.some.inj this).symm
    subst ey
    refine ⟨_, rfl, wpAny_letOwnedTupleGo_enum (s := { s with heap := g, toks := tk + 1 }) ho fun g2 he' sb => ?_⟩
    have hT2 : g2.get? s.heap.objs.size = some { cls := .type "tuple", data := .seq #[.int i tk, y] } := (sb.2 _ (Nat.ne_of_gt el)).trans hT
    have nw : ObjOk X.prog X.w (upd H s.heap.objs.size (.tup [.int (i : Nat), x])) g2 s.heap.objs.size (.tup [.int (i : Nat), x]) := ⟨by show 2 ≤ sizeLine; decide, [.int i tk, y], .cons ⟨_, rfl⟩ (.cons ru .nil), ⟨_, hT2, rfl, _, rfl⟩⟩
    have I1 : Inv X pins σ (upd H s.heap.objs.size (.tup [.int (i : Nat), x])) { s with heap := g2, toks := tk + 1 } :=
      I.turnedNew (ch := [e, it]) (fun b ob hb q => (sb.2 b (fun z => hb (by simp [z]))).trans (hk b ob (fun z => hb (by simp [z])) (fun z => hb (by simp [z])) q)) hf (Nat.le_refl _) nw
    refine ⟨.ref s.heap.objs.size, _, I1, rfl, ⟨_, x, rfl, I.hok.fresh (Nat.le_refl _), rfl, fun ys hy => by rw [I.tuple_inj hy hq]; exact hx⟩, ⟨⟨y, ?_⟩, st'.1.at fun o q => (sb.2 it (Ne.symm ne)).trans q, ne⟩, fun b hb => ?_⟩
    · rw [show ((i + 1 : Nat) : Int) = (i : Int) + 1 by omega]
      exact he'
    · have hb' : b < s.heap.objs.size := by
        simp only [List.mem_cons, List.not_mem_nil, or_false] at hb
        rcases hb with rfl | rfl
        · exact el
        · exact il
      rw [upd_ne (Nat.ne_of_lt hb')]
      exact (hf b hb).1
  done := by
    intro X hP hw hK hc i pins s σ H E I hf st hg
    subst hP hw hK
    obtain ⟨⟨old, he⟩, hit, ne⟩ := st
    obtain ⟨xs, hq, hx⟩ := hg
    obtain ⟨its, rv, tp, hz⟩ := I.tuple hq
    have tp' : s.heap.IsTuple a its.toArray := tp
    have nai : a ≠ it := fun z => by
      obtain ⟨o1, g1, c1, _⟩ := tp'
      obtain ⟨o2, g2, c2, _⟩ := hit
      rw [z] at g1
      cases g1.symm.trans g2
      exact absurd (Value.type.inj (c1.symm.trans c2)) (by decide)
    have hd : X.A.in1.handled = none := I.ok.hd hc
    have en : its.toArray.size = i := by
      have := rv.length
      simp only [List.size_toArray]
      omega
    obtain ⟨f0, f1, f2, f3, f4, f5⟩ := hf it (by simp)
    exact wpAny_pyNext_enum_endD (Draws.tuple hd it a nai its.toArray) he ⟨by rw [en]; exact hit, tp'⟩ fun g eb => ⟨rfl, I.turned (t' := s.toks) (fun b o hb q => eb b o hb q) f0 f1 f3 f4 f5⟩
  self := fun A i s Q E st h => by
    obtain ⟨⟨_, he⟩, _⟩ := st
    exact wpAny_pyIter_enum he h
def iEnT (K : PySem.W.Frag) (ta : TA) : TI := fun σ H R => ta σ H fun vs G => ∃ a xs, vs = [.ref a] ∧ SqT K G a xs ∧ R (EnT K a) G
theorem pi_enT {X : Cx} {e : Expr} {ta : TA} {p pos tp : Pos} {es : List Expr} {kk : Nat} (hg : Gl X "enumerate") (hm : X.mg "enumerate" = none) (ha : PA X [e] ta) (hs : starEach [e] X.env = [(false, eval e X.env)] := by rfl) :
    PI X (.Tuple es kk tp) (.Call (.Name "enumerate" p) [e] [] pos) (iEnT X.K ta) := by
  refine ⟨fun pins s σ H R I h => ?_⟩
  refine Call_ (ld_blt I hg hm boot_enumerate (PyProof.Rows.callWith_type1 (thn (ha.run pos pins s σ H _ I h) fun us s1 ⟨vs, G, I1, r1, q1⟩ => ?_) hs rfl))
  obtain ⟨a, xs, ex, hq, q⟩ := q1
  subst ex
  cases r1 with
  | cons r rr =>
    cases rr
    cases r
    obtain ⟨its, rv, tq, hz⟩ := I1.tuple hq
    refine gu_call_enum (show s1.heap.IsTuple a its.toArray from tq) fun g he hit hk => wpAny_pyIter_enum he ?_
    have I2 : Inv X pins σ G { s1 with heap := g } := I1.kept (t' := s1.toks) hk
    refine ⟨s1.heap.objs.size + 1, [s1.heap.objs.size + 1, s1.heap.objs.size], _, _, G, rfl, I2, turn_enT a (s1.heap.objs.size + 1) s1.heap.objs.size, ⟨⟨.none, he⟩, hit, Nat.succ_ne_self _⟩, fun b hb => ?_, q⟩
    have le : s1.heap.objs.size ≤ b := by
      simp only [List.mem_cons, List.not_mem_nil, or_false] at hb
      rcases hb with rfl | rfl
      · exact Nat.le_add_right _ _
      · exact Nat.le_refl _
    exact I1.fpOk le (I1.hok.fresh le)
/-- the walk of such a loop: a new pair each turn -/
theorem walk_enT {K : PySem.W.Frag} {a : Addr} {xs : List V} : Walk (EnT K a) xs.length (fun H => SqT K H a xs) (fun i H v G => ∃ T x, xs[i]? = some x ∧ v = .ref T ∧ H T = none ∧ G = upd H T (.tup [.int (i : Nat), x])) where
  goes := fun i H hi h => ⟨xs, xs[i], h, List.getElem?_eq_getElem hi⟩
  stops := fun H h => ⟨xs, h, rfl⟩
  yields := fun i H v G hi h ⟨T, x, e1, e2, e3, e4⟩ => ⟨T, x, e4 xs h, e1, e2, e3⟩
end Gu
namespace Gu
open PySem PySem.Spec PyProof.Rows L2
/-! ### the class Namer, its __init__ -/
def nflds (so : Str) (w : Int) : List (Str × V) := putF "width" (.int w) (putF "rule" (.str so) [])
theorem nflds_rule (so : Str) (w : Int) : (nflds so w).lookup ("rule" : Str) = some (.str so) := by
  unfold nflds
  rw [lookup_putF, if_neg (by decide +kernel), lookup_putF, if_pos rfl]
theorem nflds_width (so : Str) (w : Int) : (nflds so w).lookup ("width" : Str) = some (.int w) := by
  unfold nflds
  rw [lookup_putF, if_pos rfl]
/-- what stands at a namer -/
def NmAt (C : Addr) (H : Hp) (x : Addr) (so : Str) (w : Int) : Prop := ∃ dx, H x = some (.ins C dx (nflds so w))
theorem NmAt.same {C : Addr} {H G : Hp} {x : Addr} {so : Str} {w : Int} (s : Same H G) (h : NmAt C H x so w) : NmAt C G x so w := by
  obtain ⟨dx, e⟩ := h
  exact ⟨dx, s _ _ e⟩
structure NmC (K : PySem.W.Frag) (mg : Str → Option Value) (C : Addr) : Prop where
  cl : Cls K C
  nR : NoAttr K C "rule"
  nW : NoAttr K C "width"
  g : mg "Namer" = some (.ref C)
  ha : PySem.W.findIn K (.ref C) "__class__" = some (some (.builtin "object.__class__"))
  hn : PySem.W.specialIn K (.builtin "object.__class__") "__get__" = some (some (.builtin "getset_descriptor.__get__"))
  ht : PySem.W.takesIn K (.builtin "object.__class__") = some true
  hm : PySem.W.mroIn K C (.type "object") = some true
  kk : PySem.W.kitOne K (.ref C) (.ref C) = some true
  rules : ∃ T, mg "RULES" = some (.ref T) ∧ ∀ H : Hp, SqT K H T (sorts.map V.str)
structure NInitAt (K : PySem.W.Frag) (C : Addr) : Prop where
  ex : ∃ (f : Addr) (fd : FuncData), Mk K C f ∧ Fun K "__init__" "Namer.__init__" s_Namer_init f fd ∧ Binds K fd ps_Namer_init []
section
variable {P : Program} {w : World} {K : PySem.W.Frag} {mg : Str → Option Value} {base : Heap} {C : Addr}
theorem ok_ninit {f : Addr} {fd : FuncData} (B : Bi mg) (S : NmC K mg C) (F : Fun K "__init__" "Namer.__init__" s_Namer_init f fd) (C_is_integer : Cal P w K mg base 1 "is_integer" ps_is_integer (spIsInteger K)) : FnOk P w K mg base CX0 2 f fd ps_Namer_init (spNInit C (NmAt C)) := by
  refine F.ok sc_Namer_init (fun vs H Q E h => ?_) (fun cdv A outer s H vs Q E hr h => ?_)
  · obtain ⟨x, dx, so, w, rfl, _⟩ := h
    rfl
  · obtain ⟨x, dx, so, w, rfl, hx, hso, w0, w1, k⟩ := h
    obtain ⟨T, gT, hT⟩ := S.rules
    refine ⟨_, (pss_cons (ps_if (PW.pt (pw_or (pt_not (pt_val (pe_callB call_isi (by rfl) B.isinstance (by decide +kernel) (pa_cons (pv 1) (pa_cons (pe_bltn (v := .ty "str") (by rfl) B.str (by decide +kernel) rfl) pa_nil))))) (pw_or1 (pt_cmpR op_notIn_seq (pv 1) (pe_glob (v := .ref T) (by rfl) gT rfl) (by rfl))))) pss_never pss_nil)
      (pss_cons (ps_if (pt_not (pt_val (pe_own C_is_integer hr (by decide) (by rfl) (pa_cons (pv 2) (pa_cons (pe_cst B.LEAST_WIDTH (by rfl)) (pa_cons (pe_cst B.MOST_SIGNS (by rfl)) pa_nil)))))) pss_never pss_nil)
      (pss_cons (ps_fld (pv 0) (pv 1) rfl)
      (pss_one (ps_fld (pv 0) (pv 2) rfl))))), ?_⟩
    obtain ⟨t, i1, i2⟩ := Isa.str_str (K := K) (H := H) (z := so)
    refine ⟨_, rfl, _, _, t, _, true, rfl, .ty _, i1, i2, _, rfl, iteF ?_⟩
    refine ⟨_, rfl, T, _, rfl, .inr (hT H), rfl, flat_strs sorts, _, rfl, ?_⟩
    rw [in_strs so sorts, decide_eq_true hso]
    refine iteF ?_
    refine ⟨_, rfl, _, _, _, rfl, .inl ⟨_, rfl, _, rfl, ?_⟩⟩
    rw [decide_eq_true ⟨w0, w1⟩]
    refine iteF ?_
    refine ⟨_, rfl, _, rfl, x, C, dx, [], rfl, hx, S.cl, S.nR, by decide, ?_⟩
    refine ⟨_, rfl, _, rfl, x, C, dx, _, rfl, upd_same, S.cl, S.nW, by exact Nat.lt_of_le_of_lt (length_putF _ _ _) (by decide), ?_⟩
    rw [upd_upd]
    refine k _ ⟨dx, upd_same⟩ fun c o e nc => ?_
    rw [upd_ne nc]
    exact e
theorem mak_nm (B : Bi mg) (S : NmC K mg C) (D : NInitAt K C) (C_is_integer : Cal P w K mg base 1 "is_integer" ps_is_integer (spIsInteger K)) : Mak P w K mg base 2 "Namer" C (spNInit C (NmAt C)) := by
  obtain ⟨f, fd, M, F, b⟩ := D.ex
  exact ⟨f, fd, ps_Namer_init, M, ok_ninit B S F C_is_integer, S.g, b⟩
end
end Gu
namespace Gu
open PySem PySem.Spec PyProof.Rows L2
/-! ### the program: names -/
section
variable {P : Program} {w : World} {K : PySem.W.Frag} {mg : Str → Option Value} {base : Heap} {C : Addr}
/-! texts that are as they should be -/
theorem wd_isTxt {n : Nat} {z : Str} (h : Wd n z) : isTxt z n = true := by
  have e : z.length = z.cps.toList.length := rfl
  have l := h.len
  unfold isTxt
  rw [decide_eq_true (by omega), Bool.true_and, List.all_eq_true]
  exact fun c hc => decide_eq_true (h.sgn c hc)
theorem atP_strs {ts : List Str} {i : Nat} {v : V} (hi : (ts.map V.str)[i]? = some v) : ∃ t, ts[i]? = some t ∧ v = .str t ∧ t ∈ ts := by
  rw [List.getElem?_map] at hi
  cases e : ts[i]? with
  | none =>
    rw [e] at hi
    cases hi
  | some t =>
    rw [e] at hi
    exact ⟨t, rfl, (Option.some.inj hi).symm, List.mem_of_getElem? e⟩
def spCheckNamer (C : Addr) : Sp := fun vs H Q _ => ∃ (x : Addr) (so : Str) (w : Int), vs = [.ref x] ∧ NmAt C H x so w ∧ Q .non H
theorem cal_checkNamer (B : Bi mg) (S : NmC K mg C) (D : At K mg "check_namer" s_check_namer ps_check_namer) : Cal P w K mg base 1 "check_namer" ps_check_namer (spCheckNamer C) := by
  refine D.cal sc_check_namer (fun vs H Q E h => ?_) (fun f cdv A outer s H vs Q E hr h => ?_)
  · obtain ⟨x, so, w, rfl, _⟩ := h
    rfl
  · obtain ⟨x, so, w, rfl, ⟨dx, e1⟩, k⟩ := h
    refine ⟨_, (pss_one (ps_if (pt_not (pt_val (pe_callB call_isi (by rfl) B.isinstance (by decide +kernel) (pa_cons (pv 0) (pa_cons (pe_glob (v := .ref C) (by rfl) S.g rfl) pa_nil))))) pss_never pss_nil)), ?_⟩
    exact ⟨_, rfl, _, _, _, _, true, rfl, .own C, .base (.ins e1 S.cl S.ha S.hn S.ht S.hm), S.kk, _, rfl, iteF k⟩
def spBaseOf (C : Addr) : Sp := fun vs H Q _ => ∃ (x : Addr) (so : Str) (w : Int) (t : Str), vs = [.ref x, .str t] ∧ NmAt C H x so w ∧ t.length ≤ 1000 ∧ Q (.str (nbase w t)) H
theorem cal_baseOf (B : Bi mg) (S : NmC K mg C) (D : At K mg "base_of" s_base_of ps_base_of) : Cal P w K mg base 1 "base_of" ps_base_of (spBaseOf C) := by
  refine D.cal sc_base_of (fun vs H Q E h => ?_) (fun f cdv A outer s H vs Q E hr h => ?_)
  · obtain ⟨x, so, w, t, rfl, _⟩ := h
    rfl
  · obtain ⟨x, so, w, t, rfl, ⟨dx, e1⟩, tl, k⟩ := h
    refine ⟨_, (pss_one (ps_ret (pe_slice sl_str (pv 1) po_none (po_some (pe_fld (pv 0) rfl))))), ?_⟩
    exact ⟨_, rfl, _, rfl, x, C, dx, _, _, rfl, e1, S.cl, S.nW, nflds_width _ _, w, rfl, t, rfl, Nat.le_of_lt (small1000 tl), k⟩
theorem cutS_allP {y : Str} {h : Int} (l : (y.length : Int) ≤ h) : cutS y none (some h) = y := by
  refine str_ext ?_
  have e : y.length = y.cps.toList.length := rfl
  rw [cutS_head y (by omega), List.take_of_length_le (by omega)]
/-- the program's way to cut the base -/
theorem numbered_tight {so : Str} {w : Int} {t : Str} {n : Int} (h : so = ("tight" : String)) : numbered so w t n = cutS (nbase w t) none (some (w - (ending n).length)) ++ ending n := by
  unfold numbered
  rw [decide_eq_true h, Bool.true_and]
  split
  · rfl
  · next e =>
    have e := of_decide_eq_false (Bool.eq_false_iff.mpr e)
    rw [cutS_allP (y := nbase w t) (by omega)]
theorem numbered_other {so : Str} {w : Int} {t : Str} {n : Int} (h : ¬ so = ("tight" : String)) : numbered so w t n = nbase w t ++ ending n := by
  unfold numbered
  rw [decide_eq_false h, Bool.false_and]
  rfl
theorem ending_is (n : Int) : Str.empty ++ (("~" : String) : Str) ++ ((toString n : String) : Str) = ending n := by
  have e : Str.empty ++ (("~" : String) : Str) = (("~" : String) : Str) := by decide +kernel
  rw [e]
  rfl
end
end Gu
namespace Gu
open PySem PySem.Spec PyProof.Rows L2
/-! ### names beside up to twenty texts -/
theorem wd_digit2 {i : Int} (h0 : 0 ≤ i) (h1 : i < 40) : Wd 2 (toString i : String) := by
  obtain ⟨k, rfl⟩ := Int.eq_ofNat_of_zero_le h0
  have a : ∀ k ∈ List.range 40, ((toString (Int.ofNat k) : String) : Str).cps.toList.length ≤ 2 ∧ ∀ c ∈ ((toString (Int.ofNat k) : String) : Str).cps.toList, c ∈ abc.cps.toList := by decide +kernel
  have b := a k (List.mem_range.mpr (by omega))
  exact ⟨b.1, b.2⟩
theorem ending_lenQ {n : Int} (h0 : 0 ≤ n) (h1 : n < 40) : (ending n).length ≤ 3 := by
  have a := (wd_digit2 h0 h1).len
  have e : (ending n).length = 1 + ((toString n : String) : Str).length := by
    show (ending n).cps.toList.length = _
    unfold ending
    rw [str_app, List.length_append]
    rfl
  rw [e]
  show 1 + ((toString n : String) : Str).cps.toList.length ≤ 3
  omega
/-- what stands behind the last ~, from the end -/
def tailQ (z : Str) : List Nat := z.cps.toList.reverse.takeWhile fun c => c != 126
theorem tail_ending (a : Str) {n : Int} (h0 : 0 ≤ n) (h1 : n < 40) : tailQ (a ++ ending n) = tailQ (ending n) := by
  obtain ⟨k, rfl⟩ := Int.eq_ofNat_of_zero_le h0
  have e : ∀ k ∈ List.range 40, ∃ d, (ending (Int.ofNat k)).cps.toList.reverse = d ++ [126] ∧ (∀ c ∈ d, (c != 126) = true) := fun k hk => by
    have x : ∀ k ∈ List.range 40, (ending (Int.ofNat k)).cps.toList.reverse = (ending (Int.ofNat k)).cps.toList.reverse.dropLast ++ [126] ∧ (∀ c ∈ (ending (Int.ofNat k)).cps.toList.reverse.dropLast, (c != 126) = true) := by decide +kernel
    exact ⟨_, x k hk⟩
  obtain ⟨d, e1, e2⟩ := e k (List.mem_range.mpr (by omega))
  have go : ∀ (d r : List Nat), (∀ c ∈ d, (c != 126) = true) → (d ++ 126 :: r).takeWhile (fun c => c != 126) = d := by
    intro d
    induction d with
    | nil => exact fun r _ => rfl
    | cons c d ih =>
      intro r h
      rw [List.cons_append, List.takeWhile_cons, h c (List.mem_cons_self ..), if_pos rfl, ih r fun x hx => h x (List.mem_cons_of_mem _ hx)]
  have e1 : (ending ((k : Nat) : Int)).cps.toList.reverse = d ++ [126] := e1
  unfold tailQ
  rw [str_app, List.reverse_append, e1, List.append_assoc]
  show (d ++ 126 :: a.cps.toList.reverse).takeWhile _ = _
  rw [go _ _ e2, go d [] e2]
theorem tail_inj : ∀ i ∈ List.range 36, ∀ j ∈ List.range 36, tailQ (ending (2 + (i : Int))) = tailQ (ending (2 + (j : Int))) → i = j := by decide +kernel
theorem cand_tail (so : Str) (w : Int) (t : Str) {i : Nat} (h : i < 36) : tailQ (cand so w t i) = tailQ (ending (2 + (i : Int))) := by
  unfold cand numbered
  split
  · exact tail_ending _ (by omega) (by omega)
  · exact tail_ending _ (by omega) (by omega)
theorem cands_nodupQ (so : Str) (w : Int) (t : Str) : ∀ n, n ≤ 36 → ((List.range n).map (cand so w t)).Nodup
  | 0, _ => List.nodup_nil
  | n + 1, h => by
    rw [List.range_succ, List.map_append]
    refine List.nodup_append.mpr ⟨cands_nodupQ so w t n (by omega), List.nodup_cons.mpr ⟨List.not_mem_nil, List.nodup_nil⟩, fun x hx y hy e => ?_⟩
    obtain ⟨i, hi, rfl⟩ := List.mem_map.mp hx
    have hi := List.mem_range.mp hi
    rw [List.mem_singleton.mp hy] at e
    have a := cand_tail so w t (i := i) (by omega)
    rw [e, cand_tail so w t (i := n) (by omega)] at a
    have := tail_inj n (List.mem_range.mpr (by omega)) i (List.mem_range.mpr (by omega)) a
    omega
theorem some_freeQ {so : Str} {w : Int} {t : Str} {ys : List Str} (h : ys.length ≤ 24) (a : ∀ j, j < ys.length + 1 → cand so w t j ∈ ys) : False := by
  have := fewer _ ys (cands_nodupQ so w t (ys.length + 1) (by omega)) fun x hx => by
    obtain ⟨i, hi, rfl⟩ := List.mem_map.mp hx
    exact a i (List.mem_range.mp hi)
  rw [List.length_map, List.length_range] at this
  omega
theorem wd_numberedQ {n : Nat} {t : Str} {so : Str} {w k : Int} (h : Wd n t) (h0 : 0 ≤ k) (h1 : k < 40) : Wd (n + 3) (numbered so w t k) := by
  have a : Wd 3 (ending k) := (wd_lit (z := ("~" : String)) (n := 1) (by decide +kernel)).app (wd_digit2 h0 h1) (by decide)
  unfold numbered
  split
  · exact ((wd_base h w).cut _ _).app a (Nat.le_refl _)
  · exact (wd_base h w).app a (Nat.le_refl _)
theorem wd_seekQ {n : Nat} {so : Str} {w : Int} {t : Str} {ys : List Str} (h : Wd n t) : ∀ (k a : Nat), a + k < 36 → Wd (n + 3) (seek (cand so w t) ys k a)
  | 0, a, l => wd_numberedQ h (by omega) (by omega)
  | k + 1, a, l => by
    unfold seek
    split
    · exact wd_seekQ h k (a + 1) (by omega)
    · exact wd_numberedQ h (by omega) (by omega)
theorem wd_nameQ {n : Nat} {so : Str} {w : Int} {t : Str} {ps : List (Str × Str)} (h : Wd n t) (l : ps.length ≤ 24) : Wd (n + 3) (nameOf so w t ps) := by
  have m : (mates w t ps).length ≤ ps.length := List.length_filter_le ..
  unfold nameOf
  split
  · split
    · exact (wd_base h w).mono (by omega)
    · exact wd_numberedQ h (by omega) (by omega)
  · split
    · exact wd_seekQ h _ _ (by rw [List.length_map]; omega)
    · exact (wd_base h w).mono (by omega)
end Gu
namespace Gu
open PySem PySem.Spec PyProof.Rows L2
section
variable {P : Program} {w : World} {K : PySem.W.Frag} {mg : Str → Option Value} {base : Heap} {C : Addr}
def spNumQ (C : Addr) : Sp := fun vs H Q _ => ∃ (x : Addr) (so : Str) (w n : Int) (t : Str), vs = [.ref x, .str (nbase w t), .int n] ∧ NmAt C H x so w ∧ 0 ≤ n ∧ n < 40 ∧ t.length ≤ 1000 ∧ Q (.str (numbered so w t n)) H
theorem cal_numQ (B : Bi mg) (S : NmC K mg C) (D : At K mg "numbered" s_numbered ps_numbered) : Cal P w K mg base 1 "numbered" ps_numbered (spNumQ C) := by
  refine D.cal sc_numbered (fun vs H Q E h => ?_) (fun f cdv A outer s H vs Q E hr h => ?_)
  · obtain ⟨x, so, w, n, t, rfl, _⟩ := h
    rfl
  · obtain ⟨x, so, w, n, t, rfl, ⟨dx, e1⟩, n0, n1, tl, k⟩ := h
    have el := ending_lenQ n0 n1
    have bl : (nbase w t).length ≤ t.length := cutS_length t none (some w)
    have s1 : (Str.empty ++ (("~" : String) : Str)).length = 1 := by decide +kernel
    refine ⟨_, (pss_cons (ps_set (i := 3) sc_numbered.nd rfl (.inl rfl) (pe_joined (.cons pe_str (.cons (pe_fmt (pv 2)) .nil))))
      (pss_cons (ps_if (pt_cmpR op_eq (pe_fld (pv 0) rfl) pe_str (nomark _)) (pss_one (ps_ret (pe_op op_add_str (pe_slice sl_str (pv 1) po_none (po_some (pe_op op_sub (pe_fld (pv 0) rfl) (pe_callB call_len (by rfl) B.len (by decide +kernel) (pa_cons (pv 3) pa_nil))))) (pv 3)))) pss_nil)
      (pss_one (ps_ret (pe_op op_add_str (pv 1) (pv 3)))))), ?_⟩
    refine ⟨_, rfl, by rw [s1]; decide, _, rfl, .inr ⟨n, rfl, log_small n0 (by omega), _, rfl, ?_, ?_⟩⟩
    · rw [ending_is]
      exact Nat.le_of_lt (small1000 (by omega))
    rw [ending_is]
    refine ⟨_, rfl, x, C, dx, _, _, rfl, e1, S.cl, S.nR, nflds_rule _ _, rfl, _, rfl, ite2 (fun h1 => ?_) (fun h1 => ?_)⟩
    · rw [str_eq_iff] at h1
      rw [numbered_tight (of_decide_eq_true h1)] at k
      refine ⟨_, rfl, _, rfl, x, C, dx, _, _, rfl, e1, S.cl, S.nW, nflds_width _ _, _, rfl, _, _, rfl, ⟨Nat.le_of_lt (small1000 (by omega)), rfl⟩, _, _, rfl, rfl, _, rfl, _, rfl, Nat.le_of_lt (small1000 (by omega)), _, rfl, _, _, rfl, rfl, ?_, k⟩
      have a := cutS_length (nbase w t) none (some (w - ((ending n).length : Int)))
      exact Nat.le_of_lt (Nat.lt_of_le_of_lt (show _ ≤ 2000 by omega) (by decide))
    · rw [str_eq_iff] at h1
      rw [numbered_other (of_decide_eq_false (Bool.eq_false_iff.mpr h1))] at k
      refine ⟨_, rfl, _, rfl, _, _, rfl, rfl, ?_, k⟩
      exact Nat.le_of_lt (Nat.lt_of_le_of_lt (show _ ≤ 2000 by omega) (by decide))
/-- how many of us have the base of t -/
def alike (w : Int) (t : Str) (us : List Str) : List Str := us.filter fun u => decide (nbase w u = nbase w t)
def countedOf (so : Str) (w : Int) (t : Str) (us : List Str) : Str := if (alike w t us).length = 0 then nbase w t else numbered so w t (((alike w t us).length : Int) + 1)
def spCountedQ (K : PySem.W.Frag) (C : Addr) : Sp := fun vs H Q _ => ∃ (x l : Addr) (so : Str) (w : Int) (t : Str) (us : List Str), vs = [.ref x, .str (nbase w t), .ref l] ∧ NmAt C H x so w ∧ t.length ≤ 1000 ∧ SqT K H l (us.map V.str) ∧ us.length ≤ 24 ∧ (∀ u ∈ us, Wd 200 u) ∧ ∀ G, Same H G → Q (.str (countedOf so w t us)) G
theorem cal_countedQ (B : Bi mg) (S : NmC K mg C) (D : At K mg "counted_name" s_counted_name ps_counted_name) (C_base_of : Cal P w K mg base 1 "base_of" ps_base_of (spBaseOf C)) (C_numbered : Cal P w K mg base 1 "numbered" ps_numbered (spNumQ C)) : Cal P w K mg base 2 "counted_name" ps_counted_name (spCountedQ K C) := by
  refine D.cal sc_counted_name (fun vs H Q E h => ?_) (fun f cdv A outer s H vs Q E hr h => ?_)
  · obtain ⟨x, l, so, w, t, us, rfl, _⟩ := h
    rfl
  · obtain ⟨x, l, so, w, t, us, rfl, hN, tl, hl, u6, wu, k⟩ := h
    refine ⟨_, (pss_cons (ps_set (i := 3) sc_counted_name.nd rfl (.inl rfl) (pe_op op_add pe_int (pe_callB call_len (by rfl) B.len (by decide +kernel) (pa_cons (pe_lc (own := [("text", 4)]) (by rfl) sc_counted_name.nd (pi_tup (pv 2)) (blkOk_by (own := [("text", 4)]) (N := ["namer", "base", "texts", "number", "text"]) (sc := defScope s_counted_name) (by decide +kernel)) (fun _ _ _ _ _ => pg_name (i := 4) sc_counted_name.nd rfl (.inl rfl)) (fun _ _ _ _ _ => (pts_one (pt_cmpR op_eq (pe_own C_base_of hr (by decide) (by rfl) (pa_cons (pv 0) (pa_cons (pv 4) pa_nil))) (pv 1) (nomark _)))) (fun _ _ _ _ _ => (pv 4))) pa_nil))))
      (pss_one (ps_ret (pe_mid (pe_ifExp (pt_cmpR op_eq (pv 3) pe_int (nomark _)) (pv 1) (pe_own C_numbered hr (by decide) (by rfl) (pa_cons (pv 0) (pa_cons (pv 1) (pa_cons (pv 3) pa_nil))))))))), ?_⟩
    refine ⟨_, rfl, l, rfl, ⟨_, hl⟩, fun M nM => lc_tup (K := K) (a := l) (xs := us.map V.str) (fun i J => J M = some (.lst ((alike w t (us.take i)).map V.str)) ∧ Same H J)
      ⟨upd_same, same_new nM⟩ (fun i J _ ⟨_, sJ⟩ => st_same sJ hl) ?_ ?_⟩
    · rintro i v J hi ⟨eM, sJ⟩
      obtain ⟨u, hu, rfl, mu⟩ := atP_strs hi
      have ul : u.length ≤ 200 := (wu u mu).len
      refine ⟨rfl, _, rfl, _, rfl, x, so, w, u, rfl, hN.same sJ, by omega, _, rfl, rfl, _, rfl, ?_⟩
      rw [str_eq_iff]
      refine ite2 (fun hb => ?_) (fun hb => ?_)
      · refine ⟨_, rfl, _, eM, small1000 ?_, ?_, same_off sJ nM⟩
        · rw [List.length_map]
          refine Nat.le_trans (List.length_filter_le ..) ?_
          rw [List.length_take]
          omega
        · unfold alike
          rw [upd_same, take_next hu, List.filter_append, List.map_append, List.filter_cons, hb]
          rfl
      · refine ⟨?_, sJ⟩
        unfold alike at eM ⊢
        rw [eM, take_next hu, List.filter_append, List.filter_cons, Bool.eq_false_iff.mpr hb]
        simp only [Bool.false_eq_true, if_false, List.filter_nil, List.append_nil]
    · rintro J ⟨eM, sJ⟩
      rw [List.length_map, List.take_length] at eM
      have a6 : (alike w t us).length ≤ us.length := List.length_filter_le ..
      refine ⟨_, _, rfl, .inl ⟨_, .inl (.inl eM), rfl⟩, _, _, rfl, rfl, ?_⟩
      rw [List.length_map]
      refine ⟨fun v J1 => v = .str (countedOf so w t us) ∧ Same H J1, ?_, ?_⟩
      · refine ⟨_, rfl, rfl, _, rfl, ite2 (fun h1 => ?_) (fun h1 => ?_)⟩
        · have h1 : (alike w t us).length = 0 := by
            have := V.int.inj (of_decide_eq_true h1)
            omega
          refine ⟨_, rfl, ?_, sJ⟩
          unfold countedOf
          rw [if_pos h1]
        · have h1 : ¬ (alike w t us).length = 0 := fun h => h1 (decide_eq_true (by rw [h]; rfl))
          refine ⟨_, rfl, _, rfl, _, rfl, x, so, w, _, t, rfl, hN.same sJ, by omega, by omega, tl, ?_, sJ⟩
          unfold countedOf
          rw [if_neg h1, Int.add_comm]
      · rintro _ J1 ⟨rfl, s1⟩
        exact k J1 s1
/-- the names that are triedP -/
def triedP (so : Str) (w : Int) (t : Str) : Nat → Str
  | 0 => nbase w t
  | i + 1 => cand so w t i
def freeP (so : Str) (w : Int) (t : Str) (ys : List Str) : Str := if nbase w t ∈ ys then seek (cand so w t) ys ys.length 0 else nbase w t
theorem triedQ_free {so : Str} {w : Int} {t : Str} {ys : List Str} (l : ys.length ≤ 24) {i : Nat} (a : ∀ j, j < i → triedP so w t j ∈ ys) : i ≤ ys.length + 1 := by
  refine Decidable.byContradiction fun h => some_freeQ (so := so) (w := w) (t := t) l fun j hj => ?_
  exact a (j + 1) (by omega)
theorem triedQ_is {so : Str} {w : Int} {t : Str} {ys : List Str} (l : ys.length ≤ 24) {i : Nat} (a : ∀ j, j < i → triedP so w t j ∈ ys) (b : triedP so w t i ∉ ys) : freeP so w t ys = triedP so w t i := by
  have h := triedQ_free l a
  unfold freeP
  cases i with
  | zero => rw [if_neg (show nbase w t ∉ ys from b)]; rfl
  | succ i =>
    rw [if_pos (show nbase w t ∈ ys from a 0 (by omega))]
    have e := seek_at (f := cand so w t) (ys := ys) i ys.length 0 (by omega) (fun j hj => by
      rw [Nat.zero_add]
      exact a (j + 1) (by omega)) (by
      rw [Nat.zero_add]
      exact b)
    rw [Nat.zero_add] at e
    exact e
def spFreeQ (K : PySem.W.Frag) (C : Addr) : Sp := fun vs H Q _ => ∃ (x l : Addr) (so : Str) (w : Int) (t : Str) (ys : List Str), vs = [.ref x, .str (nbase w t), .ref l] ∧ NmAt C H x so w ∧ t.length ≤ 1000 ∧ SqT K H l (ys.map V.str) ∧ ys.length ≤ 24 ∧ Q (.str (freeP so w t ys)) H
theorem cal_freeQ (B : Bi mg) (D : At K mg "free_name" s_free_name ps_free_name) (C_numbered : Cal P w K mg base 1 "numbered" ps_numbered (spNumQ C)) : Cal P w K mg base 2 "free_name" ps_free_name (spFreeQ K C) := by
  refine D.cal sc_free_name (fun vs H Q E h => ?_) (fun f cdv A outer s H vs Q E hr h => ?_)
  · obtain ⟨x, l, so, w, t, ys, rfl, _⟩ := h
    rfl
  · obtain ⟨x, l, so, w, t, ys, rfl, hN, tl, hl, y6, k⟩ := h
    refine ⟨_, (pss_cons (ps_set (i := 3) sc_free_name.nd rfl (.inl rfl) (pv 1))
      (pss_cons (ps_set (i := 4) sc_free_name.nd rfl (.inl rfl) pe_int)
      (pss_cons (ps_while PassesOwn.never (pt_cmpR op_in_seq (pv 3) (pv 2) (by rfl))
      (pss_cons (ps_aug (i := 4) sc_free_name.nd rfl (.inl rfl) pe_int ip_add)
      (pss_one (ps_set (i := 3) sc_free_name.nd rfl (.inl rfl) (pe_own C_numbered hr (by decide) (by rfl) (pa_cons (pv 0) (pa_cons (pv 1) (pa_cons (pv 4) pa_nil))))))))
      (pss_one (ps_ret (pv 3)))))), ?_⟩
    refine ⟨_, rfl, ?_⟩
    refine ⟨fun m σ J => ∃ i : Nat, m = 40 - i ∧ σ = [some (.ref x), some (.str (nbase w t)), some (.ref l), some (.str (triedP so w t i)), some (.int (1 + (i : Int)))] ∧ J = H ∧ ∀ j, j < i → triedP so w t j ∈ ys, ⟨40, 0, rfl, rfl, rfl, fun j hj => absurd hj (by omega)⟩, ?_⟩
    rintro m σ J ⟨i, rfl, rfl, rfl, hj⟩
    have hi := triedQ_free y6 hj
    refine ⟨_, rfl, _, rfl, l, _, rfl, .inr hl, rfl, flat_strs ys, _, rfl, ?_⟩
    rw [in_strs]
    refine ite2 (fun h1 => ?_) (fun h1 => ?_)
    · have h1 : triedP so w t i ∈ ys := of_decide_eq_true h1
      have hj2 : ∀ j, j < i + 1 → triedP so w t j ∈ ys := fun j hj3 => by
        rcases Nat.lt_or_ge j i with h | h
        · exact hj j h
        · rw [show j = i by omega]
          exact h1
      have hi2 := triedQ_free y6 hj2
      refine ⟨_, fun σ' H' h => h, _, rfl, _, _, rfl, rfl, ?_⟩
      refine ⟨_, rfl, _, rfl, _, rfl, x, so, w, _, t, rfl, hN, by show (0 : Int) ≤ 1 + (i : Int) + 1; omega, by show 1 + (i : Int) + 1 < 40; omega, tl, ?_⟩
      refine ⟨40 - (i + 1), by omega, i + 1, rfl, ?_, rfl, hj2⟩
      have e : (1 + (i : Int) + 1) = 2 + (i : Int) := by omega
      have e2 : (1 + ((i + 1 : Nat) : Int)) = 2 + (i : Int) := by omega
      rw [e2]
      show [_, _, _, some (V.str (numbered so w t (1 + (i : Int) + 1))), some (V.int (1 + (i : Int) + 1))] = _
      rw [e]
      rfl
    · have h1 : triedP so w t i ∉ ys := fun h => h1 (decide_eq_true h)
      rw [triedQ_is y6 hj h1] at k
      exact ⟨_, rfl, k⟩
/-- a name by what is there -/
def nextOf (so : Str) (w : Int) (t : Str) (us ys : List Str) : Str := if so = ("count" : String) then countedOf so w t us else freeP so w t ys
def spNextQ (K : PySem.W.Frag) (C : Addr) : Sp := fun vs H Q _ => ∃ (x a l : Addr) (so : Str) (w : Int) (t : Str) (us ys : List Str), vs = [.ref x, .str t, .ref a, .ref l] ∧ NmAt C H x so w ∧ t.length ≤ 1000 ∧ SqT K H a (us.map V.str) ∧ us.length ≤ 24 ∧ (∀ u ∈ us, Wd 200 u) ∧ SqT K H l (ys.map V.str) ∧ ys.length ≤ 24 ∧ ∀ G, Same H G → Q (.str (nextOf so w t us ys)) G
theorem cal_nextQ (B : Bi mg) (S : NmC K mg C) (D : At K mg "name_of_next" s_name_of_next ps_name_of_next) (C_base_of : Cal P w K mg base 1 "base_of" ps_base_of (spBaseOf C)) (C_counted_name : Cal P w K mg base 2 "counted_name" ps_counted_name (spCountedQ K C)) (C_free_name : Cal P w K mg base 2 "free_name" ps_free_name (spFreeQ K C)) : Cal P w K mg base 3 "name_of_next" ps_name_of_next (spNextQ K C) := by
  refine D.cal sc_name_of_next (fun vs H Q E h => ?_) (fun f cdv A outer s H vs Q E hr h => ?_)
  · obtain ⟨x, a, l, so, w, t, us, ys, rfl, _⟩ := h
    rfl
  · obtain ⟨x, a, l, so, w, t, us, ys, rfl, hN, tl, ha, u6, wu, hl, y6, k⟩ := h
    obtain ⟨dx, e1⟩ := id hN
    refine ⟨_, (pss_cons (ps_set (i := 4) sc_name_of_next.nd rfl (.inl rfl) (pe_own C_base_of hr (by decide) (by rfl) (pa_cons (pv 0) (pa_cons (pv 1) pa_nil))))
      (pss_cons (ps_if (pt_cmpR op_eq (pe_fld (pv 0) rfl) pe_str (nomark _)) (pss_one (ps_ret (pe_own C_counted_name hr (by decide) (by rfl) (pa_cons (pv 0) (pa_cons (pv 4) (pa_cons (pv 2) pa_nil)))))) pss_nil)
      (pss_one (ps_ret (pe_own C_free_name hr (by decide) (by rfl) (pa_cons (pv 0) (pa_cons (pv 4) (pa_cons (pv 3) pa_nil)))))))), ?_⟩
    refine ⟨_, rfl, _, rfl, x, so, w, t, rfl, hN, tl, ?_⟩
    refine ⟨_, rfl, x, C, dx, _, _, rfl, e1, S.cl, S.nR, nflds_rule _ _, rfl, _, rfl, ite2 (fun h1 => ?_) (fun h1 => ?_)⟩
    · rw [str_eq_iff] at h1
      unfold nextOf at k
      rw [if_pos (of_decide_eq_true h1)] at k
      exact ⟨_, rfl, _, rfl, _, rfl, x, a, so, w, t, us, rfl, hN, tl, ha, u6, wu, k⟩
    · rw [str_eq_iff] at h1
      unfold nextOf at k
      rw [if_neg (of_decide_eq_false (Bool.eq_false_iff.mpr h1))] at k
      exact ⟨_, rfl, _, rfl, _, rfl, x, l, so, w, t, ys, rfl, hN, tl, hl, y6, k H (Same.refl H)⟩
end
end Gu
namespace Gu
open PySem PySem.Spec PyProof.Rows L2
/-! ### tuples of which the object is known too: their methods -/
def FT (H : Hp) (a : Addr) (xs : List V) : Prop := ∃ o : Obj, H a = some (.frz o (.tup xs)) ∧ o.cls = .type "tuple" ∧ o.dict = none
theorem FT.sq {K : PySem.W.Frag} {H : Hp} {a : Addr} {xs : List V} (h : FT H a xs) : SqT K H a xs := by
  obtain ⟨o, e, _⟩ := h
  exact .inl (.inr ⟨o, e⟩)
theorem FT.same {H G : Hp} {a : Addr} {xs : List V} (s : Same H G) (h : FT H a xs) : FT G a xs := by
  obtain ⟨o, e, r⟩ := h
  exact ⟨o, s _ _ e, r⟩
section
variable {X : Cx}
theorem ft_laid {pins : List (Addr × Obj)} {σ : L2.St} {H : Hp} {s : Shared} {Q : VK} {xs : List V} {us : List Value} (I : Inv X pins σ H s) (r : Vals xs us) (z : xs.length ≤ sizeLine) (q : ∀ U G, Same H G → FT G U xs → H U = none → Q (.ref U) G) :
    EP X pins σ Q (.ref s.heap.objs.size) { s with heap := s.heap.push { cls := .type "tuple", data := .seq us.toArray } } := by
  have hf : H s.heap.objs.size = none := I.hok.fresh (Nat.le_refl _)
  refine ⟨.ref s.heap.objs.size, upd H s.heap.objs.size (.frz { cls := .type "tuple", data := .seq us.toArray } (.tup xs)), I.laid (t' := s.toks) (fun b u e => Heap.get?_push_of_some _ e) (Nat.le_refl _) ?_, rfl, q _ _ (same_new hf) ⟨_, upd_same, rfl, rfl⟩ hf⟩
  exact ⟨Heap.get?_push_size _ rfl, z, us, r, ⟨_, Heap.get?_push_size _ rfl, rfl, _, rfl⟩⟩
def tTupF (t : TA) : TE := fun σ H Q => t σ H fun xs H1 => xs.length ≤ sizeLine ∧ ∀ U G, Same H1 G → FT G U xs → H1 U = none → Q (.ref U) G
theorem pe_tupF {es : List Expr} {t : TA} {x1 : Nat} {pos : Pos} (h : PA X es t) : PE X (.Tuple es x1 pos) (tTupF t) := by
  refine ⟨fun pins s σ H Q I hq => ?_⟩
  exact wpAny_Tuple_spliced (thn (h.run pos pins s σ H _ I hq) fun us s1 ⟨xs, H1, I1, r, z, q⟩ => ⟨by rw [← r.length]; exact z, ft_laid I1 r z q⟩)
def rCatF (H1 : Unit) : R2 := fun x y H Q => ∃ a b xs ys, x = .ref a ∧ y = .ref b ∧ FT H a xs ∧ FT H b ys ∧ xs.length + ys.length ≤ sizeLine ∧ ∀ U G, Same H G → FT G U (xs ++ ys) → Q (.ref U) G
theorem op_catF : OpR X (binaryOp .Add) (rCatF ()) := by
  intro pins s σ H x y v u Q I rx ry h
  obtain ⟨a, b, xs, ys, rfl, rfl, ha, hb, hz, q⟩ := h
  cases rx
  cases ry
  obtain ⟨its, r1, p1, _⟩ := I.tuple ha.sq
  obtain ⟨its2, r2, p2, _⟩ := I.tuple hb.sq
  by_cases hx : xs = []
  · subst hx
    cases r1
    exact cat_tup0 p1 p2 ⟨.ref b, H, I, rfl, q b H (Same.refl H) hb⟩
  · refine HT.cat_tup p1 p2 (fun z => hx (r1.nil_iff.mp z)) (fun z => ?_) (fun z => ?_) (by rw [← r1.length, ← r2.length]; exact hz)
    · have e := r2.nil_iff.mp z
      subst e
      exact ⟨.ref a, H, I, rfl, q a H (Same.refl H) (by rw [List.append_nil]; exact ha)⟩
    · exact ft_laid I (r1.append r2) (by rw [List.length_append]; exact hz) fun U G sG f _ => q U G sG f
def rSlF (H1 : Unit) : V → Option Int → Option Int → Hp → VK → Prop := fun x lo hi H Q => ∃ a xs, x = .ref a ∧ FT H a xs ∧ ∀ U G, Same H G → FT G U (cutV xs lo hi) → Q (.ref U) G
theorem sl_tupF : SlR X (rSlF ()) := by
  intro pins s σ H x v vl vu lo hi sl Q I rx hs pl pu h
  obtain ⟨a, xs, rfl, hx, q⟩ := h
  cases rx
  obtain ⟨its, r, ht, hz⟩ := I.tuple hx.sq
  have hlen : its.toArray.size = xs.length := by rw [List.size_toArray]; exact r.length.symm
  refine ⟨"tuple", _, PyProof.Rows.slot_tuple_getitem.lookup, ht.typeIs, ?_⟩
  by_cases hw : HT.sIx xs.length 0 lo = 0 ∧ HT.sIx xs.length xs.length hi = xs.length
  · refine getItem_tuple_whole ht hs pl pu (by rw [hlen]; exact hw) ⟨.ref a, H, I, rfl, q a H (Same.refl H) ?_⟩
    unfold cutV
    rw [hw.1, hw.2, List.drop_zero, Nat.sub_zero, List.take_length]
    exact hx
  · refine HT.getItem_tuple_cut ht hs pl pu (by rw [hlen]; exact hw) ?_ (by rw [hlen]; exact hz)
    rw [hlen]
    exact ft_laid I ((r.drop (HT.sIx xs.length 0 lo)).take (HT.sIx xs.length xs.length hi - HT.sIx xs.length 0 lo)) (Nat.le_trans (cutV_length xs lo hi) hz) fun U G sG f _ => q U G sG f
/-- t.m(e), t such a tuple -/
def tBMF (r : V → List V → Hp → VK → Prop) (to : TE) (t : TA) : TE := fun σ H Q => to σ H fun x H1 => (∃ a xs, x = .ref a ∧ FT H1 a xs) ∧ t σ H1 fun ys H2 => r x ys H2 Q
theorem pe_bmF {o e : Expr} {es : List Expr} {to : TE} {t : TA} {name : Str} {apos cpos : Pos} {id : String} {r : V → List V → Hp → VK → Prop} (pa : PlainAttrs "tuple") (slot : Slot "tuple" name id) (hty : typeOf (.builtin id) = pure (.type "method_descriptor")) (hm : MtR X id r) (ho : PE X o to) (ha : PA X (e :: es) t)
    (hbase : attributeBase o name X.env (eval o X.env) = eval o X.env := by rfl)
    (hfew : ((backTo cpos (starEach (e :: es) X.env)).all (fun x => !x.1) && (backToKw cpos (keywordEach [] X.env)).all (fun x => x.1.isSome) && decide ((e :: es).length + ([] : List Keyword).length + (if ([] : List Keyword).isEmpty then 0 else 1) < 30)) = true := by rfl)
    (hline : (apos.endLine == cpos.line) = true := by rfl) (hs : starEach (e :: es) X.env = (false, eval e X.env) :: starEach es X.env := by rfl) (hplain : (backTo cpos (starEach es X.env)).any (·.1) = false := by rfl) :
    PE X (.Call (.Attribute o name apos) (e :: es) [] cpos) (tBMF r to t) := by
  refine ⟨fun pins s σ H Q I h => wpAny_Call_method_late hbase hfew hline rfl (thn (ho.run pins s σ H _ I h) fun v s1 ⟨x, H1, I1, r1, ⟨a, xs, ex, o, eo, hc, hd⟩, q1⟩ => ?_)⟩
  subst ex
  cases r1
  have at1 : s1.heap.get? a = some o := (I1.hok a _ eo).1
  refine ⟨"tuple", id, pa, slot, hty, ⟨o, at1, hc⟩, fun b e => by cases e; exact ⟨o, at1, hd⟩, ?_⟩
  have hA := ha.run cpos pins s1 σ H1 _ I1 q1
  rw [hs] at hA ⊢
  exact Calls.callWith_builtin (by show (false || (backTo cpos (starEach es X.env)).any (·.1)) = false; rw [hplain] <;> rfl) (Calls.evalArgs_plain (thn hA fun us s2 ⟨vs, H2, I2, r2, q2⟩ => hm pins s2 σ H2 (.ref a) vs (.ref a) us Q I2 rfl r2 q2))
end
end Gu
namespace Gu
open PySem PySem.Spec PyProof.Rows L2
/-! ### methods -/
structure MethAt (K : PySem.W.Frag) (C : Addr) (m q : Str) (st : Stmt) (ps : List Str) : Prop where
  ex : ∃ (f : Addr) (fd : FuncData), Meth K C m f ∧ Fun K m q st f fd ∧ Binds K fd ps []
structure CalM (P : Program) (w : World) (K : PySem.W.Frag) (mg : Str → Option Value) (base : Heap) (k : Nat) (C : Addr) (m : Str) (ps : List Str) (sp : Sp) : Prop where
  ex : ∃ (f : Addr) (fd : FuncData), Meth K C m f ∧ FnOk P w K mg base CX0 k f fd ps sp ∧ Binds K fd ps []
section
variable {P : Program} {w : World} {K : PySem.W.Frag} {mg : Str → Option Value} {base : Heap} {C : Addr}
theorem MethAt.cal {m q : Str} {st : Stmt} {N ps : List Str} {k : Nat} {sp : Sp} (D : MethAt K C m q st ps) (S : FnScope N ps (defScope st)) (len : ∀ vs H Q E, sp vs H Q E → vs.length = ps.length)
    (body : ∀ (f : Addr) (cdv : Value) (A : Around) (outer : List Env) (s : Shared) (H : Hp) (vs : List V) (Q : VK) (E : XK), Room k (A.deeper (envOfC q (defScope st) s.heap.objs.size f cdv)) → sp vs H Q E →
      ∃ t, PSs (cxOf CX0 P w K mg base N q (defScope st) f cdv A outer s H E).nox (defBody st) t ∧ t { nx := fun _ G => Q .non G, rt := Q } (start N vs) H) : CalM P w K mg base (k + 1) C m ps sp := by
  obtain ⟨f, fd, M, F, b⟩ := D.ex
  exact ⟨f, fd, M, F.ok S len (body f), b⟩
end
section
variable {X : Cx} {k j : Nat} {m : Str} {ps : List Str} {sp : Sp} {apos pos : Pos} {o e : Expr} {es : List Expr} {t : TA} {ta : TE} {C : Addr}
theorem pe_mth (c : CalM X.prog X.w X.K X.mg X.base k C m ps sp) (cl : Cls X.K C) (hr : Room j X.A) (hk : k ≤ j) (he : PE X o ta) (ha : PA X (e :: es) t) {pl : Sem Bool}
    (hst : starEach (e :: es) X.env = (false, eval e X.env) :: starEach es X.env := by rfl) (hpl : (backTo pos (starEach es X.env)).any (·.1) = false := by rfl)
    (ht : eval (.Call (.Attribute o m apos) (e :: es) [] pos) X.env = (do
      let ov ← eval o X.env
      standAt apos.atName
      let (f, first) ← holding [ov] (getMethod ov m pl)
      callWith pos f first (backTo pos (starEach (e :: es) X.env)) (backToKw pos (keywordEach [] X.env))) := by rfl) : PE X (.Call (.Attribute o m apos) (e :: es) [] pos) (tMeth C m sp [] E0 ta t) := by
  obtain ⟨f, fd, M, F, b⟩ := c.ex
  exact pe_meth he cl M F (hr.mono hk) b .nil pass0 ha hst hpl ht
theorem pe_mth0 (c : CalM X.prog X.w X.K X.mg X.base k C m ps sp) (cl : Cls X.K C) (hr : Room j X.A) (hk : k ≤ j) (he : PE X o ta) {pl : Sem Bool}
    (ht : eval (.Call (.Attribute o m apos) [] [] pos) X.env = (do
      let ov ← eval o X.env
      standAt apos.atName
      let (f, first) ← holding [ov] (getMethod ov m pl)
      callWith pos f first (backTo pos (starEach [] X.env)) (backToKw pos (keywordEach [] X.env))) := by rfl) : PE X (.Call (.Attribute o m apos) [] [] pos) (tMeth C m sp [] E0 ta tNil) := by
  obtain ⟨f, fd, M, F, b⟩ := c.ex
  exact pe_meth0 he cl M F (hr.mono hk) b .nil pass0 ht
end
/-! ### shelves in the heap -/
abbrev Prs := List (Str × Str)
def txts (ps : Prs) : List V := (ps.map (·.1)).map V.str
def nms (ps : Prs) : List V := (ps.map (·.2)).map V.str
structure Sf where
  so : Str
  w : Int
  ps : Prs
  past : List Prs
  busy : Bool
structure PrsOk (ps : Prs) : Prop where
  len : ps.length ≤ 20
  wd : ∀ q ∈ ps, Wd 200 q.1 ∧ Wd 203 q.2
structure Sf.ok (S : Sf) : Prop where
  so : S.so ∈ sorts
  w0 : 6 ≤ S.w
  w1 : S.w ≤ 40
  ps : PrsOk S.ps
  past : ∀ ps ∈ S.past, PrsOk ps
  few : S.past.length ≤ 500
def sflds (n a b c : Addr) (z : Bool) : List (Str × V) := [("namer", .ref n), ("busy", .bl z), ("texts", .ref a), ("names", .ref b), ("past", .ref c)]
section
variable {n a b c d : Addr} {z y : Bool}
theorem sf_namer : (sflds n a b c z).lookup ("namer" : Str) = some (.ref n) := rfl
theorem sf_busy : (sflds n a b c z).lookup ("busy" : Str) = some (.bl z) := rfl
theorem sf_texts : (sflds n a b c z).lookup ("texts" : Str) = some (.ref a) := rfl
theorem sf_names : (sflds n a b c z).lookup ("names" : Str) = some (.ref b) := rfl
theorem sf_past : (sflds n a b c z).lookup ("past" : Str) = some (.ref c) := rfl
theorem put_busy : putF "busy" (.bl y) (sflds n a b c z) = sflds n a b c y := rfl
theorem put_texts : putF "texts" (.ref d) (sflds n a b c z) = sflds n d b c z := rfl
theorem put_names : putF "names" (.ref d) (sflds n a b c z) = sflds n a d c z := rfl
theorem put_past : putF "past" (.ref d) (sflds n a b c z) = sflds n a b d z := rfl
end
def PairAt (H : Hp) (q : Addr) (ps : Prs) : Prop := ∃ a b, H q = some (.tup [.ref a, .ref b]) ∧ H a = some (.tup (txts ps)) ∧ FT H b (nms ps)
def PastAt (H : Hp) (c : Addr) (past : List Prs) : Prop := ∃ qs : List (Addr × Prs), H c = some (.tup (qs.map fun q => V.ref q.1)) ∧ qs.map (·.2) = past ∧ ∀ q ∈ qs, PairAt H q.1 q.2
structure ShelfAt (C N : Addr) (H : Hp) (s : Addr) (S : Sf) : Prop where
  ex : ∃ dx n a b c, H s = some (.ins C dx (sflds n a b c S.busy)) ∧ NmAt N H n S.so S.w ∧ H a = some (.tup (txts S.ps)) ∧ FT H b (nms S.ps) ∧ PastAt H c S.past
/-- what stands, but at the places of l -/
def Kp (l : List Addr) (H G : Hp) : Prop := ∀ b o, H b = some o → b ∉ l → G b = some o
theorem Kp.refl {l : List Addr} {H : Hp} : Kp l H H := fun _ _ e _ => e
theorem Kp.trans {l : List Addr} {H G J : Hp} (a : Kp l H G) (b : Kp l G J) : Kp l H J := fun c o e n => b c o (a c o e n) n
theorem Kp.same {l : List Addr} {H G : Hp} (s : Same H G) : Kp l H G := fun b o e _ => s b o e
theorem Kp.mono {l m : List Addr} {H G : Hp} (k : Kp l H G) (h : ∀ b ∈ l, b ∈ m) : Kp m H G := fun b o e n => k b o e fun z => n (h b z)
theorem Kp.lad {p : Addr} {H G : Hp} (L : Ladled p H G) : Kp [p] H G := fun b o e n => L.keep b o e fun z => n (List.mem_singleton.mpr z)
theorem PairAt.same {H G : Hp} {q : Addr} {ps : Prs} (s : Same H G) (h : PairAt H q ps) : PairAt G q ps := by
  obtain ⟨a, b, e1, e2, e3⟩ := h
  exact ⟨a, b, s _ _ e1, s _ _ e2, e3.same s⟩
theorem PastAt.same {H G : Hp} {c : Addr} {past : List Prs} (s : Same H G) (h : PastAt H c past) : PastAt G c past := by
  obtain ⟨qs, e, h1, h2⟩ := h
  exact ⟨qs, s _ _ e, h1, fun q hq => (h2 q hq).same s⟩
theorem ShelfAt.same {C N : Addr} {H G : Hp} {s : Addr} {S : Sf} (k : Same H G) (h : ShelfAt C N H s S) : ShelfAt C N G s S := by
  obtain ⟨dx, n, a, b, c, e0, e1, e2, e3, e4⟩ := h.ex
  exact ⟨dx, n, a, b, c, k _ _ e0, e1.same k, k _ _ e2, e3.same k, e4.same k⟩
/-- at the places of l stand pots and shelves -/
def Muts (C N : Addr) (l : List Addr) (H : Hp) : Prop := ∀ b ∈ l, Pot H b ∨ ∃ S, ShelfAt C N H b S
section
variable {C N : Addr} {l : List Addr} {H G : Hp}
theorem Muts.tup (m : Muts C N l H) {q : Addr} {xs : List V} (e : H q = some (.tup xs)) : q ∉ l := fun hq => by
  rcases m q hq with ⟨x, y, z, f⟩ | ⟨S, h⟩
  · rw [e] at f
    cases f
  · obtain ⟨_, _, _, _, _, f, _⟩ := h.ex
    rw [e] at f
    cases f
theorem Muts.ft (m : Muts C N l H) {q : Addr} {xs : List V} (h : FT H q xs) : q ∉ l := fun hq => by
  obtain ⟨o, e, _⟩ := h
  rcases m q hq with ⟨x, y, z, f⟩ | ⟨S, h⟩
  · rw [e] at f
    cases f
  · obtain ⟨_, _, _, _, _, f, _⟩ := h.ex
    rw [e] at f
    cases f
theorem FT.kp (m : Muts C N l H) (k : Kp l H G) {q : Addr} {xs : List V} (h : FT H q xs) : FT G q xs := by
  have n := m.ft h
  obtain ⟨o, e, r⟩ := h
  exact ⟨o, k _ _ e n, r⟩
theorem nfl_len (so : Str) (w : Int) : (nflds so w).length ≤ 2 := by
  unfold nflds
  exact Nat.le_trans (length_putF _ _ _) (Nat.succ_le_succ (length_putF _ _ _))
theorem Muts.nm (m : Muts C N l H) {M q : Addr} {so : Str} {w : Int} (h : NmAt M H q so w) : q ∉ l := fun hq => by
  obtain ⟨dx, e⟩ := h
  rcases m q hq with ⟨x, y, z, f⟩ | ⟨S, h⟩
  · rw [e] at f
    cases f
  · obtain ⟨_, _, _, _, _, f, _⟩ := h.ex
    rw [e] at f
    injection f with f
    injection f with _ _ f
    have l2 := nfl_len so w
    rw [f] at l2
    exact absurd l2 (by show ¬ (5 ≤ 2); decide)
theorem PairAt.kp (m : Muts C N l H) (k : Kp l H G) {q : Addr} {ps : Prs} (h : PairAt H q ps) : PairAt G q ps := by
  obtain ⟨a, b, e1, e2, e3⟩ := h
  exact ⟨a, b, k _ _ e1 (m.tup e1), k _ _ e2 (m.tup e2), e3.kp m k⟩
theorem PastAt.kp (m : Muts C N l H) (k : Kp l H G) {c : Addr} {past : List Prs} (h : PastAt H c past) : PastAt G c past := by
  obtain ⟨qs, e, h1, h2⟩ := h
  exact ⟨qs, k _ _ e (m.tup e), h1, fun q hq => (h2 q hq).kp m k⟩
theorem NmAt.kp (m : Muts C N l H) (k : Kp l H G) {M q : Addr} {so : Str} {w : Int} (h : NmAt M H q so w) : NmAt M G q so w := by
  have nq := m.nm h
  obtain ⟨dx, e⟩ := h
  exact ⟨dx, k _ _ e nq⟩
/-- a shelf that is none of them stands -/
theorem ShelfAt.kp (m : Muts C N l H) (k : Kp l H G) {s : Addr} {S : Sf} (h : ShelfAt C N H s S) (n : s ∉ l) : ShelfAt C N G s S := by
  obtain ⟨dx, n1, a, b, c, e0, e1, e2, e3, e4⟩ := h.ex
  exact ⟨dx, n1, a, b, c, k _ _ e0 n, e1.kp m k, k _ _ e2 (m.tup e2), e3.kp m k, e4.kp m k⟩
end
/-- one text comes -/
def Sf.come (S : Sf) (t : Str) : Sf := { S with ps := S.ps ++ [(t, nameOf S.so S.w t S.ps)], past := S.past ++ [S.ps] }
/-- the one at i goes -/
def Sf.go (S : Sf) (i : Nat) : Sf := { S with ps := S.ps.take i ++ S.ps.drop (i + 1), past := S.past ++ [S.ps] }
end Gu
namespace Gu
open PySem PySem.Spec PyProof.Rows L2
/-! ### the class Shelf -/
structure ShlC (K : PySem.W.Frag) (mg : Str → Option Value) (C : Addr) : Prop where
  cl : Cls K C
  nN : NoAttr K C "namer"
  nB : NoAttr K C "busy"
  nT : NoAttr K C "texts"
  nM : NoAttr K C "names"
  nP : NoAttr K C "past"
  g : mg "Shelf" = some (.ref C)
theorem kp_upd {s : Addr} {H : Hp} {o : HO} : Kp [s] H (upd H s o) := fun b x e n => by
  rw [upd_ne fun z => n (List.mem_singleton.mpr z)]
  exact e
theorem nextOf_ps (so : Str) (w : Int) (t : Str) (ps : Prs) : nextOf so w t (ps.map (·.1)) (ps.map (·.2)) = nameOf so w t ps := by
  have e : (alike w t (ps.map (·.1))).length = (mates w t ps).length := by
    unfold mates alike
    rw [List.filter_map, List.length_map]
    rfl
  unfold nextOf nameOf countedOf freeP
  rw [e]
theorem sl_okU {K : PySem.W.Frag} {H : Hp} {a : Addr} {xs : List V} {Q : VK} {lo hi : Option Int} (ha : H a = some (.tup xs)) (q : ∀ U G, Same H G → G U = some (.tup (cutV xs lo hi)) → Q (.ref U) G) : rSlA K (.ref a) lo hi H Q := by
  refine ⟨a, xs, rfl, .inl (.inl ha), fun ⟨e1, e2⟩ => q a H (Same.refl H) ?_, fun _ p np => q p _ (same_new np) upd_same⟩
  unfold cutV
  rw [e1, e2, List.drop_zero, Nat.sub_zero, List.take_length]
  exact ha
theorem catU {K : PySem.W.Frag} {H : Hp} {a b : Addr} {xs ys : List V} {Q : VK} (ha : H a = some (.tup xs)) (hb : H b = some (.tup ys)) (hl : xs.length + ys.length ≤ sizeLine) (q : ∀ U G, Same H G → G U = some (.tup (xs ++ ys)) → Q (.ref U) G) : rCatA K (.ref a) (.ref b) H Q := by
  refine ⟨a, b, xs, ys, rfl, rfl, .inl (.inl ha), .inl (.inl hb), hl, fun e => q b H (Same.refl H) ?_, fun _ e => q a H (Same.refl H) ?_, fun _ _ p np => q p _ (same_new np) upd_same⟩
  · rw [e]
    exact hb
  · rw [e, List.append_nil]
    exact ha
section
variable {P : Program} {w : World} {K : PySem.W.Frag} {mg : Str → Option Value} {base : Heap} {C N : Addr}
/-! check_text, for texts -/
def spCheckTextW : Sp := fun vs H Q _ => ∃ t : Str, vs = [.str t] ∧ Wd 200 t ∧ ∀ G, Same H G → Q .non G
theorem cal_checkTextW (B : Bi mg) (D : At K mg "check_text" s_check_text ps_check_text) (C_is_text : Cal P w K mg base 1 "is_text" ps_is_text (spIsText K)) : Cal P w K mg base 2 "check_text" ps_check_text spCheckTextW := by
  refine D.cal sc_check_text (fun vs H Q E h => ?_) (fun f cdv A outer s H vs Q E hr h => ?_)
  · obtain ⟨t, rfl, _⟩ := h
    rfl
  · obtain ⟨t, rfl, wt, k⟩ := h
    have tl : t.length ≤ 200 := wt.len
    refine ⟨_, (pss_one (ps_if (pt_not (pt_val (pe_own C_is_text hr (by decide) (by rfl) (pa_cons (pv 0) (pa_cons (pe_cst B.MOST_TEXT (by rfl)) pa_nil))))) pss_never pss_nil)), ?_⟩
    refine ⟨_, rfl, _, _, rfl, .inl ⟨t, rfl, by omega, fun G sG => ⟨_, rfl, ?_⟩⟩⟩
    rw [show isTxt t 200 = true from wd_isTxt wt]
    exact iteF (k G sG)
/-! Shelf.__init__ -/
def spShInit (C N : Addr) : Sp := fun vs H Q _ => ∃ (x dx n : Addr) (so : Str) (w : Int), vs = [.ref x, .ref n] ∧ H x = some (.ins C dx []) ∧ NmAt N H n so w ∧ ∀ G, Kp [x] H G → ShelfAt C N G x ⟨so, w, [], [], false⟩ → Q .non G
theorem ok_shinit {f : Addr} {fd : FuncData} (B : Bi mg) (S : ShlC K mg C) (F : Fun K "__init__" "Shelf.__init__" s_Shelf_init f fd) (C_check_namer : Cal P w K mg base 1 "check_namer" ps_check_namer (spCheckNamer N)) : FnOk P w K mg base CX0 2 f fd ps_Shelf_init (spShInit C N) := by
  refine F.ok sc_Shelf_init (fun vs H Q E h => ?_) (fun cdv A outer s H vs Q E hr h => ?_)
  · obtain ⟨x, dx, n, so, w, rfl, _⟩ := h
    rfl
  · obtain ⟨x, dx, n, so, w, rfl, hx, hN, k⟩ := h
    have nx : n ≠ x := fun z => by
      obtain ⟨d, e⟩ := hN
      rw [z, hx] at e
      injection e with e
      injection e with _ _ e
      have a := nflds_rule so w
      rw [← e] at a
      cases a
    refine ⟨_, (pss_cons (ps_expr (pe_own C_check_namer hr (by decide) (by rfl) (pa_cons (pv 1) pa_nil)))
      (pss_cons (ps_fld (pv 0) (pv 1) rfl)
      (pss_cons (ps_fld (pv 0) pe_bl rfl)
      (pss_cons (ps_fld (pv 0) (pe_tup pa_nil) rfl)
      (pss_cons (ps_fld (pv 0) (pe_tupF pa_nil) rfl)
      (pss_one (ps_fld (pv 0) (pe_tup pa_nil) rfl))))))), ?_⟩
    refine ⟨_, rfl, n, so, w, rfl, hN, ?_⟩
    refine ⟨_, rfl, _, rfl, x, C, dx, [], rfl, hx, S.cl, S.nN, by decide, ?_⟩
    generalize hG : upd H x _ = G1
    have k1 : Kp [x] H G1 := hG ▸ kp_upd
    have e1 : G1 x = some (.ins C dx [("namer", .ref n)]) := by rw [← hG]; exact upd_same
    clear hG
    refine ⟨_, rfl, x, C, dx, _, rfl, e1, S.cl, S.nB, by show 1 < 1000; decide, ?_⟩
    generalize hG : upd G1 x _ = G2
    have k2 : Kp [x] G1 G2 := hG ▸ kp_upd
    have e2 : G2 x = some (.ins C dx [("namer", .ref n), ("busy", .bl false)]) := by rw [← hG]; exact upd_same
    clear hG
    refine ⟨by show 0 ≤ sizeLine; decide, fun a na => ?_⟩
    generalize hG : upd G2 a _ = G3
    have s3 : Same G2 G3 := hG ▸ same_new na
    have ea : G3 a = some (.tup []) := by rw [← hG]; exact upd_same
    clear hG
    have nax : a ≠ x := fun z => by rw [z, e2] at na; cases na
    refine ⟨_, rfl, x, C, dx, _, rfl, s3 _ _ e2, S.cl, S.nT, by show 2 < 1000; decide, ?_⟩
    generalize hG : upd G3 x _ = G4
    have k4 : Kp [x] G3 G4 := hG ▸ kp_upd
    have e4 : G4 x = some (.ins C dx [("namer", .ref n), ("busy", .bl false), ("texts", .ref a)]) := by rw [← hG]; exact upd_same
    clear hG
    refine ⟨by show 0 ≤ sizeLine; decide, fun b G5 s5 eb nb => ?_⟩
    have nbx : b ≠ x := fun z => by rw [z, e4] at nb; cases nb
    refine ⟨_, rfl, x, C, dx, _, rfl, s5 _ _ e4, S.cl, S.nM, by show 3 < 1000; decide, ?_⟩
    generalize hG : upd G5 x _ = G6
    have k6 : Kp [x] G5 G6 := hG ▸ kp_upd
    have e6 : G6 x = some (.ins C dx [("namer", .ref n), ("busy", .bl false), ("texts", .ref a), ("names", .ref b)]) := by rw [← hG]; exact upd_same
    clear hG
    refine ⟨by show 0 ≤ sizeLine; decide, fun c nc => ?_⟩
    generalize hG : upd G6 c _ = G7
    have s7 : Same G6 G7 := hG ▸ same_new nc
    have ec : G7 c = some (.tup []) := by rw [← hG]; exact upd_same
    clear hG
    have ncx : c ≠ x := fun z => by rw [z, e6] at nc; cases nc
    refine ⟨_, rfl, x, C, dx, _, rfl, s7 _ _ e6, S.cl, S.nP, by show 4 < 1000; decide, ?_⟩
    generalize hG : upd G7 x _ = G8
    have k8 : Kp [x] G7 G8 := hG ▸ kp_upd
    have e8 : G8 x = some (.ins C dx (sflds n a b c false)) := by rw [← hG]; exact upd_same
    clear hG
    have no : ∀ {b : Addr}, b ≠ x → b ∉ [x] := fun h z => h (List.mem_singleton.mp z)
    have kA : Kp [x] H G8 := k1.trans (k2.trans ((Kp.same s3).trans (k4.trans ((Kp.same s5).trans (k6.trans ((Kp.same s7).trans k8))))))
    refine k G8 kA ⟨dx, n, a, b, c, e8, ?_, k8 _ _ (s7 _ _ (k6 _ _ (s5 _ _ (k4 _ _ ea (no nax))) (no nax))) (no nax), ?_, [], k8 _ _ ec (no ncx), rfl, fun q hq => by cases hq⟩
    · obtain ⟨d, e⟩ := hN
      exact ⟨d, kA _ _ e (no nx)⟩
    · obtain ⟨o, e, r⟩ := eb
      exact ⟨o, k8 _ _ (s7 _ _ (k6 _ _ e (no nbx))) (no nbx), r⟩
/-! Shelf.become -/
def spBecome (C N : Addr) : Sp := fun vs H Q _ => ∃ (s a b : Addr) (S : Sf) (ps : Prs), vs = [.ref s, .ref a, .ref b] ∧ ShelfAt C N H s S ∧ S.past.length ≤ 10000 ∧ H a = some (.tup (txts ps)) ∧ FT H b (nms ps) ∧ ∀ G, Kp [s] H G → ShelfAt C N G s { S with ps := ps, past := S.past ++ [S.ps] } → Q .non G
theorem cal_become (B : Bi mg) (Z : ShlC K mg C) (D : MethAt K C "become" "Shelf.become" s_Shelf_become ps_Shelf_become) : CalM P w K mg base 1 C "become" ps_Shelf_become (spBecome C N) := by
  refine D.cal sc_Shelf_become (fun vs H Q E h => ?_) (fun f cdv A outer s H vs Q E hr h => ?_)
  · obtain ⟨s, a, b, S, ps, rfl, _⟩ := h
    rfl
  · obtain ⟨s, a, b, S, ps, rfl, hS, few, ha, hb, k⟩ := h
    obtain ⟨dx, n, a0, b0, c0, e0, e1, e2, e3, qs, e4, q1, q2⟩ := hS.ex
    have ql : qs.length = S.past.length := by rw [← q1, List.length_map]
    refine ⟨_, (pss_cons (ps_fld (pv 0) (pe_op op_catA (pe_fld (pv 0) rfl) (pe_tup (pa_cons (pe_tup (pa_cons (pe_fld (pv 0) rfl) (pa_cons (pe_fld (pv 0) rfl) pa_nil))) pa_nil))) rfl)
      (pss_cons (ps_fld (pv 0) (pv 1) rfl)
      (pss_one (ps_fld (pv 0) (pv 2) rfl)))), ?_⟩
    refine ⟨_, rfl, s, C, dx, _, _, rfl, e0, Z.cl, Z.nP, sf_past, _, rfl, s, C, dx, _, _, rfl, e0, Z.cl, Z.nT, sf_texts, _, rfl, s, C, dx, _, _, rfl, e0, Z.cl, Z.nM, sf_names, by show 2 ≤ sizeLine; decide, fun q nq => ?_⟩
    generalize hG : upd H q _ = G1
    have s1 : Same H G1 := hG ▸ same_new nq
    have eq : G1 q = some (.tup [.ref a0, .ref b0]) := by rw [← hG]; exact upd_same
    clear hG
    refine ⟨by show 1 ≤ sizeLine; decide, fun u nu => ?_⟩
    generalize hG : upd G1 u _ = G2
    have s2 : Same G1 G2 := hG ▸ same_new nu
    have eu : G2 u = some (.tup [.ref q]) := by rw [← hG]; exact upd_same
    clear hG
    refine catU (s2 _ _ (s1 _ _ e4)) eu ?_ fun U G3 s3 eU => ?_
    · rw [List.length_map, List.length_singleton, sizeLine_eq]
      omega
    have sA := s1.trans (s2.trans s3)
    refine ⟨_, rfl, s, C, dx, _, rfl, sA _ _ e0, Z.cl, Z.nP, by show 5 < 1000; decide, ?_⟩
    rw [put_past]
    generalize hG : upd G3 s _ = G4
    have k4 : Kp [s] G3 G4 := hG ▸ kp_upd
    have f4 : G4 s = some (.ins C dx (sflds n a0 b0 U S.busy)) := by rw [← hG]; exact upd_same
    clear hG
    refine ⟨_, rfl, _, rfl, s, C, dx, _, rfl, f4, Z.cl, Z.nT, by show 5 < 1000; decide, ?_⟩
    rw [put_texts]
    generalize hG : upd G4 s _ = G5
    have k5 : Kp [s] G4 G5 := hG ▸ kp_upd
    have f5 : G5 s = some (.ins C dx (sflds n a b0 U S.busy)) := by rw [← hG]; exact upd_same
    clear hG
    refine ⟨_, rfl, _, rfl, s, C, dx, _, rfl, f5, Z.cl, Z.nM, by show 5 < 1000; decide, ?_⟩
    rw [put_names]
    generalize hG : upd G5 s _ = G6
    have k6 : Kp [s] G5 G6 := hG ▸ kp_upd
    have f6 : G6 s = some (.ins C dx (sflds n a b U S.busy)) := by rw [← hG]; exact upd_same
    clear hG
    have kB : Kp [s] G3 G6 := k4.trans (k5.trans k6)
    have kA : Kp [s] H G6 := (Kp.same sA).trans kB
    have m : Muts C N [s] H := fun x hx => .inr ⟨S, by rw [List.mem_singleton.mp hx]; exact hS⟩
    have off : ∀ {H2 : Hp} {x : Addr} {xs : List V}, Same H H2 → H2 x = some (.tup xs) → x ∉ [s] := fun {H2 x xs} h e z => by
      have := h _ _ e0
      rw [List.mem_singleton.mp z, this] at e
      cases e
    refine k G6 kA ⟨dx, n, a, b, U, f6, e1.kp m kA, kA _ _ ha (m.tup ha), hb.kp m kA, qs ++ [(q, S.ps)], ?_, by rw [List.map_append, q1]; rfl, fun x hx => ?_⟩
    · rw [List.map_append]
      exact kB _ _ eU (off sA eU)
    · rcases List.mem_append.mp hx with hx | hx
      · exact (q2 x hx).kp m kA
      · rw [List.mem_singleton.mp hx]
        have eq3 := s3 _ _ (s2 _ _ eq)
        exact ⟨a0, b0, kB _ _ eq3 (off sA eq3), kA _ _ e2 (m.tup e2), e3.kp m kA⟩
end
end Gu
namespace Gu
open PySem PySem.Spec PyProof.Rows L2
theorem cutV_hd (xs : List V) (i : Nat) : cutV xs none (some (i : Int)) = xs.take i := by
  unfold cutV
  rw [HT.sIx_none, HT.sIx_nat, List.drop_zero, Nat.sub_zero, List.take_eq_take_iff]
  omega
theorem cutV_bk (xs : List V) (i : Nat) : cutV xs (some (i : Int)) none = xs.drop i := by
  unfold cutV
  rw [show HT.sIx xs.length xs.length none = xs.length from rfl, HT.sIx_nat]
  rcases Nat.lt_or_ge i xs.length with h | h
  · rw [Nat.min_eq_left (Nat.le_of_lt h), List.take_of_length_le (by rw [List.length_drop]; exact Nat.le_refl _)]
  · rw [Nat.min_eq_right h, Nat.sub_self, List.take_zero, List.drop_eq_nil_of_le h]
theorem noPartS {σ : L2.St} {H : Hp} {Q : Option Int → Hp → Prop} (h : Q none H) : tNoPart σ H Q := h
theorem wd_len {n : Nat} {t : Str} (h : Wd n t) : t.length ≤ n := h.len
section
variable {P : Program} {w : World} {K : PySem.W.Frag} {mg : Str → Option Value} {base : Heap} {C N : Addr}
theorem txts_cat (ps : Prs) (t y : Str) : txts ps ++ [.str t] = txts (ps ++ [(t, y)]) := by
  unfold txts
  rw [List.map_append, List.map_append]
  rfl
theorem nms_cat (ps : Prs) (t y : Str) : nms ps ++ [.str y] = nms (ps ++ [(t, y)]) := by
  unfold nms
  rw [List.map_append, List.map_append]
  rfl
theorem txts_go (ps : Prs) (i : Nat) : (txts ps).take i ++ (txts ps).drop (i + 1) = txts (ps.take i ++ ps.drop (i + 1)) := by
  unfold txts
  rw [List.map_append, List.map_append, List.map_take, List.map_take, List.map_drop, List.map_drop]
theorem nms_go (ps : Prs) (i : Nat) : (nms ps).take i ++ (nms ps).drop (i + 1) = nms (ps.take i ++ ps.drop (i + 1)) := by
  unfold nms
  rw [List.map_append, List.map_append, List.map_take, List.map_take, List.map_drop, List.map_drop]
theorem txts_len (ps : Prs) : (txts ps).length = ps.length := by
  unfold txts
  rw [List.length_map, List.length_map]
theorem nms_len (ps : Prs) : (nms ps).length = ps.length := by
  unfold nms
  rw [List.length_map, List.length_map]
/-! let_come -/
def spLetCome (C N : Addr) : Sp := fun vs H Q _ => ∃ (s : Addr) (t : Str) (S : Sf), vs = [.ref s, .str t] ∧ ShelfAt C N H s S ∧ S.ok ∧ Wd 200 t ∧ S.ps.length < 20 ∧ ∀ G, Kp [s] H G → ShelfAt C N G s (S.come t) → Q (.str (nameOf S.so S.w t S.ps)) G
theorem cal_letCome (B : Bi mg) (Z : ShlC K mg C) (D : MethAt K C "let_come" "Shelf.let_come" s_Shelf_let_come ps_Shelf_let_come) (C_check_text : Cal P w K mg base 2 "check_text" ps_check_text spCheckTextW) (C_name_of_next : Cal P w K mg base 3 "name_of_next" ps_name_of_next (spNextQ K N)) (M_become : CalM P w K mg base 1 C "become" ps_Shelf_become (spBecome C N)) : CalM P w K mg base 4 C "let_come" ps_Shelf_let_come (spLetCome C N) := by
  refine D.cal sc_Shelf_let_come (fun vs H Q E h => ?_) (fun f cdv A outer s H vs Q E hr h => ?_)
  · obtain ⟨s, t, S, rfl, _⟩ := h
    rfl
  · obtain ⟨s, t, S, rfl, hS, ok, wt, l20, k⟩ := h
    have tl := wd_len wt
    refine ⟨_, (pss_cons (ps_expr (pe_own C_check_text hr (by decide) (by rfl) (pa_cons (pv 1) pa_nil)))
      (pss_cons (ps_if (pt_cmpR op_ge (pe_callB call_len_seq (by rfl) B.len (by decide +kernel) (pa_cons (pe_fld (pv 0) rfl) pa_nil)) (pe_cst B.MOST_SHELVED (by rfl)) (nomark _)) pss_never pss_nil)
      (pss_cons (ps_set (i := 2) sc_Shelf_let_come.nd rfl (.inl rfl) (pe_own C_name_of_next hr (by decide) (by rfl) (pa_cons (pe_fld (pv 0) rfl) (pa_cons (pv 1) (pa_cons (pe_fld (pv 0) rfl) (pa_cons (pe_fld (pv 0) rfl) pa_nil))))))
      (pss_cons (ps_expr (pe_mth M_become Z.cl hr (by decide) (pv 0) (pa_cons (pe_op op_catA (pe_fld (pv 0) rfl) (pe_tup (pa_cons (pv 1) pa_nil))) (pa_cons (pe_op op_catF (pe_fld (pv 0) rfl) (pe_tupF (pa_cons (pv 2) pa_nil))) pa_nil))))
      (pss_one (ps_ret (pv 2))))))), ?_⟩
    refine ⟨_, rfl, t, rfl, wt, fun G1 s1 => ?_⟩
    have hS1 := hS.same s1
    obtain ⟨dx, n, a, b, c, e0, e1, e2, e3, e4⟩ := id hS1.ex
    refine ⟨_, rfl, s, C, dx, _, _, rfl, e0, Z.cl, Z.nT, sf_texts, a, _, rfl, .inr (.inl (.inl e2)), _, _, rfl, rfl, _, rfl, ?_⟩
    rw [txts_len, decide_eq_false (show ¬ (20 : Int) ≤ (S.ps.length : Int) by omega)]
    refine iteF ?_
    refine ⟨_, rfl, s, C, dx, _, _, rfl, e0, Z.cl, Z.nN, sf_namer, _, rfl, _, rfl, s, C, dx, _, _, rfl, e0, Z.cl, Z.nT, sf_texts, _, rfl, s, C, dx, _, _, rfl, e0, Z.cl, Z.nM, sf_names, ?_⟩
    refine ⟨n, a, b, S.so, S.w, t, S.ps.map (fun q : Str × Str => q.1), S.ps.map (fun q : Str × Str => q.2), rfl, e1, by omega, .inl (.inl e2), by rw [List.length_map]; omega, fun u hu => ?_, e3.sq, by rw [List.length_map]; omega, fun G2 s2 => ?_⟩
    · obtain ⟨q, hq, rfl⟩ := List.mem_map.mp hu
      exact (ok.ps.wd q hq).1
    rw [nextOf_ps]
    have hS2 := hS1.same s2
    have e0 := s2 _ _ e0
    have e2 := s2 _ _ e2
    have e3 := e3.same s2
    refine ⟨_, rfl, s, dx, _, rfl, e0, rfl, ?_⟩
    refine ⟨_, rfl, s, C, dx, _, _, rfl, e0, Z.cl, Z.nT, sf_texts, _, rfl, by show 1 ≤ sizeLine; decide, fun q nq => ?_⟩
    generalize hG : upd G2 q _ = G3
    have s3 : Same G2 G3 := hG ▸ same_new nq
    have eq : G3 q = some (.tup [.str t]) := by rw [← hG]; exact upd_same
    clear hG
    refine catU (s3 _ _ e2) eq (by rw [txts_len, List.length_singleton, sizeLine_eq]; omega) fun U G4 s4 eU => ?_
    rw [txts_cat S.ps t (nameOf S.so S.w t S.ps)] at eU
    have e0 := s4 _ _ (s3 _ _ e0)
    have e3 := (e3.same s3).same s4
    refine ⟨_, rfl, s, C, dx, _, _, rfl, e0, Z.cl, Z.nM, sf_names, _, rfl, by show 1 ≤ sizeLine; decide, fun u G5 s5 eu nu => ?_⟩
    refine ⟨b, u, _, _, rfl, rfl, e3.same s5, eu, (by rw [nms_len, List.length_singleton, sizeLine_eq]; omega), fun W G6 s6 eW => ?_⟩
    rw [nms_cat S.ps t (nameOf S.so S.w t S.ps)] at eW
    have sA := s3.trans (s4.trans (s5.trans s6))
    refine ⟨s, U, W, S, S.ps ++ [(t, nameOf S.so S.w t S.ps)], rfl, hS2.same sA, by have := ok.few; omega, s6 _ _ (s5 _ _ eU), eW, fun G7 k7 h7 => ?_⟩
    exact ⟨_, rfl, k G7 ((Kp.same (s1.trans (s2.trans sA))).trans k7) h7⟩
/-! let_go -/
def spLetGo (C N : Addr) : Sp := fun vs H Q _ => ∃ (s : Addr) (y t : Str) (S : Sf) (j : Nat), vs = [.ref s, .str y] ∧ ShelfAt C N H s S ∧ S.ok ∧ S.ps[j]? = some (t, y) ∧ (∀ m, m < j → (S.ps.map (·.2))[m]? ≠ some y) ∧ ∀ G, Kp [s] H G → ShelfAt C N G s (S.go j) → Q (.str t) G
theorem cal_letGo (B : Bi mg) (Z : ShlC K mg C) (D : MethAt K C "let_go" "Shelf.let_go" s_Shelf_let_go ps_Shelf_let_go) (M_become : CalM P w K mg base 1 C "become" ps_Shelf_become (spBecome C N)) : CalM P w K mg base 2 C "let_go" ps_Shelf_let_go (spLetGo C N) := by
  refine D.cal sc_Shelf_let_go (fun vs H Q E h => ?_) (fun f cdv A outer s H vs Q E hr h => ?_)
  · obtain ⟨s, y, t, S, j, rfl, _⟩ := h
    rfl
  · obtain ⟨s, y, t, S, j, rfl, hS, ok, hj, first, k⟩ := h
    obtain ⟨dx, n, a, b, c, e0, e1, e2, e3, e4⟩ := id hS.ex
    have jl : j < S.ps.length := (List.getElem?_eq_some_iff.mp hj).1
    have pl := ok.ps.len
    have yin : (S.ps.map (·.2))[j]? = some y := by rw [List.getElem?_map, hj]; rfl
    refine ⟨_, (pss_cons (ps_if (PW.pt (pw_or (pt_not (pt_val (pe_callB call_isi (by rfl) B.isinstance (by decide +kernel) (pa_cons (pv 1) (pa_cons (pe_bltn (v := .ty "str") (by rfl) B.str (by decide +kernel) rfl) pa_nil))))) (pw_or1 (pt_cmpR op_notIn_seq (pv 1) (pe_fld (pv 0) rfl) (by rfl))))) pss_never pss_nil)
      (pss_cons (ps_set (i := 2) sc_Shelf_let_go.nd rfl (.inl rfl) (pe_bmF PySem.F.plainAttrs_tuple PySem.F.slot_tuple_index PySem.F.type_tuple_index L2.mt_tup_index (pe_fld (pv 0) rfl) (pa_cons (pv 1) pa_nil)))
      (pss_cons (ps_set (i := 3) sc_Shelf_let_go.nd rfl (.inl rfl) (pe_ix ix_tup (pe_fld (pv 0) rfl) (pv 2) (fun _ _ => rfl)))
      (pss_cons (ps_expr (pe_mth M_become Z.cl hr (by decide) (pv 0) (pa_cons (pe_op op_catA (pe_slice sl_tupA (pe_fld (pv 0) rfl) po_none (po_some (pv 2))) (pe_slice sl_tupA (pe_fld (pv 0) rfl) (po_some (pe_op op_add (pv 2) pe_int)) po_none)) (pa_cons (pe_op op_catF (pe_slice sl_tupF (pe_fld (pv 0) rfl) po_none (po_some (pv 2))) (pe_slice sl_tupF (pe_fld (pv 0) rfl) (po_some (pe_op op_add (pv 2) pe_int)) po_none)) pa_nil))))
      (pss_one (ps_ret (pv 3))))))), ?_⟩
    obtain ⟨ty, i1, i2⟩ := Isa.str_str (K := K) (H := H) (z := y)
    refine ⟨_, rfl, _, _, ty, _, true, rfl, .ty _, i1, i2, _, rfl, iteF ?_⟩
    refine ⟨_, rfl, _, rfl, s, C, dx, _, _, rfl, e0, Z.cl, Z.nM, sf_names, b, _, rfl, .inr e3.sq, rfl, flat_strs _, _, rfl, ?_⟩
    rw [show inV (V.str y) (nms S.ps) = true by unfold nms; rw [in_strs]; exact decide_eq_true (List.mem_of_getElem? yin)]
    refine iteF ?_
    refine ⟨_, rfl, s, C, dx, _, _, rfl, e0, Z.cl, Z.nM, sf_names, ⟨b, _, rfl, e3⟩, _, rfl, b, S.ps.map (fun q : Str × Str => q.2), y, j, rfl, rfl, e3.sq, yin, first, ?_⟩
    refine ⟨_, rfl, s, C, dx, _, _, rfl, e0, Z.cl, Z.nT, sf_texts, _, rfl, a, _, _, .str t, rfl, rfl, .inl (.inl e2), atI_nat (j := j) (by unfold txts; rw [List.getElem?_map, List.getElem?_map, hj]; rfl), ?_⟩
    refine ⟨_, rfl, s, dx, _, rfl, e0, rfl, ?_⟩
    refine ⟨_, rfl, s, C, dx, _, _, rfl, e0, Z.cl, Z.nT, sf_texts, _, rfl, _, rfl, sl_okU e2 fun U1 G1 s1 f1 => ?_⟩
    rw [cutV_hd] at f1
    refine ⟨_, rfl, s, C, dx, _, _, rfl, s1 _ _ e0, Z.cl, Z.nT, sf_texts, _, rfl, _, _, rfl, rfl, _, rfl, noPartS (sl_okU (s1 _ _ e2) fun U2 G2 s2 f2 => ?_)⟩
    have f2 : G2 U2 = some (.tup (cutV (txts S.ps) (some ((j + 1 : Nat) : Int)) none)) := f2
    rw [cutV_bk] at f2
    refine catU (s2 _ _ f1) f2 ?_ fun U3 G3 s3 f3 => ?_
    · rw [List.length_take, List.length_drop, txts_len, sizeLine_eq]
      omega
    rw [txts_go] at f3
    have s13 := s1.trans (s2.trans s3)
    have e0 := s13 _ _ e0
    have e3 := e3.same s13
    refine ⟨_, rfl, s, C, dx, _, _, rfl, e0, Z.cl, Z.nM, sf_names, _, rfl, _, rfl, b, _, rfl, e3, fun W1 G4 s4 g1 => ?_⟩
    rw [cutV_hd] at g1
    refine ⟨_, rfl, s, C, dx, _, _, rfl, s4 _ _ e0, Z.cl, Z.nM, sf_names, _, rfl, _, _, rfl, rfl, _, rfl, noPartS ⟨b, _, rfl, e3.same s4, fun W2 G5 s5 g2 => ?_⟩⟩
    have g2 : FT G5 W2 (cutV (nms S.ps) (some ((j + 1 : Nat) : Int)) none) := g2
    rw [cutV_bk] at g2
    refine ⟨W1, W2, _, _, rfl, rfl, g1.same s5, g2, ?_, fun W3 G6 s6 g3 => ?_⟩
    · rw [List.length_take, List.length_drop, nms_len, sizeLine_eq]
      omega
    rw [nms_go] at g3
    have s46 := s4.trans (s5.trans s6)
    refine ⟨s, U3, W3, S, S.ps.take j ++ S.ps.drop (j + 1), rfl, hS.same (s13.trans s46), by have := ok.few; omega, s46 _ _ f3, g3, fun G7 k7 h7 => ?_⟩
    exact ⟨_, rfl, k G7 ((Kp.same (s13.trans s46)).trans k7) h7⟩
/-! check_not_busy, add, remove -/
def spCalmS (C N : Addr) : Sp := fun vs H Q _ => ∃ (s : Addr) (S : Sf), vs = [.ref s] ∧ ShelfAt C N H s S ∧ S.busy = false ∧ Q .non H
theorem cal_notBusy (B : Bi mg) (Z : ShlC K mg C) (D : MethAt K C "check_not_busy" "Shelf.check_not_busy" s_Shelf_check_not_busy ps_Shelf_check_not_busy) : CalM P w K mg base 1 C "check_not_busy" ps_Shelf_check_not_busy (spCalmS C N) := by
  refine D.cal sc_Shelf_check_not_busy (fun vs H Q E h => ?_) (fun f cdv A outer s H vs Q E hr h => ?_)
  · obtain ⟨s, S, rfl, _⟩ := h
    rfl
  · obtain ⟨s, S, rfl, hS, bz, k⟩ := h
    obtain ⟨dx, n, a, b, c, e0, _⟩ := id hS.ex
    refine ⟨_, (pss_one (ps_if (pt_val (pe_fld (pv 0) rfl)) pss_never pss_nil)), ?_⟩
    rw [bz] at e0
    exact ⟨_, rfl, s, C, dx, _, _, rfl, e0, Z.cl, Z.nB, sf_busy, _, rfl, iteF k⟩
def spAdd (C N : Addr) : Sp := fun vs H Q _ => ∃ (s : Addr) (t : Str) (S : Sf), vs = [.ref s, .str t] ∧ ShelfAt C N H s S ∧ S.ok ∧ S.busy = false ∧ Wd 200 t ∧ S.ps.length < 20 ∧ ∀ G, Kp [s] H G → ShelfAt C N G s (S.come t) → Q (.str (nameOf S.so S.w t S.ps)) G
theorem cal_add (B : Bi mg) (Z : ShlC K mg C) (D : MethAt K C "add" "Shelf.add" s_Shelf_add ps_Shelf_add) (M_check_not_busy : CalM P w K mg base 1 C "check_not_busy" ps_Shelf_check_not_busy (spCalmS C N)) (M_let_come : CalM P w K mg base 4 C "let_come" ps_Shelf_let_come (spLetCome C N)) : CalM P w K mg base 5 C "add" ps_Shelf_add (spAdd C N) := by
  refine D.cal sc_Shelf_add (fun vs H Q E h => ?_) (fun f cdv A outer s H vs Q E hr h => ?_)
  · obtain ⟨s, t, S, rfl, _⟩ := h
    rfl
  · obtain ⟨s, t, S, rfl, hS, ok, bz, wt, l20, k⟩ := h
    obtain ⟨dx, n, a, b, c, e0, _⟩ := id hS.ex
    refine ⟨_, (pss_cons (ps_expr (pe_mth0 M_check_not_busy Z.cl hr (by decide) (pv 0)))
      (pss_one (ps_ret (pe_mth M_let_come Z.cl hr (by decide) (pv 0) (pa_cons (pv 1) pa_nil))))), ?_⟩
    refine ⟨_, rfl, s, dx, _, rfl, e0, rfl, s, S, rfl, hS, bz, ?_⟩
    exact ⟨_, rfl, s, dx, _, rfl, e0, rfl, _, rfl, s, t, S, rfl, hS, ok, wt, l20, k⟩
def spRemove (C N : Addr) : Sp := fun vs H Q _ => ∃ (s : Addr) (y t : Str) (S : Sf) (j : Nat), vs = [.ref s, .str y] ∧ ShelfAt C N H s S ∧ S.ok ∧ S.busy = false ∧ S.ps[j]? = some (t, y) ∧ (∀ m, m < j → (S.ps.map (·.2))[m]? ≠ some y) ∧ ∀ G, Kp [s] H G → ShelfAt C N G s (S.go j) → Q (.str t) G
theorem cal_remove (B : Bi mg) (Z : ShlC K mg C) (D : MethAt K C "remove" "Shelf.remove" s_Shelf_remove ps_Shelf_remove) (M_check_not_busy : CalM P w K mg base 1 C "check_not_busy" ps_Shelf_check_not_busy (spCalmS C N)) (M_let_go : CalM P w K mg base 2 C "let_go" ps_Shelf_let_go (spLetGo C N)) : CalM P w K mg base 3 C "remove" ps_Shelf_remove (spRemove C N) := by
  refine D.cal sc_Shelf_remove (fun vs H Q E h => ?_) (fun f cdv A outer s H vs Q E hr h => ?_)
  · obtain ⟨s, y, t, S, j, rfl, _⟩ := h
    rfl
  · obtain ⟨s, y, t, S, j, rfl, hS, ok, bz, hj, first, k⟩ := h
    obtain ⟨dx, n, a, b, c, e0, _⟩ := id hS.ex
    refine ⟨_, (pss_cons (ps_expr (pe_mth0 M_check_not_busy Z.cl hr (by decide) (pv 0)))
      (pss_one (ps_ret (pe_mth M_let_go Z.cl hr (by decide) (pv 0) (pa_cons (pv 1) pa_nil))))), ?_⟩
    refine ⟨_, rfl, s, dx, _, rfl, e0, rfl, s, S, rfl, hS, bz, ?_⟩
    exact ⟨_, rfl, s, dx, _, rfl, e0, rfl, _, rfl, s, y, t, S, j, rfl, hS, ok, hj, first, k⟩
end
end Gu
namespace Gu
open PySem PySem.Spec PyProof.Rows L2
/-- o.f = .., as one of several targets -/
def gFld (K : PySem.W.Frag) (to : TE) (f : Str) : TG := fun v σ H Q => to σ H fun x H1 => ∃ a C dx fs, x = .ref a ∧ H1 a = some (.ins C dx fs) ∧ Cls K C ∧ NoAttr K C f ∧ fs.length < 1000 ∧ Q σ (upd H1 a (.ins C dx (putF f v fs)))
theorem pg_fld {X : Cx} {o : Expr} {to : TE} {f : Str} {pos : Pos} (ho : PE X o to)
    (ha : ∀ v, assign (.Attribute o f pos) X.env v = (do
      let ov ← holding [v] (eval o X.env)
      standAt pos.atName
      holding [v, ov] (setAttr ov f v)
      release [v, ov] []) := by intro _; rfl) : PG X (.Attribute o f pos) (gFld X.K to f) := by
  refine ⟨fun pins s σ H v u Q I r h => ?_⟩
  rw [ha]
  refine wpAny_bind (wpAny_holding (thn (ho.run pins s σ H _ I h) fun ov s1 ⟨x, H1, I1, r1, a, C, dx, fs, ex, ea, c, n, l, q⟩ => ?_))
  subst ex
  obtain rfl : ov = Value.ref a := r1
  refine wpAny_bind (wpAny_standAt ?_)
  refine wpAny_bind (wpAny_holding (setattr_ok I1 ea c n l r fun s2 I2 => ?_))
  exact wpAny_release ⟨σ, _, I2, q⟩
end Gu
namespace Gu
open PySem PySem.Spec PyProof.Rows L2
theorem cutV_but (xs : List V) (v : V) : cutV (xs ++ [v]) none (some (-1)) = xs := by
  unfold cutV
  rw [HT.sIx_none, List.drop_zero, Nat.sub_zero, show HT.sIx (xs ++ [v]).length (xs ++ [v]).length (some (-1)) = xs.length by
    rw [List.length_append, List.length_singleton]
    unfold HT.sIx
    simp only []
    split <;> omega]
  exact List.take_left' rfl
section
variable {P : Program} {w : World} {K : PySem.W.Frag} {mg : Str → Option Value} {base : Heap} {C N : Addr}
/-! undo -/
def spUndo (C N : Addr) : Sp := fun vs H Q _ => ∃ (s : Addr) (S : Sf) (past : List Prs) (ps : Prs), vs = [.ref s] ∧ ShelfAt C N H s S ∧ S.busy = false ∧ S.past = past ++ [ps] ∧ ∀ G, Kp [s] H G → ShelfAt C N G s { S with ps := ps, past := past } → Q .non G
theorem cal_undo (B : Bi mg) (Z : ShlC K mg C) (D : MethAt K C "undo" "Shelf.undo" s_Shelf_undo ps_Shelf_undo) (M_check_not_busy : CalM P w K mg base 1 C "check_not_busy" ps_Shelf_check_not_busy (spCalmS C N)) : CalM P w K mg base 2 C "undo" ps_Shelf_undo (spUndo C N) := by
  refine D.cal sc_Shelf_undo (fun vs H Q E h => ?_) (fun f cdv A outer s0 H vs Q E hr h => ?_)
  · obtain ⟨s, S, past, ps, rfl, _⟩ := h
    rfl
  · obtain ⟨s, S, past, ps, rfl, hS, bz, hp, k⟩ := h
    obtain ⟨dx, n, a, b, c, e0, e1, e2, e3, qs, e4, q1, q2⟩ := id hS.ex
    rw [hp] at q1
    obtain ⟨q0, q, rfl, q5, q6⟩ : ∃ q0 q, qs = q0 ++ [q] ∧ q0.map (·.2) = past ∧ q.2 = ps := by
      obtain ⟨x, y, rfl, h1, h2⟩ := List.map_eq_append_iff.mp q1
      obtain ⟨z, r, rfl, h3, h4⟩ := List.map_eq_cons_iff.mp h2
      exact ⟨x, z, by rw [List.map_eq_nil_iff.mp h4], h1, h3⟩
    rw [List.map_append] at e4
    obtain ⟨a2, b2, f1, f2, f3⟩ := q2 q (List.mem_append.mpr (.inr (List.mem_singleton.mpr rfl)))
    rw [q6] at f2 f3
    refine ⟨_, (pss_cons (ps_expr (pe_mth0 M_check_not_busy Z.cl hr (by decide) (pv 0)))
      (pss_cons (ps_if (pt_not (pt_truth (pe_fld (pv 0) rfl) (fun _ => rfl))) pss_never pss_nil)
      (pss_cons (ps_asg (pe_ix ix_tup (pe_fld (pv 0) rfl) (pe_un un_neg pe_int) (fun _ _ => rfl)) (pg_tup rfl (pgs_cons (pg_fld (pv 0)) (pgs_cons (pg_fld (pv 0)) pgs_nil))))
      (pss_one (ps_fld (pv 0) (pe_slice sl_tupA (pe_fld (pv 0) rfl) po_none (po_some (pe_un un_neg pe_int))) rfl))))), ?_⟩
    refine ⟨_, rfl, s, dx, _, rfl, e0, rfl, s, S, rfl, hS, bz, ?_⟩
    refine ⟨_, rfl, s, C, dx, _, _, rfl, e0, Z.cl, Z.nP, sf_past, true, .inr (.inl ⟨_, .inl (.inl e4), by simp⟩), iteF ?_⟩
    refine ⟨_, rfl, s, C, dx, _, _, rfl, e0, Z.cl, Z.nP, sf_past, 1, rfl, c, _, _, _, rfl, rfl, .inl (.inl e4), atI_last _ _, q.1, _, rfl, .inl (.inl f1), rfl, ?_⟩
    refine ⟨_, _, rfl, ?_⟩
    refine ⟨_, rfl, s, C, dx, _, rfl, e0, Z.cl, Z.nT, by show 5 < 1000; decide, ?_⟩
    rw [put_texts]
    generalize hG : upd H s _ = G1
    have k1 : Kp [s] H G1 := hG ▸ kp_upd
    have g1 : G1 s = some (.ins C dx (sflds n a2 b c S.busy)) := by rw [← hG]; exact upd_same
    clear hG
    refine ⟨_, _, rfl, ?_⟩
    refine ⟨_, rfl, s, C, dx, _, rfl, g1, Z.cl, Z.nM, by show 5 < 1000; decide, ?_⟩
    rw [put_names]
    generalize hG : upd G1 s _ = G2
    have k2 : Kp [s] G1 G2 := hG ▸ kp_upd
    have g2 : G2 s = some (.ins C dx (sflds n a2 b2 c S.busy)) := by rw [← hG]; exact upd_same
    clear hG
    have m : Muts C N [s] H := fun x hx => .inr ⟨S, by rw [List.mem_singleton.mp hx]; exact hS⟩
    have k12 := k1.trans k2
    have e4 := k12 _ _ e4 (m.tup e4)
    refine ⟨rfl, ?_⟩
    refine ⟨_, rfl, s, C, dx, _, _, rfl, g2, Z.cl, Z.nP, sf_past, 1, rfl, _, rfl, sl_okU e4 fun U G3 s3 eU => ?_⟩
    have eU : G3 U = some (.tup (q0.map fun q => V.ref q.1)) := by
      have := cutV_but (q0.map fun q => V.ref q.1) (V.ref q.1)
      rw [← this]
      exact eU
    have g3 := s3 _ _ g2
    refine ⟨_, rfl, s, C, dx, _, rfl, g3, Z.cl, Z.nP, by show 5 < 1000; decide, ?_⟩
    rw [put_past]
    generalize hG : upd G3 s _ = G4
    have k4 : Kp [s] G3 G4 := hG ▸ kp_upd
    have g4 : G4 s = some (.ins C dx (sflds n a2 b2 U S.busy)) := by rw [← hG]; exact upd_same
    clear hG
    have kA : Kp [s] H G4 := k12.trans ((Kp.same s3).trans k4)
    have us : U ∉ [s] := fun z => by
      rw [List.mem_singleton.mp z, g3] at eU
      cases eU
    exact k G4 kA ⟨dx, n, a2, b2, U, g4, e1.kp m kA, kA _ _ f2 (m.tup f2), f3.kp m kA, q0, k4 _ _ eU us, q5, fun x hx => (q2 x (List.mem_append.mpr (.inl hx))).kp m kA⟩
end
end Gu
namespace Gu
open PySem PySem.Spec PyProof.Rows L2
/-! shelves alone: made, their length, what they are written as -/
structure ShInitAt (K : PySem.W.Frag) (C : Addr) : Prop where
  ex : ∃ (f : Addr) (fd : FuncData), Mk K C f ∧ Fun K "__init__" "Shelf.__init__" s_Shelf_init f fd ∧ Binds K fd ps_Shelf_init []
theorem same_mk {H : Hp} {x dx C : Addr} (nx : H x = none) (nd : H dx = none) (ne : dx ≠ x) : Same H (upd (upd H dx (.own x)) x (.ins C dx [])) := (same_new nd).trans (same_new (by rw [upd_ne fun z => ne z.symm]; exact nx))
section
variable {X : Cx} {n : Nat} {C f : Addr} {fd : FuncData} {ps : List Str} {sp : Sp}
/-- len of what has its own __len__ -/
theorem call_lenOwn (F : FnOk X.prog X.w X.K X.mg X.base CX0 n f fd ps sp) (hb : Binds X.K fd ps []) (hr : Room (n + 1) X.A) (hs : PySem.W.findIn X.K (.ref C) "__len__" = some (some (.ref f))) (hf : PySem.W.isFn X.K (.ref f) = true) :
    CallR X (.builtin "len") (fun vs H Q => ∃ (a dx : Addr) (fs : List (Str × V)), vs = [.ref a] ∧ H a = some (.ins C dx fs) ∧ sp [.ref a] H (fun v G => ∃ z : Int, v = .int z ∧ (0 ≤ z ∧ z < 2 ^ 63) ∧ Q (.int z) G) E0) := by
  intro pins s σ H vs us Q I r h
  obtain ⟨a, dx, fs, rfl, ha, want⟩ := h
  cases r with
  | cons r rr =>
    cases rr
    cases (show _ = Value.ref a from r)
    obtain ⟨m1, J, _⟩ := ins_get I.hok ha
    obtain ⟨od, J, _⟩ := J.look
    obtain ⟨m, fr⟩ := I.fr
    refine PySem.W.len_K fr I.ok.mod.kin J hs hf ?_
    have e0 : Env0 X.prog X.w X.K X.mg X.base X.A.in1 X.stack s H := I.env0.in1
    have bt := hb s [.ref a] I.kIn (F.len _ _ _ _ want)
    rw [List.append_nil] at bt
    refine wpAny_call (codeAny_mono (F.run X.A.in1 X.stack s H ⟨[.ref a], []⟩ [.ref a] [.ref a] _ E0 hr.in1 e0 bt (.cons rfl .nil) want) fun r s1 h1 => ?_)
    cases r with
    | error e => exact (h1 : False).elim
    | ok fl =>
      cases fl with
      | ret v =>
        obtain ⟨z, G, I1, rz, b, rfl, z0, q⟩ := I.after h1
        obtain ⟨tk, rfl⟩ := rz
        exact ⟨z0, .int b, G, I1.tok _, ⟨_, rfl⟩, q⟩
      | next => exact (h1 : False).elim
      | brk => exact (h1 : False).elim
      | cont => exact (h1 : False).elim
end
section
variable {X : Cx} {n : Nat} {C f : Addr} {fd : FuncData} {ps : List Str} {sp : Sp}
/-- repr of such an instance -/
theorem call_reprOwn (F : FnOk X.prog X.w X.K X.mg X.base CX0 n f fd ps sp) (hb : Binds X.K fd ps []) (hr : Room (n + 1) X.A) (hs : PySem.W.findIn X.K (.ref C) "__repr__" = some (some (.ref f))) (hf : PySem.W.isFn X.K (.ref f) = true) :
    CallR X (.builtin "repr") (fun vs H Q => ∃ (a dx : Addr) (fs : List (Str × V)), vs = [.ref a] ∧ H a = some (.ins C dx fs) ∧ sp [.ref a] H (fun v G => ∃ z, v = .str z ∧ Q (.str z) G) E0) := by
  intro pins s σ H vs us Q I r h
  obtain ⟨a, dx, fs, rfl, ha, want⟩ := h
  cases r with
  | cons r rr =>
    cases rr
    cases (show _ = Value.ref a from r)
    obtain ⟨m1, J, _⟩ := ins_get I.hok ha
    obtain ⟨od, J, _⟩ := J.look
    obtain ⟨m, fr⟩ := I.fr
    refine PySem.W.repr_K (by have := hu_of hr; exact this) fr I.ok.mod.kin J hs hf ?_
    have e0 : Env0 X.prog X.w X.K X.mg X.base X.A.in1 X.stack s H := I.env0.in1
    have bt := hb s [.ref a] I.kIn (F.len _ _ _ _ want)
    rw [List.append_nil] at bt
    refine wpAny_call (codeAny_mono (F.run X.A.in1 X.stack s H ⟨[.ref a], []⟩ [.ref a] [.ref a] _ E0 hr.in1 e0 bt (.cons rfl .nil) want) fun r s1 h1 => ?_)
    cases r with
    | error e => exact (h1 : False).elim
    | ok fl =>
      cases fl with
      | ret v =>
        obtain ⟨z, G, I1, rz, b, rfl, q⟩ := I.after h1
        obtain ⟨tk, rfl⟩ := rz
        exact ⟨.str b, G, I1, ⟨tk, rfl⟩, q⟩
      | next => exact (h1 : False).elim
      | brk => exact (h1 : False).elim
      | cont => exact (h1 : False).elim
end
section
variable {P : Program} {w : World} {K : PySem.W.Frag} {mg : Str → Option Value} {base : Heap} {C N M : Addr}
theorem mak_sh (B : Bi mg) (S : ShlC K mg C) (D : ShInitAt K C) (C_check_namer : Cal P w K mg base 1 "check_namer" ps_check_namer (spCheckNamer N)) : Mak P w K mg base 2 "Shelf" C (spShInit C N) := by
  obtain ⟨f, fd, M, F, b⟩ := D.ex
  exact ⟨f, fd, ps_Shelf_init, M, ok_shinit B S F C_check_namer, S.g, b⟩
def spLenS (C N : Addr) : Sp := fun vs H Q _ => ∃ (s : Addr) (S : Sf), vs = [.ref s] ∧ ShelfAt C N H s S ∧ S.ok ∧ Q (.int (S.ps.length : Nat)) H
theorem ok_lenS {f : Addr} {fd : FuncData} (B : Bi mg) (Z : ShlC K mg C) (F : Fun K "__len__" "Shelf.__len__" s_Shelf_len f fd) : FnOk P w K mg base CX0 1 f fd ps_Shelf_len (spLenS C N) := by
  refine F.ok sc_Shelf_len (fun vs H Q E h => ?_) (fun cdv A outer s H vs Q E hr h => ?_)
  · obtain ⟨s, S, rfl, _⟩ := h
    rfl
  · obtain ⟨s, S, rfl, hS, ok, k⟩ := h
    obtain ⟨dx, n, a, b, c, e0, e1, e2, e3, e4⟩ := id hS.ex
    refine ⟨_, (pss_one (ps_ret (pe_callB call_len_seq (by rfl) B.len (by decide +kernel) (pa_cons (pe_fld (pv 0) rfl) pa_nil)))), ?_⟩
    refine ⟨_, rfl, s, C, dx, _, _, rfl, e0, Z.cl, Z.nT, sf_texts, a, _, rfl, .inr (.inl (.inl e2)), ?_⟩
    rw [txts_len]
    exact k
theorem mid_id {t : TE} {σ : L2.St} {H : Hp} {Q : VK} (h : t σ H Q) : tMid t σ H Q := ⟨Q, h, fun _ _ q => q⟩
theorem napp_lenS (a b : Str) : (a ++ b).length = a.length + b.length := by
  show (a ++ b).cps.toList.length = a.cps.toList.length + b.cps.toList.length
  rw [str_app, List.length_append]
def shelfLine (n : Nat) : Str := Str.empty ++ (("Shelf(" : String) : Str) ++ ((toString (n : Int) : String) : Str) ++ ((" texts)" : String) : Str)
def spReprS (C N : Addr) : Sp := fun vs H Q _ => ∃ (s : Addr) (S : Sf), vs = [.ref s] ∧ ShelfAt C N H s S ∧ S.ok ∧ Q (.str (shelfLine S.ps.length)) H
theorem ok_reprS {f : Addr} {fd : FuncData} (B : Bi mg) (Z : ShlC K mg C) (F : Fun K "__repr__" "Shelf.__repr__" s_Shelf_repr f fd) : FnOk P w K mg base CX0 1 f fd ps_Shelf_repr (spReprS C N) := by
  refine F.ok sc_Shelf_repr (fun vs H Q E h => ?_) (fun cdv A outer s H vs Q E hr h => ?_)
  · obtain ⟨s, S, rfl, _⟩ := h
    rfl
  · obtain ⟨s, S, rfl, hS, ok, k⟩ := h
    obtain ⟨dx, n, a, b, c, e0, e1, e2, e3, e4⟩ := id hS.ex
    have pl := ok.ps.len
    refine ⟨_, (pss_one (ps_ret (pe_joined (.cons pe_str (.cons (pe_fmt (pe_callB call_len_seq (by rfl) B.len (by decide +kernel) (pa_cons (pe_fld (pv 0) rfl) pa_nil))) (.cons pe_str .nil)))))), ?_⟩
    have l1 : (("Shelf(" : String) : Str).length = 6 := by decide +kernel
    have l2 : ((" texts)" : String) : Str).length = 7 := by decide +kernel
    have l5 : (Str.empty).length = 0 := rfl
    have big : ∀ n : Nat, n ≤ 200 → n ≤ sizeLine := fun n h => Nat.le_of_lt (small1000 (by omega))
    have w2 := (wd_digit2 (i := ((S.ps.length : Nat) : Int)) (by omega) (by omega)).len
    have lg : ((S.ps.length : Nat) : Int).natAbs.log2 < 1920 := Nat.lt_of_lt_of_le (PySem.Flt.log2_lt_of (k := 6) (by decide) (show ((S.ps.length : Nat) : Int).natAbs < 2 ^ 6 by omega)) (by decide)
    refine ⟨_, rfl, big _ ?_, _, rfl, s, C, dx, _, _, rfl, e0, Z.cl, Z.nT, sf_texts, a, _, rfl, .inr (.inl (.inl e2)), ?_⟩
    · exact Nat.le_trans (Nat.le_of_eq (napp_lenS _ _)) (by rw [l5, l1]; decide)
    rw [txts_len]
    have ll : ((toString ((S.ps.length : Nat) : Int) : String) : Str).length ≤ 2 := w2
    refine .inr ⟨_, rfl, lg, _, rfl, big _ ?_, _, rfl, big _ ?_, k⟩
    · rw [napp_lenS, napp_lenS]
      omega
    · rw [napp_lenS, napp_lenS, napp_lenS]
      omega
end
end Gu
namespace Gu
open PySem PySem.Spec PyProof.Rows L2 HandSPX
/-! ### try with several clauses, none of them naming the error, each with any test -/
def wManyT (Wout : WX) (D : Ends) : List ((Value → Option Bool) × (Addr → Value → Option Addr → TS)) → WX
  | [] => Wout
  | (mt, ts) :: l => fun cls d σ H => ∃ r, mt cls = some r ∧ (r = true → ∀ a, H a = none → ts a cls d D σ H) ∧ (r = false → wManyT Wout D l cls d σ H)
inductive HdsT (X : Cx) : List ExceptHandler → List ((Value → Option Bool) × (Addr → Value → Option Addr → TS)) → Prop
  | nil : HdsT X [] []
  | cons {t : Expr} {mt : Value → Option Bool} {ts : Addr → Value → Option Addr → TS} {b0 : Stmt} {suite : List Stmt} {pos : Pos} {hds : List ExceptHandler} {l : List ((Value → Option Bool) × (Addr → Value → Option Addr → TS))} (ht : HTest X t mt)
      (hs : ∀ (a : Addr) (oe : Obj) (cls : Value) (d : Option Addr) (pn : List (Addr × Obj)), Zc cls d oe → (∃ vs, oe.data = .fields vs) → PSs (X.suite a ((a, oe) :: pn)) (b0 :: suite) (ts a cls d)) (r : HdsT X hds l) : HdsT X (.ExceptHandler (some t) none (b0 :: suite) pos :: hds) ((mt, ts) :: l)
section
variable {X : Cx} {body : List Stmt} {h0 : ExceptHandler} {hds : List ExceptHandler} {l : List ((Value → Option Bool) × (Addr → Value → Option Addr → TS))} {pos : Pos} {tb : WX → TS} {Wout : WX}
theorem ps_try_manyT (hs : X.stack = X.env :: X.outer) (hf : X.env.frame = some X.env.locals) (tk : Takes X Wout)
    (hb : ∀ (W : WX) (pn : List (Addr × Obj)) (xe : Value → Shared → Prop), Takes (X.tr pn xe) W → PassesOwn (model X.prog X.w) X.A X.env xe → PSs (X.tr pn xe) body (tb W))
    (hh : HdsT X (h0 :: hds) l) : PS X (.Try body (h0 :: hds) [] [] pos) (fun D σ H => tb (wManyT Wout D l) D σ H) := by
  refine ⟨fun pins s σ H D I want => ?_⟩
  have ok := I.ok
  have frames : X.A.frames = some (X.env :: X.outer) := by rw [ok.frames, hs]
  refine wpAny_Try_except (wpAny_mono ((hb (wManyT Wout D l) (X.pn ++ pins) (fun e s1 => wpAny (model X.prog X.w) X.A (noteFrame e X.env) (fun _ s2 => wpAny (model X.prog X.w) X.A (setFlight e none) (fun _ s3 => wpAny (model X.prog X.w) X.A (handleBy e X.env (h0 :: hds)) (SP X pins D) X.xe s3) X.xe s2) X.xe s1) (fun u s1 x1 => ?_) PassesOwn.looking).run [] s σ H D (I.toTry _) want) (fun fl s1 q => ?_) fun e s1 q => q)
  · obtain ⟨a, B, sI, _, σ1, H1, cls, d, rfl, J0, nb, up, sky, na, os, ag, wish⟩ := x1
    have J : Inv X pins σ1 H1 sI := J0.ofTry ok
    rw [hs] at sky
    refine Sky.land Zc.steady frames hf sky fun h3 fl3 up3 => ?_
    have out : ∀ {h : Heap} {o : Obj} {vs : Array Value}, h.FunFrames B (X.env :: X.outer) → h.get? a = some o → o.data = .fields vs → a ≠ X.env.locals ∧ a ∉ X.fs := fun {h o vs} ff e dd => by
      have nf : a ∉ frs (X.env :: X.outer) := fun hm => by
        obtain ⟨_, o2, e2, z⟩ := ff.mem hm
        rw [e] at e2
        cases e2
        exact z _ dd
      exact ⟨fun z => nf (List.mem_filterMap.mpr ⟨X.env, List.mem_cons_self, by rw [hf, z]⟩), fun hm => by
        obtain ⟨e, he, q⟩ := List.mem_filterMap.mp hm
        exact nf (List.mem_filterMap.mpr ⟨e, List.mem_cons_of_mem _ he, q⟩)⟩
    have go : ∀ {hs2 : List ExceptHandler} {l2 : List ((Value → Option Bool) × (Addr → Value → Option Addr → TS))}, HdsT X hs2 l2 → ∀ (h : Heap) (t : Nat), FlyingZ B (X.env :: X.outer) a (Zc cls d) h → sI.heap.UpToSlots h → wManyT Wout D l2 cls d σ1 H1 →
        wpAny (model X.prog X.w) X.A (handleBy (.ref a) X.env hs2) (SP X pins D) X.xe { s1 with heap := h, toks := t } := by
      intro hs2 l2 hk
      induction hk with
      | nil =>
        intro h t fl up wish
        refine wpAny_handleBy_nil ?_
        obtain ⟨_, _, _, oe, vs, T, oT, ts, he, hz, hd, h1, _⟩ := id fl
        unfold PySem.passOn
        refine wpAny_bind (wpAny_field he hd h1 ?_)
        rw [if_neg (by simp)]
        have last : wpAny (model X.prog X.w) X.A (setFlight (.ref a) X.env.frame) (fun _ s4 => wpAny (model X.prog X.w) X.A (throw (.ref a) : Sem Flow) (SP X pins D) X.xe s4) X.xe { s1 with heap := h, toks := t } := by
          rw [hf]
          refine setFlight_upZ fl fun h4 hh4 up4 => wpAny_throw (tk _ _ ?_)
          exact ⟨a, B, sI, pins, σ1, H1, cls, d, rfl, J, nb, up.trans up4, .inr (.inr (by rw [hs]; exact hh4)), na, os, ag, wish⟩
        first
          | exact wpAny_bind (wpAny_pure (wpAny_bind last))
          | exact wpAny_bind last
      | @cons t mt ts b0 suite pos2 hds2 l2 ht hsu r ih =>
        intro h tok fl up wish
        obtain ⟨ans, hm, yes, no⟩ := wish
        have J3 : Inv X pins σ1 H1 { s1 with heap := h, toks := tok } := J.landed (s' := { s1 with heap := h, toks := tok }) nb fl.1 up os ag
        obtain ⟨oe, vs, he, hz, hd⟩ := fl.there
        have nn := out fl.2.2.1 he hd
        have S3 := J3.suite he hd na nn.1 nn.2
        refine wpAny_handleBy_cons (codeAny_handlers_test ?_) (by intro q; cases q)
        refine ht a oe cls d (X.pn ++ pins) [] σ1 H1 { s1 with heap := h, toks := tok } ans _ _ S3 he hz hm fun h4 tok4 k4 => ?_
        have fl4 := flying_keep k4 fl
        have up4 : sI.heap.UpToSlots h4 := up.trans fun b o hb _ => ⟨o.slots, k4 b o hb⟩
        cases ans with
        | false => exact ih h4 tok4 fl4 up4 (no rfl)
        | true =>
          refine codeAny_handlers_suite (lands_againZ fl4 fun h5 fl5 up5 => ?_)
          have J5 : Inv X pins σ1 H1 { s1 with heap := h5, toks := tok4 } := J.landed (s' := { s1 with heap := h5, toks := tok4 }) nb fl5.1 (up4.trans up5) os ag
          obtain ⟨oe5, vs5, he5, hz5, hd5⟩ := fl5.there
          have n5 := out fl5.2.2.1 he5 hd5
          refine wpAny_mono ((hsu a oe5 cls d (X.pn ++ pins) hz5 ⟨_, hd5⟩).run [] _ σ1 H1 _ (J5.suite he5 hd5 na n5.1 n5.2) (yes rfl a na)) (fun fl7 s7 q7 => ?_) fun _ _ z => False.elim z
          cases fl7 with
          | next =>
            obtain ⟨σ7, H7, S7, q7⟩ := q7
            exact ⟨_, _, S7.unsuite ok, q7⟩
          | brk =>
            obtain ⟨σ7, H7, S7, q7⟩ := q7
            exact ⟨_, _, S7.unsuite ok, q7⟩
          | cont =>
            obtain ⟨σ7, H7, S7, q7⟩ := q7
            exact ⟨_, _, S7.unsuite ok, q7⟩
          | ret u =>
            obtain ⟨v7, σ7, H7, S7, r7, q7⟩ := q7
            exact ⟨_, _, _, S7.unsuite ok, r7, q7⟩
    exact go hh h3 s1.toks fl3 (up.trans up3) wish
  · cases fl with
    | next =>
      obtain ⟨σ1, H1, J1, q⟩ := q
      exact wpAny_execs_nil ⟨σ1, H1, J1.ofTry ok, q⟩
    | brk =>
      obtain ⟨σ1, H1, J1, q⟩ := q
      exact ⟨σ1, H1, J1.ofTry ok, q⟩
    | cont =>
      obtain ⟨σ1, H1, J1, q⟩ := q
      exact ⟨σ1, H1, J1.ofTry ok, q⟩
    | ret u =>
      obtain ⟨v, σ1, H1, J1, r, q⟩ := q
      exact ⟨v, σ1, H1, J1.ofTry ok, r, q⟩
end
end Gu
namespace Gu
open PySem PySem.Spec PyProof.Rows L2 LamX
theorem htest_tup2 {X : Cx} {x1 x2 : Str} {c1 c2 : Value} {p1 p2 pos : Pos} {kk : Nat} (h1 : Names X x1 c1) (h2 : Names X x2 c2) : HTest X (.Tuple [.Name x1 p1, .Name x2 p2] kk pos) (fun cls => PySem.W.exmAny X.K cls [c1, c2]) := by
  intro a oe cls d pn pins σ H s r Q E I ha hz hm k
  have LT : PySem.W.Looks (model X.prog X.w) s.heap (typeOf (.ref a)) cls := fun A Q E s1 keep q => wpAny_typeOf_ref (keep _ _ ha) (by rw [hz.1]; exact q)
  have name : ∀ {x : Str} {c : Value} {p : Pos} {R : Value → Shared → Prop}, Names X x c → R c s → wpAny (model X.prog X.w) (X.A.mark (some (.ref a))) (eval (.Name x p) X.env) R E s := fun {x c p R} hc go => by
    obtain ⟨hg, hdb, hm | ⟨hm, hv, hn⟩⟩ := hc
    · exact ld_glob (X := X.suite a ((a, oe) :: pn)) I hg hm go hdb
    · exact ld_blt (X := X.suite a ((a, oe) :: pn)) I hg hm hv go hn hdb
  refine wpAny_Tuple ?_
  refine wpAny_items_cons (name h1 ?_)
  refine wpAny_items_cons (name h2 ?_)
  refine wpAny_items_nil ⟨by show 2 ≤ sizeLine; decide, ?_⟩
  have kp : ∀ q o, s.heap.get? q = some o → (s.heap.push { cls := .type "tuple", data := .seq [c1, c2].toArray }).get? q = some o := fun _ _ z => Heap.get?_push_of_some _ z
  exact (PySem.W.exm_tup2 (I.kIn.keeps kp) (LT.keeps kp) (Heap.get?_push_size s.heap rfl) hm).here (k _ s.toks kp)
end Gu
namespace Gu
open PySem PySem.Spec PyProof.Rows L2 HandSPX
/-! ### errors without a field -/
/-- it has no __init__ of its own -/
structure Err0 (K : PySem.W.Frag) (b : BaseE) (C : Addr) : Prop where
  q : PySem.W.excIn K C b.tl b.new = true
section
variable {X : Cx} {b : BaseE} {U C : Addr} {N : Str}
theorem pmk_err0 {p pos : Pos} (T : ErrK X.K X.mg b U N C) (T0 : Err0 X.K b C) (hg : Gl X N) (hdb : (N == ("__debug__" : Str)) = false) : PMk X (.Call (.Name N p) [] [] pos) (fun _ H Q => Q (.ref C) none H) := by
  intro pins s σ H Q I h
  refine wpAny_Call_Name_kw (ld_glob I hg T.g ?_ hdb)
  refine PySem.W.callWith_K0 I.kIn T.kC ?_
  obtain ⟨bm, N2, nm, qn, bs, hdct, sn, sub, ab, col, dd, k0, k1, k2, k3, k5, mN, hC, hN, hni, T2⟩ := exc_obj I.kIn T0.q
  refine wpAny_call_exc_subT T.bok.base T2 hC hN hni (fun h' e hm => ?_) (Nat.zero_le _)
  exact mk_of I hm (raises_own T.exC T.ty) h (I.hok.gone hm.new)
theorem ps_raiseE0 {W : WX} {p pos pos2 : Pos} {k : Nat} (T : ErrK X.K X.mg b U N C) (T0 : Err0 X.K b C) (hc : X.calm = true) (hr : Room k X.A) (tk : Takes X W) (hg : Gl X N) (hdb : (N == ("__debug__" : Str)) = false := by decide) :
    PS X (.Raise (some (.Call (.Name N p) [] [] pos)) none pos2) (fun _ σ H => W (.ref C) none σ H) := ps_raise hc tk (pmk_err0 T T0 hg hdb)
end
end Gu
namespace Gu
open PySem PySem.Spec PyProof.Rows L2
/-! ### Shorteners refused -/
section
variable {P : Program} {w : World} {K : PySem.W.Frag} {mg : Str → Option Value} {base : Heap} {C U CM CN : Addr}
def OkNum (v : V) : Prop := ∃ i : Int, v = .int i ∧ 0 ≤ i ∧ i ≤ 40
/-- no whole number from 0 to m -/
def NoNum (K : PySem.W.Frag) (H : Hp) (m : Int) (v : V) : Prop := (∃ i : Int, v = .int i ∧ ¬ (0 ≤ i ∧ i ≤ m)) ∨ Isa K H v "int" false ∨ (Isa K H v "int" true ∧ Isa K H v "bool" true)
/-- no text of at most m signs -/
def NoTxt (K : PySem.W.Frag) (H : Hp) (m : Int) (v : V) : Prop := Isa K H v "str" false ∨ ∃ z : Str, v = .str z ∧ z.length ≤ 1000 ∧ isTxt z m = false
theorem TyX.same {H G : Hp} (s : Same H G) {v : V} {t : Value} (h : TyX K H v t) : TyX K G v t := by
  cases h with
  | base b =>
    refine .base ?_
    cases b with
    | non => exact .non
    | bl x => exact .bl x
    | int i => exact .int i
    | str x => exact .str x
    | flt x => exact .flt x
    | lst e => exact .lst (s _ _ e)
    | frz e => exact .frz (s _ _ e)
    | tup e => exact .tup (s _ _ e)
    | dK e => exact .dK (s _ _ e)
    | dT e => exact .dT (s _ _ e)
    | ins e a b c d f => exact .ins (s _ _ e) a b c d f
  | byt b => exact .byt b
  | set e => exact .set (s _ _ e)
  | kList e c => exact .kList e c
  | kTuple e c => exact .kTuple e c
  | kDict e c => exact .kDict e c
  | fTuple e => exact .fTuple (s _ _ e)
  | fDict e => exact .fDict (s _ _ e)
theorem Isa.same {H G : Hp} (s : Same H G) {v : V} {T : String} {b : Bool} (h : Isa K H v T b) : Isa K G v T b := by
  obtain ⟨t, a, c⟩ := h
  exact ⟨t, TyX.same s a, c⟩
theorem NoNum.same {H G : Hp} (s : Same H G) {m : Int} {v : V} (h : NoNum K H m v) : NoNum K G m v := h.imp id (Or.imp (Isa.same s) fun ⟨a, b⟩ => ⟨a.same s, b.same s⟩)
theorem NoTxt.same {H G : Hp} (s : Same H G) {m : Int} {v : V} (h : NoTxt K H m v) : NoTxt K G m v := h.imp (Isa.same s) id
theorem Cal.imp {k : Nat} {x : Str} {ps : List Str} {s1 s2 : Sp} (c : Cal P w K mg base k x ps s1) (h : ∀ vs H Q E, s2 vs H Q E → s1 vs H Q E) : Cal P w K mg base k x ps s2 := by
  obtain ⟨f, fd, F, r⟩ := c.ex
  exact ⟨f, fd, ⟨fun vs H Q E z => F.len vs H Q E (h vs H Q E z), fun A outer s H args us vs Q E a b c d z => F.run A outer s H args us vs Q E a b c d (h vs H Q E z)⟩, r⟩
/-- a whole number from 0 to m, or none -/
def spNum (K : PySem.W.Frag) : Sp := fun vs H Q _ => ∃ (v : V) (m : Int), vs = [v, .int 0, .int m] ∧ ((∃ i : Int, v = .int i ∧ 0 ≤ i ∧ i ≤ m ∧ Q (.bl true) H) ∨ (NoNum K H m v ∧ Q (.bl false) H))
theorem num_of (c : Cal P w K mg base 1 "is_integer" ps_is_integer (spIsInteger K)) : Cal P w K mg base 1 "is_integer" ps_is_integer (spNum K) := c.imp fun vs H Q E ⟨v, m, e, h⟩ => by
  refine ⟨v, 0, m, e, ?_⟩
  rcases h with ⟨i, rfl, h0, h1, q⟩ | ⟨⟨i, rfl, h⟩ | h | ⟨h, k⟩, q⟩
  · exact .inl ⟨i, rfl, by rw [decide_eq_true ⟨h0, h1⟩]; exact q⟩
  · exact .inl ⟨i, rfl, by rw [decide_eq_false h]; exact q⟩
  · exact .inr (.inl ⟨h, q⟩)
  · exact .inr (.inr ⟨h, k, q⟩)
/-- a text of at most m signs, or none -/
def spTxt (K : PySem.W.Frag) : Sp := fun vs H Q _ => ∃ (v : V) (m : Int), vs = [v, .int m] ∧ ((∃ z : Str, v = .str z ∧ z.length ≤ 1000 ∧ isTxt z m = true ∧ ∀ G, Same H G → Q (.bl true) G) ∨ (NoTxt K H m v ∧ ∀ G, Same H G → Q (.bl false) G))
theorem txt_of (c : Cal P w K mg base 1 "is_text" ps_is_text (spIsText K)) : Cal P w K mg base 1 "is_text" ps_is_text (spTxt K) := c.imp fun vs H Q E ⟨v, m, e, h⟩ => by
  refine ⟨v, m, e, ?_⟩
  rcases h with ⟨z, rfl, l, h, q⟩ | ⟨h | ⟨z, rfl, l, h⟩, q⟩
  · exact .inl ⟨z, rfl, l, fun G s => by rw [h]; exact q G s⟩
  · exact .inr ⟨h, q H (Same.refl H)⟩
  · exact .inl ⟨z, rfl, l, fun G s => by rw [h]; exact q G s⟩
/-- an error of the class at C is raised that holds v -/
def Raised (C : Addr) (Fl : Str) (v : V) (H : Hp) (E : XK) : Prop := ∀ (d : Addr) (G : Hp), Same H G → G d = some (.xd [(Fl, v)]) → E (.ref C) (some d) G
theorem Raised.same {Fl : Str} {v : V} {H G : Hp} {E : XK} (s : Same H G) (h : Raised C Fl v H E) : Raised C Fl v G E := fun d J sJ e => h d J (s.trans sJ) e
end
end Gu
namespace Gu
open PySem PySem.Spec PyProof.Rows L2
/-! ### methods that may raise -/
structure CalMX (P : Program) (w : World) (K : PySem.W.Frag) (mg : Str → Option Value) (base : Heap) (k : Nat) (C : Addr) (m : Str) (ps : List Str) (sp : Sp) : Prop where
  ex : ∃ (f : Addr) (fd : FuncData), Meth K C m f ∧ FnOk P w K mg base (L2.CX P w) k f fd ps sp ∧ Binds K fd ps []
theorem MethAt.calX {P : Program} {w : World} {K : PySem.W.Frag} {mg : Str → Option Value} {base : Heap} {C : Addr} {m q : Str} {st : Stmt} {N ps : List Str} {k : Nat} {sp : Sp} (D : MethAt K C m q st ps) (S : FnScope N ps (defScope st)) (len : ∀ vs H Q E, sp vs H Q E → vs.length = ps.length)
    (body : ∀ (f : Addr) (cdv : Value) (A : Around) (outer : List Env) (s : Shared) (H : Hp) (vs : List V) (Q : VK) (E : XK), Room k (A.deeper (envOfC q (defScope st) s.heap.objs.size f cdv)) → sp vs H Q E →
      ∃ t, PSs (cxOf (L2.CX P w) P w K mg base N q (defScope st) f cdv A outer s H E) (defBody st) t ∧ t { nx := fun _ G => Q .non G, rt := Q } (start N vs) H) : CalMX P w K mg base (k + 1) C m ps sp := by
  obtain ⟨f, fd, M, F, b⟩ := D.ex
  exact ⟨f, fd, M, F.okX S len (body f), b⟩
section
variable {X : Cx} {k j : Nat} {m : Str} {ps : List Str} {sp : Sp} {apos pos : Pos} {o e : Expr} {es : List Expr} {t : TA} {ta : TE} {C : Addr} {E : XK} {W : WX}
theorem pe_mthX (c : CalMX X.prog X.w X.K X.mg X.base k C m ps sp) (cl : Cls X.K C) (hr : Room j X.A) (hk : k ≤ j) (tk : Takes X W) (hW : ∀ cls d σ H, E cls d H → W cls d σ H) (he : PE X o ta) (ha : PA X (e :: es) t) {pl : Sem Bool}
    (hst : starEach (e :: es) X.env = (false, eval e X.env) :: starEach es X.env := by rfl) (hpl : (backTo pos (starEach es X.env)).any (·.1) = false := by rfl)
    (ht : eval (.Call (.Attribute o m apos) (e :: es) [] pos) X.env = (do
      let ov ← eval o X.env
      standAt apos.atName
      let (f, first) ← holding [ov] (getMethod ov m pl)
      callWith pos f first (backTo pos (starEach (e :: es) X.env)) (backToKw pos (keywordEach [] X.env))) := by rfl) : PE X (.Call (.Attribute o m apos) (e :: es) [] pos) (tMeth C m sp [] E ta t) := by
  obtain ⟨f, fd, M, F, b⟩ := c.ex
  exact pe_meth he cl M F (hr.mono hk) b .nil (passes_call tk hW) ha hst hpl ht
theorem pe_mthX0 (c : CalMX X.prog X.w X.K X.mg X.base k C m ps sp) (cl : Cls X.K C) (hr : Room j X.A) (hk : k ≤ j) (tk : Takes X W) (hW : ∀ cls d σ H, E cls d H → W cls d σ H) (he : PE X o ta) {pl : Sem Bool}
    (ht : eval (.Call (.Attribute o m apos) [] [] pos) X.env = (do
      let ov ← eval o X.env
      standAt apos.atName
      let (f, first) ← holding [ov] (getMethod ov m pl)
      callWith pos f first (backTo pos (starEach [] X.env)) (backToKw pos (keywordEach [] X.env))) := by rfl) : PE X (.Call (.Attribute o m apos) [] [] pos) (tMeth C m sp [] E ta tNil) := by
  obtain ⟨f, fd, M, F, b⟩ := c.ex
  exact pe_meth0 he cl M F (hr.mono hk) b .nil (passes_call tk hW) ht
end
section
variable {P : Program} {w : World} {K : PySem.W.Frag} {mg : Str → Option Value} {base : Heap} {C N U V1 V2 CT CM CU CN CB : Addr}
/-! check_text, both ways -/
def spCheckTextE (K : PySem.W.Frag) (CT : Addr) : Sp := fun vs H Q E => ∃ v : V, vs = [v] ∧ ((∃ t : Str, v = .str t ∧ Wd 200 t ∧ ∀ G, Same H G → Q .non G) ∨ (NoTxt K H 200 v ∧ ∀ G, Same H G → Raised CT "value" v G E))
theorem cal_checkTextE (B : Bi mg) (D : At K mg "check_text" s_check_text ps_check_text) (T_InvalidText : ErrK K mg bVE U "InvalidText" CT) (S_InvalidText : ErrF K "InvalidText" "value" CT) (C_is_text : Cal P w K mg base 1 "is_text" ps_is_text (spTxt K)) : CalX P w K mg base 2 "check_text" ps_check_text (spCheckTextE K CT) := by
  refine D.calX sc_check_text (fun vs H Q E h => ?_) (fun f cdv A outer s H vs Q E hr h => ?_)
  · obtain ⟨v, rfl, _⟩ := h
    rfl
  · obtain ⟨v, rfl, way⟩ := h
    refine ⟨_, (pss_one (ps_if (pt_not (pt_val (pe_own C_is_text hr (by decide) (by rfl) (pa_cons (pv 0) (pa_cons (pe_cst B.MOST_TEXT (by rfl)) pa_nil))))) (pss_one (ps_raiseE T_InvalidText S_InvalidText rfl hr (takes_of rfl rfl rfl rfl) (pa_cons (pv 0) pa_nil) (by rfl))) pss_nil)), ?_⟩
    rcases way with ⟨t, rfl, wt, k⟩ | ⟨no, k⟩
    · have tl := wd_len wt
      exact ⟨_, rfl, _, _, rfl, .inl ⟨t, rfl, by omega, wd_isTxt wt, fun G sG => ⟨_, rfl, iteF (k G sG)⟩⟩⟩
    · exact ⟨_, rfl, v, _, rfl, .inr ⟨no, fun G sG => ⟨_, rfl, iteT ⟨_, rfl, v, rfl, fun d nd => k G sG d _ (same_new nd) upd_same⟩⟩⟩⟩
/-! a text comes, or is refused -/
def spLetComeE (K : PySem.W.Frag) (C N CT CM : Addr) : Sp := fun vs H Q E => ∃ (s : Addr) (v : V) (S : Sf), vs = [.ref s, v] ∧ ShelfAt C N H s S ∧ S.ok ∧
  ((∃ t : Str, v = .str t ∧ Wd 200 t ∧ S.ps.length < 20 ∧ ∀ G, Kp [s] H G → ShelfAt C N G s (S.come t) → Q (.str (nameOf S.so S.w t S.ps)) G) ∨
   (NoTxt K H 200 v ∧ ∀ G, Same H G → Raised CT "value" v G E) ∨ (∃ t : Str, v = .str t ∧ Wd 200 t ∧ S.ps.length = 20 ∧ ∀ G, Same H G → Raised CM "limit" (.int 20) G E))
theorem cal_letComeE (B : Bi mg) (Z : ShlC K mg C) (T_TooMany : ErrK K mg bAE V1 "TooMany" CM) (S_TooMany : ErrF K "TooMany" "limit" CM) (D : MethAt K C "let_come" "Shelf.let_come" s_Shelf_let_come ps_Shelf_let_come) (CX_check_text : CalX P w K mg base 2 "check_text" ps_check_text (spCheckTextE K CT)) (C_name_of_next : Cal P w K mg base 3 "name_of_next" ps_name_of_next (spNextQ K N)) (M_become : CalM P w K mg base 1 C "become" ps_Shelf_become (spBecome C N)) : CalMX P w K mg base 4 C "let_come" ps_Shelf_let_come (spLetComeE K C N CT CM) := by
  refine D.calX sc_Shelf_let_come (fun vs H Q E h => ?_) (fun f cdv A outer s H vs Q E hr h => ?_)
  · obtain ⟨s, v, S, rfl, _⟩ := h
    rfl
  · obtain ⟨s, v, S, rfl, hS, ok, way⟩ := h
    refine ⟨_, (pss_cons (ps_expr (pe_ownX CX_check_text hr (by decide) (takes_of rfl rfl rfl rfl) (fun _ _ _ _ h => h) (by rfl) (pa_cons (pv 1) pa_nil)))
      (pss_cons (ps_if (pt_cmpR op_ge (pe_callB call_len_seq (by rfl) B.len (by decide +kernel) (pa_cons (pe_fld (pv 0) rfl) pa_nil)) (pe_cst B.MOST_SHELVED (by rfl)) (nomark _)) (pss_one (ps_raiseE T_TooMany S_TooMany rfl hr (takes_of rfl rfl rfl rfl) (pa_cons (pe_cst B.MOST_SHELVED (by rfl)) pa_nil) (by rfl))) pss_nil)
      (pss_cons (ps_set (i := 2) sc_Shelf_let_come.nd rfl (.inl rfl) (pe_own C_name_of_next hr (by decide) (by rfl) (pa_cons (pe_fld (pv 0) rfl) (pa_cons (pv 1) (pa_cons (pe_fld (pv 0) rfl) (pa_cons (pe_fld (pv 0) rfl) pa_nil))))))
      (pss_cons (ps_expr (pe_mth M_become Z.cl hr (by decide) (pv 0) (pa_cons (pe_op op_catA (pe_fld (pv 0) rfl) (pe_tup (pa_cons (pv 1) pa_nil))) (pa_cons (pe_op op_catF (pe_fld (pv 0) rfl) (pe_tupF (pa_cons (pv 2) pa_nil))) pa_nil))))
      (pss_one (ps_ret (pv 2))))))), ?_⟩
    rcases way with ⟨t, rfl, wt, l20, k⟩ | ⟨no, k⟩ | ⟨t, rfl, wt, l20, k⟩
    · have tl := wd_len wt
      refine ⟨_, rfl, _, rfl, .inl ⟨t, rfl, wt, fun G1 s1 => ?_⟩⟩
      have hS1 := hS.same s1
      obtain ⟨dx, n, a, b, c, e0, e1, e2, e3, e4⟩ := id hS1.ex
      refine ⟨_, rfl, s, C, dx, _, _, rfl, e0, Z.cl, Z.nT, sf_texts, a, _, rfl, .inr (.inl (.inl e2)), _, _, rfl, rfl, _, rfl, ?_⟩
      rw [txts_len, decide_eq_false (show ¬ (20 : Int) ≤ (S.ps.length : Int) by omega)]
      refine iteF ?_
      refine ⟨_, rfl, s, C, dx, _, _, rfl, e0, Z.cl, Z.nN, sf_namer, _, rfl, _, rfl, s, C, dx, _, _, rfl, e0, Z.cl, Z.nT, sf_texts, _, rfl, s, C, dx, _, _, rfl, e0, Z.cl, Z.nM, sf_names, ?_⟩
      refine ⟨n, a, b, S.so, S.w, t, S.ps.map (fun q : Str × Str => q.1), S.ps.map (fun q : Str × Str => q.2), rfl, e1, by omega, .inl (.inl e2), by rw [List.length_map]; omega, fun u hu => ?_, e3.sq, by rw [List.length_map]; omega, fun G2 s2 => ?_⟩
      · obtain ⟨q, hq, rfl⟩ := List.mem_map.mp hu
        exact (ok.ps.wd q hq).1
      rw [nextOf_ps]
      have hS2 := hS1.same s2
      have e0 := s2 _ _ e0
      have e2 := s2 _ _ e2
      have e3 := e3.same s2
      refine ⟨_, rfl, s, dx, _, rfl, e0, rfl, ?_⟩
      refine ⟨_, rfl, s, C, dx, _, _, rfl, e0, Z.cl, Z.nT, sf_texts, _, rfl, by show 1 ≤ sizeLine; decide, fun q nq => ?_⟩
      generalize hG : upd G2 q _ = G3
      have s3 : Same G2 G3 := hG ▸ same_new nq
      have eq : G3 q = some (.tup [.str t]) := by rw [← hG]; exact upd_same
      clear hG
      refine catU (s3 _ _ e2) eq (by rw [txts_len, List.length_singleton, sizeLine_eq]; omega) fun U G4 s4 eU => ?_
      rw [txts_cat S.ps t (nameOf S.so S.w t S.ps)] at eU
      have e0 := s4 _ _ (s3 _ _ e0)
      have e3 := (e3.same s3).same s4
      refine ⟨_, rfl, s, C, dx, _, _, rfl, e0, Z.cl, Z.nM, sf_names, _, rfl, by show 1 ≤ sizeLine; decide, fun u G5 s5 eu nu => ?_⟩
      refine ⟨b, u, _, _, rfl, rfl, e3.same s5, eu, (by rw [nms_len, List.length_singleton, sizeLine_eq]; omega), fun W G6 s6 eW => ?_⟩
      rw [nms_cat S.ps t (nameOf S.so S.w t S.ps)] at eW
      have sA := s3.trans (s4.trans (s5.trans s6))
      refine ⟨s, U, W, S, S.ps ++ [(t, nameOf S.so S.w t S.ps)], rfl, hS2.same sA, by have := ok.few; omega, s6 _ _ (s5 _ _ eU), eW, fun G7 k7 h7 => ?_⟩
      exact ⟨_, rfl, k G7 ((Kp.same (s1.trans (s2.trans sA))).trans k7) h7⟩
    · exact ⟨_, rfl, v, rfl, .inr ⟨no, k⟩⟩
    · refine ⟨_, rfl, _, rfl, .inl ⟨t, rfl, wt, fun G1 s1 => ?_⟩⟩
      obtain ⟨dx, n, a, b, c, e0, e1, e2, e3, e4⟩ := id (hS.same s1).ex
      refine ⟨_, rfl, s, C, dx, _, _, rfl, e0, Z.cl, Z.nT, sf_texts, a, _, rfl, .inr (.inl (.inl e2)), _, _, rfl, rfl, _, rfl, ?_⟩
      rw [txts_len, decide_eq_true (show (20 : Int) ≤ (S.ps.length : Int) by omega)]
      exact iteT ⟨_, rfl, fun d nd => k G1 s1 d _ (same_new nd) upd_same⟩
end
end Gu
namespace Gu
open PySem PySem.Spec PyProof.Rows L2
section
variable {P : Program} {w : World} {K : PySem.W.Frag} {mg : Str → Option Value} {base : Heap} {C N U V1 V2 CT CM CU CN CB : Addr}
/-- no name on the shelf -/
def NoName (K : PySem.W.Frag) (H : Hp) (S : Sf) (v : V) : Prop := Isa K H v "str" false ∨ ∃ z : Str, v = .str z ∧ z ∉ S.ps.map (·.2)
/-! a name goes, or is refused -/
def spLetGoE (K : PySem.W.Frag) (C N CU : Addr) : Sp := fun vs H Q E => ∃ (s : Addr) (v : V) (S : Sf), vs = [.ref s, v] ∧ ShelfAt C N H s S ∧ S.ok ∧
  ((∃ (y t : Str) (j : Nat), v = .str y ∧ S.ps[j]? = some (t, y) ∧ (∀ m, m < j → (S.ps.map (·.2))[m]? ≠ some y) ∧ ∀ G, Kp [s] H G → ShelfAt C N G s (S.go j) → Q (.str t) G) ∨ (NoName K H S v ∧ ∀ G, Same H G → Raised CU "value" v G E))
theorem cal_letGoE (B : Bi mg) (Z : ShlC K mg C) (T_UnknownName : ErrK K mg bLE V1 "UnknownName" CU) (S_UnknownName : ErrF K "UnknownName" "value" CU) (D : MethAt K C "let_go" "Shelf.let_go" s_Shelf_let_go ps_Shelf_let_go) (M_become : CalM P w K mg base 1 C "become" ps_Shelf_become (spBecome C N)) : CalMX P w K mg base 2 C "let_go" ps_Shelf_let_go (spLetGoE K C N CU) := by
  refine D.calX sc_Shelf_let_go (fun vs H Q E h => ?_) (fun f cdv A outer s H vs Q E hr h => ?_)
  · obtain ⟨s, v, S, rfl, _⟩ := h
    rfl
  · obtain ⟨s, v, S, rfl, hS, ok, way⟩ := h
    obtain ⟨dx, n, a, b, c, e0, e1, e2, e3, e4⟩ := id hS.ex
    refine ⟨_, (pss_cons (ps_if (PW.pt (pw_or (pt_not (pt_val (pe_callB call_isi (by rfl) B.isinstance (by decide +kernel) (pa_cons (pv 1) (pa_cons (pe_bltn (v := .ty "str") (by rfl) B.str (by decide +kernel) rfl) pa_nil))))) (pw_or1 (pt_cmpR op_notIn_seq (pv 1) (pe_fld (pv 0) rfl) (by rfl))))) (pss_one (ps_raiseE T_UnknownName S_UnknownName rfl hr (takes_of rfl rfl rfl rfl) (pa_cons (pv 1) pa_nil) (by rfl))) pss_nil)
      (pss_cons (ps_set (i := 2) sc_Shelf_let_go.nd rfl (.inl rfl) (pe_bmF PySem.F.plainAttrs_tuple PySem.F.slot_tuple_index PySem.F.type_tuple_index L2.mt_tup_index (pe_fld (pv 0) rfl) (pa_cons (pv 1) pa_nil)))
      (pss_cons (ps_set (i := 3) sc_Shelf_let_go.nd rfl (.inl rfl) (pe_ix ix_tup (pe_fld (pv 0) rfl) (pv 2) (fun _ _ => rfl)))
      (pss_cons (ps_expr (pe_mth M_become Z.cl hr (by decide) (pv 0) (pa_cons (pe_op op_catA (pe_slice sl_tupA (pe_fld (pv 0) rfl) po_none (po_some (pv 2))) (pe_slice sl_tupA (pe_fld (pv 0) rfl) (po_some (pe_op op_add (pv 2) pe_int)) po_none)) (pa_cons (pe_op op_catF (pe_slice sl_tupF (pe_fld (pv 0) rfl) po_none (po_some (pv 2))) (pe_slice sl_tupF (pe_fld (pv 0) rfl) (po_some (pe_op op_add (pv 2) pe_int)) po_none)) pa_nil))))
      (pss_one (ps_ret (pv 3))))))), ?_⟩
    rcases way with ⟨y, t, j, rfl, hj, first, k⟩ | ⟨⟨ty, i1, i2⟩ | ⟨z, rfl, nz⟩, k⟩
    · have jl : j < S.ps.length := (List.getElem?_eq_some_iff.mp hj).1
      have pl := ok.ps.len
      have yin : (S.ps.map (·.2))[j]? = some y := by rw [List.getElem?_map, hj]; rfl
      obtain ⟨ty, i1, i2⟩ := Isa.str_str (K := K) (H := H) (z := y)
      refine ⟨_, rfl, _, _, ty, _, true, rfl, .ty _, i1, i2, _, rfl, iteF ?_⟩
      refine ⟨_, rfl, _, rfl, s, C, dx, _, _, rfl, e0, Z.cl, Z.nM, sf_names, b, _, rfl, .inr e3.sq, rfl, flat_strs _, _, rfl, ?_⟩
      rw [show inV (V.str y) (nms S.ps) = true by unfold nms; rw [in_strs]; exact decide_eq_true (List.mem_of_getElem? yin)]
      refine iteF ?_
      refine ⟨_, rfl, s, C, dx, _, _, rfl, e0, Z.cl, Z.nM, sf_names, ⟨b, _, rfl, e3⟩, _, rfl, b, S.ps.map (fun q : Str × Str => q.2), y, j, rfl, rfl, e3.sq, yin, first, ?_⟩
      refine ⟨_, rfl, s, C, dx, _, _, rfl, e0, Z.cl, Z.nT, sf_texts, _, rfl, a, _, _, .str t, rfl, rfl, .inl (.inl e2), atI_nat (j := j) (by unfold txts; rw [List.getElem?_map, List.getElem?_map, hj]; rfl), ?_⟩
      refine ⟨_, rfl, s, dx, _, rfl, e0, rfl, ?_⟩
      refine ⟨_, rfl, s, C, dx, _, _, rfl, e0, Z.cl, Z.nT, sf_texts, _, rfl, _, rfl, sl_okU e2 fun U1 G1 s1 f1 => ?_⟩
      rw [cutV_hd] at f1
      refine ⟨_, rfl, s, C, dx, _, _, rfl, s1 _ _ e0, Z.cl, Z.nT, sf_texts, _, rfl, _, _, rfl, rfl, _, rfl, noPartS (sl_okU (s1 _ _ e2) fun U2 G2 s2 f2 => ?_)⟩
      have f2 : G2 U2 = some (.tup (cutV (txts S.ps) (some ((j + 1 : Nat) : Int)) none)) := f2
      rw [cutV_bk] at f2
      refine catU (s2 _ _ f1) f2 ?_ fun U3 G3 s3 f3 => ?_
      · rw [List.length_take, List.length_drop, txts_len, sizeLine_eq]
        omega
      rw [txts_go] at f3
      have s13 := s1.trans (s2.trans s3)
      have e0 := s13 _ _ e0
      have e3 := e3.same s13
      refine ⟨_, rfl, s, C, dx, _, _, rfl, e0, Z.cl, Z.nM, sf_names, _, rfl, _, rfl, b, _, rfl, e3, fun W1 G4 s4 g1 => ?_⟩
      rw [cutV_hd] at g1
      refine ⟨_, rfl, s, C, dx, _, _, rfl, s4 _ _ e0, Z.cl, Z.nM, sf_names, _, rfl, _, _, rfl, rfl, _, rfl, noPartS ⟨b, _, rfl, e3.same s4, fun W2 G5 s5 g2 => ?_⟩⟩
      have g2 : FT G5 W2 (cutV (nms S.ps) (some ((j + 1 : Nat) : Int)) none) := g2
      rw [cutV_bk] at g2
      refine ⟨W1, W2, _, _, rfl, rfl, g1.same s5, g2, ?_, fun W3 G6 s6 g3 => ?_⟩
      · rw [List.length_take, List.length_drop, nms_len, sizeLine_eq]
        omega
      rw [nms_go] at g3
      have s46 := s4.trans (s5.trans s6)
      refine ⟨s, U3, W3, S, S.ps.take j ++ S.ps.drop (j + 1), rfl, hS.same (s13.trans s46), by have := ok.few; omega, s46 _ _ f3, g3, fun G7 k7 h7 => ?_⟩
      exact ⟨_, rfl, k G7 ((Kp.same (s13.trans s46)).trans k7) h7⟩
    · exact ⟨_, rfl, _, _, ty, _, false, rfl, .ty _, i1, i2, _, rfl, iteT (iteT ⟨_, rfl, v, rfl, fun d nd => k H (Same.refl H) d _ (same_new nd) upd_same⟩)⟩
    · obtain ⟨ty, i1, i2⟩ := Isa.str_str (K := K) (H := H) (z := z)
      refine ⟨_, rfl, _, _, ty, _, true, rfl, .ty _, i1, i2, _, rfl, iteF ?_⟩
      refine ⟨_, rfl, _, rfl, s, C, dx, _, _, rfl, e0, Z.cl, Z.nM, sf_names, b, _, rfl, .inr e3.sq, rfl, flat_strs _, _, rfl, ?_⟩
      rw [show inV (V.str z) (nms S.ps) = false by unfold nms; rw [in_strs]; exact decide_eq_false nz]
      exact iteT ⟨_, rfl, .str z, rfl, fun d nd => k H (Same.refl H) d _ (same_new nd) upd_same⟩
/-! add, remove of a shelf that is not busy -/
def spAddE (K : PySem.W.Frag) (C N CT CM : Addr) : Sp := fun vs H Q E => (∃ (s : Addr) (v : V) (S : Sf), vs = [.ref s, v] ∧ ShelfAt C N H s S ∧ S.busy = false) ∧ spLetComeE K C N CT CM vs H Q E
theorem cal_addE (B : Bi mg) (Z : ShlC K mg C) (D : MethAt K C "add" "Shelf.add" s_Shelf_add ps_Shelf_add) (M_check_not_busy : CalM P w K mg base 1 C "check_not_busy" ps_Shelf_check_not_busy (spCalmS C N)) (MX_let_come : CalMX P w K mg base 4 C "let_come" ps_Shelf_let_come (spLetComeE K C N CT CM)) : CalMX P w K mg base 5 C "add" ps_Shelf_add (spAddE K C N CT CM) := by
  refine D.calX sc_Shelf_add (fun vs H Q E h => ?_) (fun f cdv A outer s H vs Q E hr h => ?_)
  · obtain ⟨⟨s, v, S, rfl, _⟩, _⟩ := h
    rfl
  · obtain ⟨⟨s, v, S, rfl, hS, bz⟩, h⟩ := h
    obtain ⟨dx, n, a, b, c, e0, _⟩ := id hS.ex
    refine ⟨_, (pss_cons (ps_expr (pe_mth0 M_check_not_busy Z.cl hr (by decide) (pv 0)))
      (pss_one (ps_ret (pe_mthX MX_let_come Z.cl hr (by decide) (takes_of rfl rfl rfl rfl) (fun _ _ _ _ h => h) (pv 0) (pa_cons (pv 1) pa_nil))))), ?_⟩
    refine ⟨_, rfl, s, dx, _, rfl, e0, rfl, s, S, rfl, hS, bz, ?_⟩
    exact ⟨_, rfl, s, dx, _, rfl, e0, rfl, _, rfl, h⟩
def spRemoveE (K : PySem.W.Frag) (C N CU : Addr) : Sp := fun vs H Q E => (∃ (s : Addr) (v : V) (S : Sf), vs = [.ref s, v] ∧ ShelfAt C N H s S ∧ S.busy = false) ∧ spLetGoE K C N CU vs H Q E
theorem cal_removeE (B : Bi mg) (Z : ShlC K mg C) (D : MethAt K C "remove" "Shelf.remove" s_Shelf_remove ps_Shelf_remove) (M_check_not_busy : CalM P w K mg base 1 C "check_not_busy" ps_Shelf_check_not_busy (spCalmS C N)) (MX_let_go : CalMX P w K mg base 2 C "let_go" ps_Shelf_let_go (spLetGoE K C N CU)) : CalMX P w K mg base 3 C "remove" ps_Shelf_remove (spRemoveE K C N CU) := by
  refine D.calX sc_Shelf_remove (fun vs H Q E h => ?_) (fun f cdv A outer s H vs Q E hr h => ?_)
  · obtain ⟨⟨s, v, S, rfl, _⟩, _⟩ := h
    rfl
  · obtain ⟨⟨s, v, S, rfl, hS, bz⟩, h⟩ := h
    obtain ⟨dx, n, a, b, c, e0, _⟩ := id hS.ex
    refine ⟨_, (pss_cons (ps_expr (pe_mth0 M_check_not_busy Z.cl hr (by decide) (pv 0)))
      (pss_one (ps_ret (pe_mthX MX_let_go Z.cl hr (by decide) (takes_of rfl rfl rfl rfl) (fun _ _ _ _ h => h) (pv 0) (pa_cons (pv 1) pa_nil))))), ?_⟩
    refine ⟨_, rfl, s, dx, _, rfl, e0, rfl, s, S, rfl, hS, bz, ?_⟩
    exact ⟨_, rfl, s, dx, _, rfl, e0, rfl, _, rfl, h⟩
end
end Gu
namespace Gu
open PySem PySem.Spec PyProof.Rows L2
section
variable {P : Program} {w : World} {K : PySem.W.Frag} {mg : Str → Option Value} {base : Heap} {C N M UI US UZ CT CM CU CN : Addr}
/-! undo, or nothing to undo -/
def spUndoE (C N CN : Addr) : Sp := fun vs H Q E => ∃ (s : Addr) (S : Sf), vs = [.ref s] ∧ ShelfAt C N H s S ∧ S.busy = false ∧
  ((∃ past ps, S.past = past ++ [ps] ∧ ∀ G, Kp [s] H G → ShelfAt C N G s { S with ps := ps, past := past } → Q .non G) ∨ (S.past = [] ∧ E (.ref CN) none H))
theorem cal_undoE (B : Bi mg) (Z : ShlC K mg C) (T_NothingToUndo : ErrK K mg bLE US "NothingToUndo" CN) (T0_NothingToUndo : Err0 K bLE CN) (D : MethAt K C "undo" "Shelf.undo" s_Shelf_undo ps_Shelf_undo) (M_check_not_busy : CalM P w K mg base 1 C "check_not_busy" ps_Shelf_check_not_busy (spCalmS C N)) : CalMX P w K mg base 2 C "undo" ps_Shelf_undo (spUndoE C N CN) := by
  refine D.calX sc_Shelf_undo (fun vs H Q E h => ?_) (fun f cdv A outer s0 H vs Q E hr h => ?_)
  · obtain ⟨s, S, rfl, _⟩ := h
    rfl
  · obtain ⟨s, S, rfl, hS, bz, way⟩ := h
    refine ⟨_, (pss_cons (ps_expr (pe_mth0 M_check_not_busy Z.cl hr (by decide) (pv 0)))
      (pss_cons (ps_if (pt_not (pt_truth (pe_fld (pv 0) rfl) (fun _ => rfl))) (pss_one (ps_raiseE0 T_NothingToUndo T0_NothingToUndo rfl hr (takes_of rfl rfl rfl rfl) (by rfl))) pss_nil)
      (pss_cons (ps_asg (pe_ix ix_tup (pe_fld (pv 0) rfl) (pe_un un_neg pe_int) (fun _ _ => rfl)) (pg_tup rfl (pgs_cons (pg_fld (pv 0)) (pgs_cons (pg_fld (pv 0)) pgs_nil))))
      (pss_one (ps_fld (pv 0) (pe_slice sl_tupA (pe_fld (pv 0) rfl) po_none (po_some (pe_un un_neg pe_int))) rfl))))), ?_⟩
    rcases way with ⟨past, ps, hp, k⟩ | ⟨hp, k⟩
    · obtain ⟨dx, n, a, b, c, e0, e1, e2, e3, qs, e4, q1, q2⟩ := id hS.ex
      rw [hp] at q1
      obtain ⟨q0, q, rfl, q5, q6⟩ : ∃ q0 q, qs = q0 ++ [q] ∧ q0.map (·.2) = past ∧ q.2 = ps := by
        obtain ⟨x, y, rfl, h1, h2⟩ := List.map_eq_append_iff.mp q1
        obtain ⟨z, r, rfl, h3, h4⟩ := List.map_eq_cons_iff.mp h2
        exact ⟨x, z, by rw [List.map_eq_nil_iff.mp h4], h1, h3⟩
      rw [List.map_append] at e4
      obtain ⟨a2, b2, f1, f2, f3⟩ := q2 q (List.mem_append.mpr (.inr (List.mem_singleton.mpr rfl)))
      rw [q6] at f2 f3
      refine ⟨_, rfl, s, dx, _, rfl, e0, rfl, s, S, rfl, hS, bz, ?_⟩
      refine ⟨_, rfl, s, C, dx, _, _, rfl, e0, Z.cl, Z.nP, sf_past, true, .inr (.inl ⟨_, .inl (.inl e4), by simp⟩), iteF ?_⟩
      refine ⟨_, rfl, s, C, dx, _, _, rfl, e0, Z.cl, Z.nP, sf_past, 1, rfl, c, _, _, _, rfl, rfl, .inl (.inl e4), atI_last _ _, q.1, _, rfl, .inl (.inl f1), rfl, ?_⟩
      refine ⟨_, _, rfl, ?_⟩
      refine ⟨_, rfl, s, C, dx, _, rfl, e0, Z.cl, Z.nT, by show 5 < 1000; decide, ?_⟩
      rw [put_texts]
      generalize hG : upd H s _ = G1
      have k1 : Kp [s] H G1 := hG ▸ kp_upd
      have g1 : G1 s = some (.ins C dx (sflds n a2 b c S.busy)) := by rw [← hG]; exact upd_same
      clear hG
      refine ⟨_, _, rfl, ?_⟩
      refine ⟨_, rfl, s, C, dx, _, rfl, g1, Z.cl, Z.nM, by show 5 < 1000; decide, ?_⟩
      rw [put_names]
      generalize hG : upd G1 s _ = G2
      have k2 : Kp [s] G1 G2 := hG ▸ kp_upd
      have g2 : G2 s = some (.ins C dx (sflds n a2 b2 c S.busy)) := by rw [← hG]; exact upd_same
      clear hG
      have m : Muts C N [s] H := fun x hx => .inr ⟨S, by rw [List.mem_singleton.mp hx]; exact hS⟩
      have k12 := k1.trans k2
      have e4 := k12 _ _ e4 (m.tup e4)
      refine ⟨rfl, ?_⟩
      refine ⟨_, rfl, s, C, dx, _, _, rfl, g2, Z.cl, Z.nP, sf_past, 1, rfl, _, rfl, sl_okU e4 fun U G3 s3 eU => ?_⟩
      have eU : G3 U = some (.tup (q0.map fun q => V.ref q.1)) := by
        have := cutV_but (q0.map fun q => V.ref q.1) (V.ref q.1)
        rw [← this]
        exact eU
      have g3 := s3 _ _ g2
      refine ⟨_, rfl, s, C, dx, _, rfl, g3, Z.cl, Z.nP, by show 5 < 1000; decide, ?_⟩
      rw [put_past]
      generalize hG : upd G3 s _ = G4
      have k4 : Kp [s] G3 G4 := hG ▸ kp_upd
      have g4 : G4 s = some (.ins C dx (sflds n a2 b2 U S.busy)) := by rw [← hG]; exact upd_same
      clear hG
      have kA : Kp [s] H G4 := k12.trans ((Kp.same s3).trans k4)
      have us : U ∉ [s] := fun z => by
        rw [List.mem_singleton.mp z, g3] at eU
        cases eU
      exact k G4 kA ⟨dx, n, a2, b2, U, g4, e1.kp m kA, kA _ _ f2 (m.tup f2), f3.kp m kA, q0, k4 _ _ eU us, q5, fun x hx => (q2 x (List.mem_append.mpr (.inl hx))).kp m kA⟩
    · obtain ⟨dx, n, a, b, c, e0, e1, e2, e3, qs, e4, q1, q2⟩ := id hS.ex
      have e : qs = [] := List.map_eq_nil_iff.mp (q1.trans hp)
      rw [e] at e4
      refine ⟨_, rfl, s, dx, _, rfl, e0, rfl, s, S, rfl, hS, bz, ?_⟩
      exact ⟨_, rfl, s, C, dx, _, _, rfl, e0, Z.cl, Z.nP, sf_past, false, .inr (.inl ⟨_, .inl (.inl e4), rfl⟩), iteT k⟩
end
end Gu
namespace Gu
open PySem PySem.Spec PyProof.Rows L2
/-! ### try: body finally: suite, where nothing rises -/
theorem ps_finT {X : Cx} {body : List Stmt} {f₀ : Stmt} {fs : List Stmt} {pos : Pos} {tb tf : TS} (hb : PSs X.nox body tb) (hf : PSs X.nox (f₀ :: fs) tf) : PS X (.Try body [] [] (f₀ :: fs) pos) (fun D σ H => tb { nx := fun σ1 H1 => tf D σ1 H1, rt := fun _ _ => False } σ H) := by
  refine ⟨fun pins s σ H D I h => ?_⟩
  refine wpAny_Try_finally ?_
  refine wpAny_mono (hb.run pins s σ H { nx := fun σ1 H1 => tf D σ1 H1, rt := fun _ _ => False } (I.wish _) h) (fun g s1 z => ?_) fun _ _ z => False.elim z
  cases g with
  | ret u =>
    obtain ⟨_, _, _, _, _, q⟩ := z
    exact False.elim q
  | brk =>
    obtain ⟨_, _, _, q⟩ := z
    exact False.elim q
  | cont =>
    obtain ⟨_, _, _, q⟩ := z
    exact False.elim q
  | next =>
    obtain ⟨σ1, H1, J1, q1⟩ := z
    refine wpAny_execs_nil ?_
    refine wpAny_mono (hf.run pins s1 σ1 H1 D ((J1.unwish).wish _) q1) (fun g2 s2 q2 => ?_) fun _ _ e => False.elim e
    have q3 : SP X pins D g2 s2 := q2.unwish
    cases g2 <;> exact q3
/-! ### o.m(e, ..), m a def that makes a tuple of what is left over -/
section
variable {P : Program} {w : World} {K : PySem.W.Frag} {mg : Str → Option Value} {base : Heap} {CX : CXT} {j k : Nat} {f : Addr}
/-- a promise by positional values and some keywords, however they are bound -/
def FnRK (P : Program) (w : World) (K : PySem.W.Frag) (mg : Str → Option Value) (base : Heap) (CX : CXT) (k : Nat) (f : Addr) (ks : List Str) (sp : List V → List V → Hp → VK → XK → Prop) : Prop :=
  ∀ (A : Around) (outer : List Env) (s : Shared) (H : Hp) (us ws : List Value) (vs zs : List V) (Q : VK) (E : XK), Room k A → Env0 P w K mg base A outer s H → Vals vs us → Vals zs ws → zs.length = ks.length → sp vs zs H Q E →
    codeAny (model P w) A (.call (.ref f) ⟨us, ks.zip ws⟩) (CR CX outer P w H s Q E) s
end
section
variable {X : Cx} {pins : List (Addr × Obj)} {σ : L2.St} {H : Hp} {s : Shared}
theorem run_fnRK {CX : CXT} {k : Nat} {f : Addr} {ks : List Str} {sp : List V → List V → Hp → VK → XK → Prop} {E : XK} {Q : VK} {us ws : List Value} {vs zs : List V} (F : FnRK X.prog X.w X.K X.mg X.base CX k f ks sp) (hr : Room k X.A) (hx : Passes CX X E) (I : Inv X pins σ H s) (r : Vals vs us) (rz : Vals zs ws) (lz : zs.length = ks.length) (h : sp vs zs H Q E) :
    codeAny (model X.prog X.w) X.A (.call (.ref f) ⟨us, ks.zip ws⟩) (fun r s' => match r with | .ok (.ret v) => EP X pins σ Q v s' | .ok _ => False | .error e => X.xe e s') s := by
  refine codeAny_mono (F X.A X.stack s H us ws vs zs Q E hr I.env0 r rz lz h) fun r s' hq => ?_
  cases r with
  | error e => exact hx pins σ H s e s' I hq
  | ok fl =>
    cases fl with
    | ret u => exact I.after hq
    | next => exact False.elim hq
    | brk => exact False.elim hq
    | cont => exact False.elim hq
end
def tMethRK (C : Addr) (m : Str) (ks : List Str) (sp : List V → List V → Hp → VK → XK → Prop) (E : XK) (ta : TE) (t tk : TA) : TE := fun σ H Q => ta σ H fun x H1 => ∃ a dx fs, x = .ref a ∧ H1 a = some (.ins C dx fs) ∧ fs.lookup m = none ∧ t σ H1 fun vs H2 => tk σ H2 fun zs H3 => zs.length = ks.length ∧ sp (x :: vs) zs H3 Q E
section
variable {X : Cx} {CX : CXT} {k : Nat} {C f : Addr} {m : Str} {ks : List Str} {sp : List V → List V → Hp → VK → XK → Prop} {E : XK} {o e : Expr} {es : List Expr} {kws : List Keyword} {ta : TE} {t tk : TA} {p apos pos : Pos}
theorem pe_methRK0 {pl : Sem Bool} (he : PE X o ta) (c : Cls X.K C) (hm : Meth X.K C m f) (F : FnRK X.prog X.w X.K X.mg X.base CX k f [] sp) (hr : Room k X.A) (hx : Passes CX X E) (ha : PA X (e :: es) t)
    (hst : starEach (e :: es) X.env = (false, eval e X.env) :: starEach es X.env := by rfl) (hpl : (backTo pos (starEach es X.env)).any (·.1) = false := by rfl)
    (ht : eval (.Call (.Attribute o m apos) (e :: es) [] pos) X.env = (do
      let ov ← eval o X.env
      standAt apos.atName
      let (f, first) ← holding [ov] (getMethod ov m pl)
      callWith pos f first (backTo pos (starEach (e :: es) X.env)) (backToKw pos (keywordEach [] X.env))) := by rfl) :
    PE X (.Call (.Attribute o m apos) (e :: es) [] pos) (tMethRK C m [] sp E ta t tNil) := by
  refine ⟨fun pins s σ H Q I h => ?_⟩
  refine PySem.W.methodCall_KW (pl := pl) (thn (he.run pins s σ H _ I h) fun u s1 ⟨x, H1, I1, rx, a, dx, fs, ex, ea, l, q⟩ => ?_) ht
  subst ex
  obtain rfl : u = Value.ref a := rx
  refine getmeth_ok I1 ea c hm l ?_
  refine PySem.W.callWith_K (first := [.ref a]) (h₀ := X.base) I.ok.mod.kin hm.kp (thn (ha.run pos pins s1 σ H1 _ I1 q) fun us s2 ⟨vs, H2, I2, r, q2⟩ => ⟨I2.kIn, ?_⟩) hst hpl
  obtain ⟨l0, q3⟩ := q2
  exact wpAny_call (run_fnRK (us := .ref a :: us) (vs := .ref a :: vs) (ws := []) (zs := []) F hr hx I2 (.cons rfl r) .nil l0 q3)
end
/-! ### def m(self, *v, k=d) -/
section
variable {CX : CXT} {P : Program} {w : World} {K : PySem.W.Frag} {mg : Str → Option Value} {base : Heap} {k : Nat} {f : Addr} {name qual : Str} {params : Arguments} {body : List Stmt} {scope : Scope} {dV doc pm cdv ct oc : Value} {kD : Addr} {an od : Option Addr}
  {osl : Array (Option Value)} {N : List Str} {sp : Sp} {pself pk pv : Str} {dk : V} {du : Value}
theorem star_own (hCX : StX.CXUp CX) (lk : K.lookup f = some ⟨oc, od, .func (PySem.W.fnOf name qual params body scope dV (.ref kD) doc pm an cdv ct), osl⟩) (hcd : PySem.W.codeIn K cdv qual = true) (S : FnScope N [pself, pk, pv] scope) (hdk : PySem.W.nsIn K kD pk = some (some du)) (rdk : RelV dk du)
    (hb : ∀ (a : Value) (rest : List Value), ∃ (β γ : Type) (k1 : Option Value → Sem β) (k2 : β → Sem γ) (k3 : γ → Sem (List (Str × Value))) (b : β), bindArgs (PySem.W.fnOf name qual params body scope dV (.ref kD) doc pm an cdv ct) ⟨a :: rest, []⟩ = ((nsGet kD pk >>= k1) >>= k2) >>= k3 ∧ k1 (some du) = pure b ∧ (k2 b >>= k3) = (newTuple rest >>= fun t => pure [(pself, a), (pk, du), (pv, t)]))
    (hbody : ∀ (A : Around) (outer : List Env) (s : Shared) (H : Hp) (vs : List V) (Q : VK) (E : XK), Room k (A.deeper (envOfC qual scope s.heap.objs.size f cdv)) → sp vs H Q E →
      ∃ t, PSs (cxOf CX P w K mg base N qual scope f cdv A outer s H E) body t ∧ t { nx := fun _ H' => Q .non H', rt := Q } (start N vs) H) :
    FnRK P w K mg base CX (k + 1) f [] (fun vs _ H Q E => ∃ x rest, vs = x :: rest ∧ rest.length ≤ sizeLine ∧ ∀ p, H p = Option.none → sp [x, dk, V.ref p] (upd H p (.tup rest)) Q E) := by
  intro A outer s H us ws vs zs Q E hr e0 r rz lz hsp
  obtain ⟨x, rest, ev, hz, hq⟩ := hsp
  subst ev
  cases zs with
  | cons _ _ => cases lz
  | nil =>
  cases rz
  cases r with
  | cons rx r2 =>
  rename_i ux u2
  have hn : H s.heap.objs.size = Option.none := e0.hok.fresh (Nat.le_refl _)
  have hl2 : u2.length ≤ sizeLine := by rw [← r2.length]; exact hz
  have KX : K.In s.heap := e0.mod.kin.keeps fun b o e => (e0.bs b o e).1
  refine StX.run_bnd (ps := [pself, pk, pv]) lk hcd S hr e0 (G := fun xs H2 => ∃ p, H p = Option.none ∧ xs = [x, dk, V.ref p] ∧ H2 = upd H p (.tup rest)) (fun A' Ex Q' h => ?_) fun s2 H2 xs ⟨p, hp, ex, eH⟩ hr' => ?_
  · obtain ⟨β, γ, k1, k2, k3, b, e1, e2, e3⟩ := hb ux u2
    show wpAny (model P w) A' (bindArgs _ ⟨ux :: u2, []⟩) _ _ _
    rw [e1, bind_assoc, bind_assoc]
    refine wpAny_bind ((PySem.W.looks_nsIn KX hdk).here ?_)
    show wpAny _ _ (k1 (some du) >>= _) _ _ _
    rw [e2, pure_bind, e3]
    refine wpAny_bind (wpAny_newTuple (wpAny_pure ?_) hl2)
    have new : ObjOk P w (upd H s.heap.objs.size (.tup rest)) (s.heap.push ({ cls := .type "tuple", data := .seq u2.toArray } : Obj)) s.heap.objs.size (.tup rest) := ⟨hz, u2, r2, ⟨_, Heap.get?_push_size _ rfl, rfl, _, rfl⟩⟩
    have un := StX.un_laid (fs := frs outer) (s := s) (o := ({ cls := .type "tuple", data := .seq u2.toArray } : Obj)) (u := .tup rest) hn
    exact h _ _ [x, dk, V.ref s.heap.objs.size] [ux, du, Value.ref s.heap.objs.size] (StX.env0_laid e0 new) un rfl (fun e s' => hCX outer s H _ _ E e s' un (fun b o q => Heap.get?_push_of_some _ q) rfl) (.cons rx (.cons rdk (.cons rfl .nil))) rfl ⟨_, hn, rfl, rfl⟩
  · subst ex eH
    exact hbody A outer s2 _ _ Q E hr' (hq p hp)
end
end Gu
namespace Gu
open PySem PySem.Spec PyProof.Rows L2
structure DoAllAt (K : PySem.W.Frag) (C : Addr) : Prop where
  ex : ∃ (f kD : Addr) (oc doc pm cdv ct : Value) (od an : Option Addr) (osl : Array (Option Value)), Meth K C "do_all" f ∧ K.lookup f = some ⟨oc, od, .func (PySem.W.fnOf "do_all" "Shelf.do_all" (defArgs s_Shelf_do_all) (defBody s_Shelf_do_all) (defScope s_Shelf_do_all) .none (.ref kD) doc pm an cdv ct), osl⟩ ∧ PySem.W.codeIn K cdv "Shelf.do_all" = true ∧ PySem.W.nsIn K kD "watch" = some (some .none)
theorem doall_bind {kD : Addr} {doc pm cdv ct : Value} {an : Option Addr} : ∀ (a : Value) (rest : List Value), ∃ (β γ : Type) (k1 : Option Value → Sem β) (k2 : β → Sem γ) (k3 : γ → Sem (List (Str × Value))) (b : β), bindArgs (PySem.W.fnOf "do_all" "Shelf.do_all" (defArgs s_Shelf_do_all) (defBody s_Shelf_do_all) (defScope s_Shelf_do_all) .none (.ref kD) doc pm an cdv ct) ⟨a :: rest, []⟩ = ((nsGet kD "watch" >>= k1) >>= k2) >>= k3 ∧ k1 (some .none) = pure b ∧ (k2 b >>= k3) = (newTuple rest >>= fun t => pure [((("self" : String) : Str), a), ((("watch" : String) : Str), Value.none), ((("deeds" : String) : Str), t)])
  | a, [] => ⟨_, _, _, _, _, _, rfl, rfl, rfl⟩
  | a, r :: rs => ⟨_, _, _, _, _, _, rfl, rfl, rfl⟩
end Gu
namespace Gu
open PySem PySem.Spec PyProof.Rows L2
theorem no_space {n : Nat} {t : Str} (h : Wd n t) : 32 ∉ TL.tl t := fun z => absurd (h.sgn 32 z) (by decide +kernel)
theorem str_len (t : Str) : t.length = t.cps.toList.length := by
  have := TL.len_tl t
  unfold TL.tl at this
  omega
theorem nbase_nz {w : Int} {t : Str} (h6 : 6 ≤ w) (ht : t.length ≠ 0) : (nbase w t).length ≠ 0 := by
  rw [str_len, show (nbase w t).cps.toList = _ from cutS_head t (by omega), List.length_take, ← str_len]
  omega
theorem app_nz {a b : Str} (h : b.length ≠ 0) : (a ++ b).length ≠ 0 := by
  rw [str_len, str_app, List.length_append, ← str_len, ← str_len]
  omega
theorem ending_nz (n : Int) : (ending n).length ≠ 0 := by
  unfold ending
  rw [str_len, str_app, List.length_append, show (("~" : String) : Str).cps.toList.length = 1 by decide +kernel]
  omega
theorem name_nz {w : Int} {t : Str} (ps : Prs) (h6 : 6 ≤ w) (ht : t.length ≠ 0) : (nameOf "count" w t ps).length ≠ 0 := by
  unfold nameOf
  rw [if_pos rfl]
  by_cases h : (mates w t ps).length = 0
  · rw [if_pos h]
    exact nbase_nz h6 ht
  · rw [if_neg h, numbered_other (by decide)]
    exact app_nz (ending_nz _)
theorem Sf.come_ok {S : Sf} {t : Str} (ok : S.ok) (l20 : S.ps.length < 20) (wt : Wd 200 t) (few : S.past.length < 500) : (S.come t).ok := by
  refine ⟨ok.so, ok.w0, ok.w1, ⟨?_, fun q hq => ?_⟩, fun ps h => ?_, ?_⟩
  · show (S.ps ++ [_]).length ≤ 20
    rw [List.length_append, List.length_singleton]
    omega
  · rcases List.mem_append.mp hq with hq | hq
    · exact ok.ps.wd q hq
    · rw [List.mem_singleton.mp hq]
      exact ⟨wt, wd_nameQ wt (by omega)⟩
  · rcases List.mem_append.mp h with h | h
    · exact ok.past ps h
    · rw [List.mem_singleton.mp h]
      exact ok.ps
  · show (S.past ++ [_]).length ≤ 500
    rw [List.length_append, List.length_singleton]
    omega
theorem go_mem {ps : Prs} {j : Nat} {q : Str × Str} (h : q ∈ ps.take j ++ ps.drop (j + 1)) : q ∈ ps := by
  rcases List.mem_append.mp h with h | h
  · exact List.mem_of_mem_take h
  · exact List.mem_of_mem_drop h
theorem go_len {ps : Prs} {j : Nat} (h : j < ps.length) : (ps.take j ++ ps.drop (j + 1)).length + 1 = ps.length := by
  rw [List.length_append, List.length_take, List.length_drop]
  omega
theorem Sf.go_ok {S : Sf} {j : Nat} (ok : S.ok) (hj : j < S.ps.length) (few : S.past.length < 500) : (S.go j).ok := by
  refine ⟨ok.so, ok.w0, ok.w1, ⟨?_, fun q hq => ok.ps.wd q (go_mem hq)⟩, fun ps h => ?_, ?_⟩
  · have := go_len hj
    have := ok.ps.len
    show (S.ps.take j ++ S.ps.drop (j + 1)).length ≤ 20
    omega
  · rcases List.mem_append.mp h with h | h
    · exact ok.past ps h
    · rw [List.mem_singleton.mp h]
      exact ok.ps
  · show (S.past ++ [_]).length ≤ 500
    rw [List.length_append, List.length_singleton]
    omega
theorem first_of_name {y : Str} : ∀ {ps : Prs} {i : Nat}, (ps.map (·.2))[i]? = some y → ∃ (j : Nat) (t : Str), ps[j]? = some (t, y) ∧ ∀ m : Nat, m < j → (ps.map (·.2))[m]? ≠ some y
  | [], i, h => by simp at h
  | q :: ps, i, h => by
    by_cases e : q.2 = y
    · exact ⟨0, q.1, by rw [List.getElem?_cons_zero, ← e], fun m hm => absurd hm (by omega)⟩
    · cases i with
      | zero =>
        rw [List.map_cons, List.getElem?_cons_zero] at h
        exact absurd (Option.some.inj h) e
      | succ i =>
        rw [List.map_cons, List.getElem?_cons_succ] at h
        obtain ⟨j, t, h1, h2⟩ := first_of_name h
        refine ⟨j + 1, t, by rw [List.getElem?_cons_succ]; exact h1, fun m hm => ?_⟩
        cases m with
        | zero =>
          rw [List.map_cons, List.getElem?_cons_zero]
          exact fun z => e (Option.some.inj z)
        | succ m =>
          rw [List.map_cons, List.getElem?_cons_succ]
          exact h2 m (by omega)
theorem filt_first {y t : Str} : ∀ {ps : Prs} {j : Nat}, ps[j]? = some (t, y) → (∀ m, m < j → (ps.map (·.2))[m]? ≠ some y) → ((ps.filter fun q => decide (q.2 = y)).map (·.1))[0]? = some t
  | [], j, h, _ => by simp at h
  | q :: ps, 0, h, _ => by
    rw [List.getElem?_cons_zero] at h
    have h := Option.some.inj h
    rw [List.filter_cons_of_pos (by rw [h]; exact decide_eq_true rfl), List.map_cons, List.getElem?_cons_zero, h]
  | q :: ps, j + 1, h, first => by
    have e : q.2 ≠ y := fun z => first 0 (by omega) (by rw [List.map_cons, List.getElem?_cons_zero, z])
    rw [List.filter_cons_of_neg (by simp [e])]
    rw [List.getElem?_cons_succ] at h
    exact filt_first h fun m hm z => first (m + 1) (by omega) (by rw [List.map_cons, List.getElem?_cons_succ]; exact z)
end Gu
namespace Gu
open PySem PySem.Spec PyProof.Rows L2
/-! ### deeds -/
structure TupC (K : PySem.W.Frag) (mg : Str → Option Value) (x : Str) (ys : List Str) : Prop where
  ex : ∃ T, mg x = some (.ref T) ∧ ∀ H : Hp, SqT K H T (ys.map V.str)
def findY (ps : Prs) (y : Str) : Option Nat := ps.findIdx? (fun q => decide (q.2 = y))
theorem findY_at {ps : Prs} {y : Str} {j : Nat} (h : findY ps y = some j) : (∃ t, ps[j]? = some (t, y)) ∧ ∀ m, m < j → (ps.map (·.2))[m]? ≠ some y := by
  obtain ⟨jl, h1, h2⟩ := List.findIdx?_eq_some_iff_getElem.mp h
  refine ⟨⟨ps[j].1, ?_⟩, fun m hm z => ?_⟩
  · rw [List.getElem?_eq_getElem jl, ← of_decide_eq_true h1]
  · have ml : m < ps.length := by omega
    rw [List.getElem?_map, List.getElem?_eq_getElem ml] at z
    exact h2 m hm (decide_eq_true (Option.some.inj z))
/-- a deed: its word, what it is told -/
abbrev Dd := Str × Str
def DAt (H : Hp) (q : Addr) (d : Dd) : Prop := H q = some (.tup [.str d.1, .str d.2])
/-- what a deed leaves -/
def doD (S : Sf) (d : Dd) : Sf := if d.1 = ("add" : String) then S.come d.2 else match findY S.ps d.2 with | some j => S.go j | none => S
/-- it may be done -/
def OkD (S : Sf) (d : Dd) : Prop := (d.1 = ("add" : String) ∧ Wd 200 d.2 ∧ S.ps.length < 20) ∨ (d.1 = ("remove" : String) ∧ ∃ j, findY S.ps d.2 = some j)
theorem doD_add {S : Sf} {t : Str} : doD S ((("add" : String) : Str), t) = S.come t := if_pos rfl
theorem doD_rem {S : Sf} {y : Str} {j : Nat} (h : findY S.ps y = some j) : doD S ((("remove" : String) : Str), y) = S.go j := by
  unfold doD
  rw [if_neg (show ¬ (("remove" : String) : Str) = (("add" : String) : Str) from by decide +kernel)]
  show (match findY S.ps y with | some j => S.go j | none => S) = _
  rw [h]
theorem OkD.ok {S : Sf} {d : Dd} (h : OkD S d) (ok : S.ok) (few : S.past.length < 500) : (doD S d).ok ∧ (doD S d).so = S.so ∧ (doD S d).w = S.w ∧ (doD S d).busy = S.busy ∧ (doD S d).past = S.past ++ [S.ps] := by
  obtain ⟨w, t⟩ := d
  rcases h with ⟨e, wt, l⟩ | ⟨e, j, hj⟩
  · obtain rfl : w = ("add" : String) := e
    rw [doD_add]
    exact ⟨Sf.come_ok ok l wt few, rfl, rfl, rfl, rfl⟩
  · obtain rfl : w = ("remove" : String) := e
    rw [doD_rem hj]
    obtain ⟨⟨x, hx⟩, _⟩ := findY_at hj
    exact ⟨Sf.go_ok ok (List.getElem?_eq_some_iff.mp hx).1 few, rfl, rfl, rfl, rfl⟩
theorem OkD.word {S : Sf} {d : Dd} (h : OkD S d) : d.1 ∈ [(("add" : String) : Str), (("remove" : String) : Str)] := by
  rcases h with ⟨e, _⟩ | ⟨e, _⟩
  · rw [e]
    exact List.mem_cons_self ..
  · rw [e]
    exact List.mem_cons_of_mem _ (List.mem_cons_self ..)
section
variable {P : Program} {w : World} {K : PySem.W.Frag} {mg : Str → Option Value} {base : Heap} {C N : Addr}
def spIsDeed : Sp := fun vs H Q _ => ∃ (q : Addr) (d : Dd), vs = [.ref q] ∧ DAt H q d ∧ d.1 ∈ [(("add" : String) : Str), (("remove" : String) : Str)] ∧ Q (.bl true) H
theorem cal_isDeed (B : Bi mg) (W : TupC K mg "DEED_WORDS" ["add", "remove"]) (D : At K mg "is_deed" s_is_deed ps_is_deed) (C_is_tuple : Cal P w K mg base 1 "is_tuple" ps_is_tuple (spIsTuple K)) : Cal P w K mg base 2 "is_deed" ps_is_deed spIsDeed := by
  obtain ⟨T, gT, hT⟩ := W.ex
  refine D.cal sc_is_deed (fun vs H Q E h => ?_) (fun f cdv A outer s H vs Q E hr h => ?_)
  · obtain ⟨q, d, rfl, _⟩ := h
    rfl
  · obtain ⟨q, d, rfl, hq, hw, k⟩ := h
    refine ⟨_, (pss_one (ps_ret (pe_and (pe_own C_is_tuple hr (by decide) (by rfl) (pa_cons (pv 0) (pa_cons pe_int (pa_cons pe_int pa_nil)))) (pe_and (pe_callB call_isi (by rfl) B.isinstance (by decide +kernel) (pa_cons (pe_ix ix_tup (pv 0) pe_int (fun _ _ => rfl)) (pa_cons (pe_bltn (v := .ty "str") (by rfl) B.str (by decide +kernel) rfl) pa_nil))) (pe_one (pe_cmpR op_in_seq (pe_ix ix_tup (pv 0) pe_int (fun _ _ => rfl)) (pe_glob (v := .ref T) (by rfl) gT rfl) (by rfl))))))), ?_⟩
    obtain ⟨t, i1, i2⟩ := Isa.str_str (K := K) (H := H) (z := d.1)
    refine ⟨_, rfl, _, _, _, rfl, .inl ⟨q, _, rfl, .inl (.inl hq), _, rfl, ?_⟩⟩
    refine iteT ?_
    refine ⟨_, rfl, q, _, _, _, rfl, rfl, .inl (.inl hq), (rfl : atI [V.str d.1, V.str d.2] 0 = some (V.str d.1)), _, _, t, _, true, rfl, .ty _, i1, i2, _, rfl, iteT ?_⟩
    refine ⟨_, rfl, q, _, _, _, rfl, rfl, .inl (.inl hq), (rfl : atI [V.str d.1, V.str d.2] 0 = some (V.str d.1)), ?_⟩
    refine ⟨T, _, rfl, .inr (hT H), rfl, flat_strs _, ?_⟩
    rw [in_strs, decide_eq_true hw]
    exact k
def spCheckDeeds (K : PySem.W.Frag) : Sp := fun vs H Q _ => ∃ (l : Addr) (ds : List (Addr × Dd)), vs = [.ref l] ∧ SqT K H l (ds.map fun q => V.ref q.1) ∧ (∀ q ∈ ds, DAt H q.1 q.2 ∧ q.2.1 ∈ [(("add" : String) : Str), (("remove" : String) : Str)]) ∧ ∀ G, Same H G → Q .non G
theorem cal_checkDeeds (B : Bi mg) (D : At K mg "check_deeds" s_check_deeds ps_check_deeds) (C_is_deed : Cal P w K mg base 2 "is_deed" ps_is_deed spIsDeed) : Cal P w K mg base 3 "check_deeds" ps_check_deeds (spCheckDeeds K) := by
  refine D.cal sc_check_deeds (fun vs H Q E h => ?_) (fun f cdv A outer s H vs Q E hr h => ?_)
  · obtain ⟨l, ds, rfl, _⟩ := h
    rfl
  · obtain ⟨l, ds, rfl, hl, hd, k⟩ := h
    refine ⟨_, (pss_one (ps_for PassesOwn.never rfl (pi_enT (by rfl) B.enumerate (pa_cons (pv 0) pa_nil)) (pg_tup rfl (pgs_cons (pg_name (i := 1) sc_check_deeds.nd rfl (.inl rfl)) (pgs_cons (pg_name (i := 2) sc_check_deeds.nd rfl (.inl rfl)) pgs_nil)))
      (pss_one (ps_if (pt_not (pt_val (pe_own C_is_deed hr (by decide) (by rfl) (pa_cons (pv 2) pa_nil)))) pss_never pss_nil)))), ?_⟩
    refine ⟨_, rfl, l, _, rfl, hl, for_it walk_enT (fun i σ J => ∃ u v, σ = [some (.ref l), u, v] ∧ Same H J) ⟨none, none, rfl, Same.refl H⟩ (fun i σ J _ ⟨_, _, _, sJ⟩ => st_same sJ hl) ?_ ?_⟩
    · rintro i v σ J J1 hi ⟨u, v2, rfl, sJ⟩ ⟨T, x, hx, rfl, nT, rfl⟩
      rw [List.getElem?_map] at hx
      obtain ⟨q, hq, rfl⟩ := Option.map_eq_some_iff.mp hx
      obtain ⟨hd1, hw⟩ := hd q (List.mem_of_getElem? hq)
      have sT : Same H (upd J T (.tup [.int (i : Nat), .ref q.1])) := sJ.trans (same_new nT)
      refine ⟨T, _, rfl, .inl (.inl upd_same), rfl, _, _, rfl, _, _, rfl, rfl, ?_⟩
      refine ⟨_, rfl, q.1, q.2, rfl, sT _ _ hd1, hw, ⟨_, rfl, iteF ⟨_, _, rfl, sT⟩⟩⟩
    · rintro σ J ⟨u, v, rfl, sJ⟩
      exact k J sJ
def spDoDeed (C N : Addr) : Sp := fun vs H Q _ => ∃ (s q : Addr) (S : Sf) (d : Dd), vs = [.ref s, .ref q] ∧ ShelfAt C N H s S ∧ DAt H q d ∧ S.ok ∧ OkD S d ∧ ∀ G, Kp [s] H G → ShelfAt C N G s (doD S d) → Q .non G
theorem cal_doDeed (B : Bi mg) (Z : ShlC K mg C) (D : MethAt K C "do_deed" "Shelf.do_deed" s_Shelf_do_deed ps_Shelf_do_deed) (M_let_come : CalM P w K mg base 4 C "let_come" ps_Shelf_let_come (spLetCome C N)) (M_let_go : CalM P w K mg base 2 C "let_go" ps_Shelf_let_go (spLetGo C N)) : CalM P w K mg base 5 C "do_deed" ps_Shelf_do_deed (spDoDeed C N) := by
  refine D.cal sc_Shelf_do_deed (fun vs H Q E h => ?_) (fun f cdv A outer s0 H vs Q E hr h => ?_)
  · obtain ⟨s, q, S, d, rfl, _⟩ := h
    rfl
  · obtain ⟨s, q, S, ⟨wd, t⟩, rfl, hS, hq, ok, od, k⟩ := h
    obtain ⟨dx, n, a, b, c, e0, _⟩ := id hS.ex
    refine ⟨_, (pss_cons (ps_asg (pv 1) (pg_tup rfl (pgs_cons (pg_name (i := 2) sc_Shelf_do_deed.nd rfl (.inl rfl)) (pgs_cons (pg_name (i := 3) sc_Shelf_do_deed.nd rfl (.inl rfl)) pgs_nil))))
      (pss_one (ps_if (pt_cmpR op_eq (pv 2) pe_str (nomark _)) (pss_one (ps_expr (pe_mth M_let_come Z.cl hr (by decide) (pv 0) (pa_cons (pv 3) pa_nil)))) (pss_one (ps_expr (pe_mth M_let_go Z.cl hr (by decide) (pv 0) (pa_cons (pv 3) pa_nil))))))), ?_⟩
    refine ⟨_, rfl, q, _, rfl, .inl (.inl hq), rfl, _, _, rfl, _, _, rfl, rfl, ?_⟩
    refine ⟨_, rfl, rfl, _, rfl, ?_⟩
    rcases od with ⟨e, wt, l⟩ | ⟨e, j, hj⟩
    · obtain rfl : wd = ("add" : String) := e
      rw [decide_eq_true rfl]
      rw [doD_add] at k
      exact iteT ⟨_, rfl, s, dx, _, rfl, e0, rfl, _, rfl, s, t, S, rfl, hS, ok, wt, l, k⟩
    · obtain rfl : wd = ("remove" : String) := e
      rw [doD_rem hj] at k
      obtain ⟨⟨x, hx⟩, first⟩ := findY_at hj
      refine iteF ⟨_, rfl, s, dx, _, rfl, e0, rfl, _, rfl, s, t, x, S, j, rfl, hS, ok, hx, first, k⟩
end
end Gu
namespace Gu
open PySem PySem.Spec PyProof.Rows L2
/-- some deeds, one after the other -/
def runD (S : Sf) : List Dd → Sf
  | [] => S
  | d :: ds => runD (doD S d) ds
def OkRun (S : Sf) : List Dd → Prop
  | [] => True
  | d :: ds => OkD S d ∧ OkRun (doD S d) ds
theorem runD_snoc (S : Sf) (ds : List Dd) (d : Dd) : runD S (ds ++ [d]) = doD (runD S ds) d := by
  induction ds generalizing S with
  | nil => rfl
  | cons e ds ih => exact ih _
theorem OkRun.at_ {S : Sf} : ∀ {ds : List Dd} {i : Nat} {d : Dd}, OkRun S ds → ds[i]? = some d → OkD (runD S (ds.take i)) d := fun {ds} => by
  induction ds generalizing S with
  | nil => intro i d _ h; simp at h
  | cons e ds ih =>
    intro i d h hi
    cases i with
    | zero =>
      rw [List.getElem?_cons_zero] at hi
      cases hi
      exact h.1
    | succ i =>
      rw [List.getElem?_cons_succ] at hi
      exact ih h.2 hi
theorem OkRun.take {S : Sf} : ∀ {ds : List Dd}, OkRun S ds → ∀ k, OkRun S (ds.take k) := fun {ds} => by
  induction ds generalizing S with
  | nil => intro h k; rw [List.take_nil]; trivial
  | cons e ds ih =>
    intro h k
    cases k with
    | zero => trivial
    | succ k => exact ⟨h.1, ih h.2 k⟩
theorem OkRun.words {S : Sf} : ∀ {ds : List Dd}, OkRun S ds → ∀ d ∈ ds, d.1 ∈ [(("add" : String) : Str), (("remove" : String) : Str)] := fun {ds} => by
  induction ds generalizing S with
  | nil => intro _ d hd; cases hd
  | cons e ds ih =>
    intro h d hd
    rcases List.mem_cons.mp hd with rfl | hd
    · exact h.1.word
    · exact ih h.2 d hd
/-- the same with the mark set -/
def Sf.set (S : Sf) (b : Bool) : Sf := { S with busy := b }
theorem doD_set (S : Sf) (d : Dd) (b : Bool) : doD (S.set b) d = (doD S d).set b := by
  unfold doD
  split
  · rfl
  · show (match findY S.ps d.2 with | some j => (S.set b).go j | none => S.set b) = _
    cases findY S.ps d.2 <;> rfl
theorem runD_set (S : Sf) (ds : List Dd) (b : Bool) : runD (S.set b) ds = (runD S ds).set b := by
  induction ds generalizing S with
  | nil => rfl
  | cons d ds ih =>
    show runD (doD (S.set b) d) ds = _
    rw [doD_set, ih]
    rfl
theorem OkRun.set {S : Sf} {ds : List Dd} (h : OkRun S ds) (b : Bool) : OkRun (S.set b) ds := by
  induction ds generalizing S with
  | nil => trivial
  | cons d ds ih =>
    refine ⟨h.1, ?_⟩
    rw [doD_set]
    exact ih h.2
theorem Sf.ok_set {S : Sf} (h : S.ok) (b : Bool) : (S.set b).ok := ⟨h.so, h.w0, h.w1, h.ps, h.past, h.few⟩
theorem OkRun.ok {S : Sf} {ds : List Dd} (h : OkRun S ds) (ok : S.ok) (few : S.past.length + ds.length ≤ 500) : (runD S ds).ok ∧ (runD S ds).so = S.so ∧ (runD S ds).w = S.w ∧ (runD S ds).busy = S.busy ∧ (runD S ds).past.length = S.past.length + ds.length := by
  induction ds generalizing S with
  | nil => exact ⟨ok, rfl, rfl, rfl, rfl⟩
  | cons d ds ih =>
    rw [List.length_cons] at few ⊢
    obtain ⟨a, b, c, e, f⟩ := h.1.ok ok (by omega)
    have fl : (doD S d).past.length = S.past.length + 1 := by rw [f, List.length_append, List.length_singleton]
    obtain ⟨a2, b2, c2, e2, f2⟩ := ih h.2 a (by omega)
    exact ⟨a2, b2.trans b, c2.trans c, e2.trans e, by show (runD (doD S d) ds).past.length = _; omega⟩
section
variable {P : Program} {w : World} {K : PySem.W.Frag} {mg : Str → Option Value} {base : Heap} {C N : Addr}
def spDoAllB (K : PySem.W.Frag) (C N : Addr) : Sp := fun vs H Q _ => ∃ (s l : Addr) (S : Sf) (ds : List (Addr × Dd)), vs = [.ref s, .non, .ref l] ∧ ShelfAt C N H s S ∧ H l = some (.tup (ds.map fun q => V.ref q.1)) ∧ (∀ q ∈ ds, DAt H q.1 q.2) ∧ S.ok ∧ S.busy = false ∧ S.past.length + ds.length ≤ 500 ∧ OkRun S (ds.map (·.2)) ∧ ∀ G, Kp [s] H G → ShelfAt C N G s (runD S (ds.map (·.2))) → Q .non G
theorem doAll_body (B : Bi mg) (Z : ShlC K mg C) (M_check_not_busy : CalM P w K mg base 1 C "check_not_busy" ps_Shelf_check_not_busy (spCalmS C N)) (C_check_deeds : Cal P w K mg base 3 "check_deeds" ps_check_deeds (spCheckDeeds K)) (M_do_deed : CalM P w K mg base 5 C "do_deed" ps_Shelf_do_deed (spDoDeed C N)) (f : Addr) (cdv : Value) :
    ∀ (A : Around) (outer : List Env) (s : Shared) (H : Hp) (vs : List V) (Q : VK) (E : XK), Room 5 (A.deeper (envOfC "Shelf.do_all" (defScope s_Shelf_do_all) s.heap.objs.size f cdv)) → spDoAllB K C N vs H Q E →
      ∃ t, PSs (cxOf CX0 P w K mg base ["self", "watch", "deeds", "texts", "names", "past", "place", "deed"] "Shelf.do_all" (defScope s_Shelf_do_all) f cdv A outer s H E) (defBody s_Shelf_do_all) t ∧ t { nx := fun _ H' => Q .non H', rt := Q } (start ["self", "watch", "deeds", "texts", "names", "past", "place", "deed"] vs) H := by
  intro A outer s0 H vs Q E hr h
  obtain ⟨s, l, S, ds, rfl, hS, hl, hd, ok, bz, few, run, k⟩ := h
  obtain ⟨dx, n, a, b, c, e0, e1, e2, e3, e4⟩ := id hS.ex
  refine ⟨_, (pss_cons (ps_expr (pe_mth0 M_check_not_busy Z.cl hr (by decide) (pv 0)))
      (pss_cons (ps_expr (pe_own C_check_deeds hr (by decide) (by rfl) (pa_cons (pv 2) pa_nil)))
      (pss_cons (ps_par3 (i := 3) (j := 4) (l := 5) (by rfl) sc_Shelf_do_all.nd rfl rfl rfl (by decide) (by decide) (by decide) rfl rfl rfl (pa_cons (pe_fld (pv 0) rfl) (pa_cons (pe_fld (pv 0) rfl) (pa_cons (pe_fld (pv 0) rfl) pa_nil))) (by rfl))
      (pss_cons (ps_fld (pv 0) pe_bl rfl)
      (pss_one (ps_finT (pss_cons (ps_for PassesOwn.never rfl (pi_enT (by rfl) B.enumerate (pa_cons (pv 2) pa_nil)) (pg_tup rfl (pgs_cons (pg_name (i := 6) sc_Shelf_do_all.nd rfl (.inl rfl)) (pgs_cons (pg_name (i := 7) sc_Shelf_do_all.nd rfl (.inl rfl)) pgs_nil)))
      (pss_cons (ps_expr (pe_mth M_do_deed Z.cl hr (by decide) (pv 0) (pa_cons (pv 7) pa_nil)))
      (pss_one (ps_if (pt_cmpR op_notN (pv 1) pe_non (nomark _)) (pss_one ps_never) pss_nil))))
      (pss_one (ps_par3 (i := 3) (j := 4) (l := 5) (by rfl) sc_Shelf_do_all.nd rfl rfl rfl (by decide) (by decide) (by decide) rfl rfl rfl (pa_cons (pe_fld (pv 0) rfl) (pa_cons (pe_fld (pv 0) rfl) (pa_cons (pe_fld (pv 0) rfl) pa_nil))) (by rfl)))) (pss_cons (ps_asg (pe_tup (pa_cons (pv 3) (pa_cons (pv 4) (pa_cons (pv 5) pa_nil)))) (pg_tup rfl (pgs_cons (pg_fld (pv 0)) (pgs_cons (pg_fld (pv 0)) (pgs_cons (pg_fld (pv 0)) pgs_nil)))))
      (pss_one (ps_fld (pv 0) pe_bl rfl))))))))), ?_⟩
  refine ⟨_, rfl, s, dx, _, rfl, e0, rfl, s, S, rfl, hS, bz, ?_⟩
  refine ⟨_, rfl, l, ds, rfl, .inl (.inl hl), fun q hq => ⟨hd q hq, run.words q.2 (List.mem_map_of_mem hq)⟩, fun G1 s1 => ?_⟩
  have e01 := s1 _ _ e0
  refine ⟨_, rfl, s, C, dx, _, _, rfl, e01, Z.cl, Z.nT, sf_texts, _, rfl, s, C, dx, _, _, rfl, e01, Z.cl, Z.nM, sf_names, _, rfl, s, C, dx, _, _, rfl, e01, Z.cl, Z.nP, sf_past, _, _, _, rfl, ?_⟩
  refine ⟨_, rfl, s, C, dx, _, rfl, e01, Z.cl, Z.nB, by show 5 < 1000; decide, ?_⟩
  rw [put_busy]
  generalize hG : upd G1 s _ = G2
  have k2 : Kp [s] G1 G2 := hG ▸ kp_upd
  have g2 : G2 s = some (.ins C dx (sflds n a b c true)) := by rw [← hG]; exact upd_same
  clear hG
  have m : Muts C N [s] H := fun x hx => .inr ⟨S, by rw [List.mem_singleton.mp hx]; exact hS⟩
  have kH : Kp [s] H G2 := (Kp.same s1).trans k2
  have hS2 : ShelfAt C N G2 s (S.set true) := ⟨dx, n, a, b, c, g2, e1.kp m kH, kH _ _ e2 (m.tup e2), e3.kp m kH, e4.kp m kH⟩
  have wl : ∀ {J : Hp}, Kp [s] H J → J l = some (.tup (ds.map fun q => V.ref q.1)) := fun kJ => kJ _ _ hl (m.tup hl)
  have run2 := run.set true
  refine ⟨_, rfl, l, _, rfl, .inl (.inl (wl kH)), for_it walk_enT (fun i σ J => ∃ u v, σ = [some (.ref s), some .non, some (.ref l), some (.ref a), some (.ref b), some (.ref c), u, v] ∧ Kp [s] H J ∧ ShelfAt C N J s (runD (S.set true) ((ds.map (·.2)).take i))) ⟨none, none, rfl, kH, hS2⟩ (fun i σ J _ ⟨_, _, _, kJ, _⟩ => .inl (.inl (wl kJ))) ?_ ?_⟩
  · rintro i v σ J J1 hi ⟨u, v2, rfl, kJ, hJ⟩ ⟨T, x, hx, rfl, nT, rfl⟩
    rw [List.getElem?_map] at hx
    obtain ⟨q, hq, rfl⟩ := Option.map_eq_some_iff.mp hx
    have sT : Same J (upd J T (.tup [.int (i : Nat), .ref q.1])) := same_new nT
    have hd2 := hd q (List.mem_of_getElem? hq)
    have hdi : (ds.map (·.2))[i]? = some q.2 := by rw [List.getElem?_map, hq]; rfl
    have od := run2.at_ hdi
    have il : i < (ds.map (·.2)).length := (List.getElem?_eq_some_iff.mp hdi).1
    rw [List.length_map] at il
    obtain ⟨ok2, _⟩ := (run2.take i).ok (Sf.ok_set ok true) (by rw [List.length_take, List.length_map]; show S.past.length + _ ≤ 500; omega)
    refine ⟨T, _, rfl, .inl (.inl upd_same), rfl, _, _, rfl, _, _, rfl, rfl, ?_⟩
    have hJ2 := hJ.same sT
    obtain ⟨dx2, n2, a2, b2, c2, f0, _⟩ := id hJ2.ex
    refine ⟨_, rfl, s, dx2, _, rfl, f0, rfl, _, rfl, s, q.1, _, q.2, rfl, hJ2, sT _ _ (kJ _ _ hd2 (m.tup hd2)), ok2, od, fun G3 k3 h3 => ?_⟩
    refine ⟨_, rfl, rfl, _, rfl, ?_⟩
    rw [show (!decide (V.non = V.non)) = false by simp]
    refine iteF ⟨_, _, rfl, kJ.trans ((Kp.same sT).trans k3), ?_⟩
    rw [take_next hdi, runD_snoc]
    exact h3
  · rintro σ J ⟨u, v, rfl, kJ, hJ⟩
    rw [List.length_map, List.take_of_length_le (by rw [List.length_map]; exact Nat.le_refl _), runD_set] at hJ
    obtain ⟨ok3, so3, w3, bz3, _⟩ := run.ok ok (by rw [List.length_map]; exact few)
    obtain ⟨dx2, n2, a2, b2, c2, f0, f1, f2, f3, f4⟩ := id hJ.ex
    have f0 : J s = some (.ins C dx2 (sflds n2 a2 b2 c2 true)) := f0
    refine ⟨_, rfl, s, C, dx2, _, _, rfl, f0, Z.cl, Z.nT, sf_texts, _, rfl, s, C, dx2, _, _, rfl, f0, Z.cl, Z.nM, sf_names, _, rfl, s, C, dx2, _, _, rfl, f0, Z.cl, Z.nP, sf_past, _, _, _, rfl, ?_⟩
    refine ⟨_, rfl, _, rfl, _, rfl, by show 3 ≤ sizeLine; decide, fun U nU => ?_⟩
    generalize hG : upd J U _ = G3
    have s3 : Same J G3 := hG ▸ same_new nU
    have eU : G3 U = some (.tup [.ref a2, .ref b2, .ref c2]) := by rw [← hG]; exact upd_same
    clear hG
    have g3 := s3 _ _ f0
    refine ⟨U, _, rfl, .inl (.inl eU), rfl, _, _, rfl, ?_⟩
    refine ⟨_, rfl, s, C, dx2, _, rfl, g3, Z.cl, Z.nT, by show 5 < 1000; decide, ?_⟩
    rw [put_texts]
    generalize hG : upd G3 s _ = G4
    have k4 : Kp [s] G3 G4 := hG ▸ kp_upd
    have g4 : G4 s = some (.ins C dx2 (sflds n2 a2 b2 c2 true)) := by rw [← hG]; exact upd_same
    clear hG
    refine ⟨_, _, rfl, ?_⟩
    refine ⟨_, rfl, s, C, dx2, _, rfl, g4, Z.cl, Z.nM, by show 5 < 1000; decide, ?_⟩
    rw [put_names]
    generalize hG : upd G4 s _ = G5
    have k5 : Kp [s] G4 G5 := hG ▸ kp_upd
    have g5 : G5 s = some (.ins C dx2 (sflds n2 a2 b2 c2 true)) := by rw [← hG]; exact upd_same
    clear hG
    refine ⟨_, _, rfl, ?_⟩
    refine ⟨_, rfl, s, C, dx2, _, rfl, g5, Z.cl, Z.nP, by show 5 < 1000; decide, ?_⟩
    rw [put_past]
    generalize hG : upd G5 s _ = G6
    have k6 : Kp [s] G5 G6 := hG ▸ kp_upd
    have g6 : G6 s = some (.ins C dx2 (sflds n2 a2 b2 c2 true)) := by rw [← hG]; exact upd_same
    clear hG
    refine ⟨rfl, ?_⟩
    refine ⟨_, rfl, s, C, dx2, _, rfl, g6, Z.cl, Z.nB, by show 5 < 1000; decide, ?_⟩
    rw [put_busy]
    generalize hG : upd G6 s _ = G7
    have k7 : Kp [s] G6 G7 := hG ▸ kp_upd
    have g7 : G7 s = some (.ins C dx2 (sflds n2 a2 b2 c2 false)) := by rw [← hG]; exact upd_same
    clear hG
    have kA : Kp [s] J G7 := (Kp.same s3).trans (k4.trans (k5.trans (k6.trans k7)))
    have m2 : Muts C N [s] J := fun x hx => .inr ⟨(runD S (ds.map (·.2))).set true, by rw [List.mem_singleton.mp hx]; exact hJ⟩
    refine k G7 (kJ.trans kA) ⟨dx2, n2, a2, b2, c2, ?_, NmAt.kp m2 kA f1, kA _ _ f2 (m2.tup f2), FT.kp m2 kA f3, PastAt.kp m2 kA f4⟩
    rw [bz3, bz]
    exact g7
/-- do_all, called by positional deeds -/
structure CalD (P : Program) (w : World) (K : PySem.W.Frag) (mg : Str → Option Value) (base : Heap) (k : Nat) (C : Addr) (ks : List Str) (sp : List V → List V → Hp → VK → XK → Prop) : Prop where
  ex : ∃ f : Addr, Meth K C "do_all" f ∧ FnRK P w K mg base CX0 k f ks sp
def spDoAll (K : PySem.W.Frag) (C N : Addr) : List V → List V → Hp → VK → XK → Prop := fun vs _ H Q _ => ∃ (s : Addr) (S : Sf) (ds : List (Addr × Dd)), vs = .ref s :: ds.map (fun q => V.ref q.1) ∧ ds.length ≤ 100 ∧ ShelfAt C N H s S ∧ (∀ q ∈ ds, DAt H q.1 q.2) ∧ S.ok ∧ S.busy = false ∧ S.past.length + ds.length ≤ 500 ∧ OkRun S (ds.map (·.2)) ∧ ∀ G, Kp [s] H G → ShelfAt C N G s (runD S (ds.map (·.2))) → Q .non G
theorem cal_doAll (B : Bi mg) (Z : ShlC K mg C) (D : DoAllAt K C) (M_check_not_busy : CalM P w K mg base 1 C "check_not_busy" ps_Shelf_check_not_busy (spCalmS C N)) (C_check_deeds : Cal P w K mg base 3 "check_deeds" ps_check_deeds (spCheckDeeds K)) (M_do_deed : CalM P w K mg base 5 C "do_deed" ps_Shelf_do_deed (spDoDeed C N)) : CalD P w K mg base 6 C [] (spDoAll K C N) := by
  obtain ⟨f, kD, oc, doc, pm, cdv, ct, od, an, osl, M, lk, hcd, hw⟩ := D.ex
  refine ⟨f, M, fun A outer s0 H us ws vs zs Q E hr e0 r rz lz h => ?_⟩
  refine star_own (CX := CX0) (sp := spDoAllB K C N) (dk := .non) (du := .none) StX.cxUp_none lk hcd sc_Shelf_do_all hw rfl doall_bind (doAll_body B Z M_check_not_busy C_check_deeds M_do_deed f cdv) A outer s0 H us ws vs zs Q E hr e0 r rz lz ?_
  obtain ⟨s, S, ds, rfl, dl, hS, hd, ok, bz, few, run, k⟩ := h
  refine ⟨.ref s, _, rfl, Nat.le_of_lt (small1000 (by rw [List.length_map]; omega)), fun p np => ?_⟩
  have sp : Same H (upd H p (.tup (ds.map fun q => V.ref q.1))) := same_new np
  exact ⟨s, p, S, ds, rfl, hS.same sp, upd_same, fun q hq => sp _ _ (hd q hq), ok, bz, few, run, fun G kG hG => k G ((Kp.same sp).trans kG) hG⟩
end
section
variable {X : Cx} {k j : Nat} {sp : List V → List V → Hp → VK → XK → Prop} {apos pos : Pos} {o e : Expr} {es : List Expr} {t : TA} {ta : TE} {C : Addr}
theorem pe_doAll (c : CalD X.prog X.w X.K X.mg X.base k C [] sp) (cl : Cls X.K C) (hr : Room j X.A) (hk : k ≤ j) (he : PE X o ta) (ha : PA X (e :: es) t) {pl : Sem Bool}
    (hst : starEach (e :: es) X.env = (false, eval e X.env) :: starEach es X.env := by rfl) (hpl : (backTo pos (starEach es X.env)).any (·.1) = false := by rfl)
    (ht : eval (.Call (.Attribute o "do_all" apos) (e :: es) [] pos) X.env = (do
      let ov ← eval o X.env
      standAt apos.atName
      let (f, first) ← holding [ov] (getMethod ov "do_all" pl)
      callWith pos f first (backTo pos (starEach (e :: es) X.env)) (backToKw pos (keywordEach [] X.env))) := by rfl) : PE X (.Call (.Attribute o "do_all" apos) (e :: es) [] pos) (tMethRK C "do_all" [] sp E0 ta t tNil) := by
  obtain ⟨f, M, F⟩ := c.ex
  exact pe_methRK0 he cl M F (hr.mono hk) pass0 ha hst hpl ht
end
end Gu
namespace Gu
theorem off1 {a b : PySem.Addr} (h : a ≠ b) : a ∉ [b] := fun z => h (List.mem_singleton.mp z)
end Gu
namespace Gu
open PySem PySem.Spec PyProof.Rows L2
/-! ### try: body finally: suite, both ways -/
/-- try: body / finally: suite. tb W: the body's reading, W what is wished of its errors; tf: the suite behind a body that ran through; tfs: the suite with the error in flight, which goes on to Wout -/
def tFin (tb : WX → TS) (tf tfs : TS) (Wout : WX) : TS := fun D σ H => tb (wFin tfs Wout) { nx := fun σ1 H1 => tf D σ1 H1, rt := fun _ _ => False } σ H
section
variable {X : Cx} {body : List Stmt} {f₀ : Stmt} {fs : List Stmt} {pos : Pos} {tb : WX → TS} {tf tfs : TS} {Wout : WX}
theorem ps_fin (hs : X.stack = X.env :: X.outer) (hf : X.env.frame = some X.env.locals) (hex : X.ex = []) (tk : Takes X Wout)
    (hb : ∀ (W : WX) (pn : List (Addr × Obj)) (xe : Value → Shared → Prop), Takes (X.tr pn xe) W → PassesOwn (model X.prog X.w) X.A X.env xe → PSs (X.tr pn xe) body (tb W))
    (hfin : PSs X.nox (f₀ :: fs) tf) (hsu : ∀ (a : Addr) (pn : List (Addr × Obj)), PSs (X.suite a pn) (f₀ :: fs) tfs) : PS X (.Try body [] [] (f₀ :: fs) pos) (tFin tb tf tfs Wout) := by
  refine ⟨fun pins s σ H D I h => ?_⟩
  have ok := I.ok
  refine wpAny_Try_finally ?_
  refine wpAny_mono ((hb (wFin tfs Wout) (X.pn ++ pins) (fun x s₁ => wpAny (model X.prog X.w) X.A (noteFrame x X.env) (fun _ s₂ => FinallyRaised X.prog X.w X.A X.xe X.env (f₀ :: fs) (SP X pins D) x s₂) (FinallyRaised X.prog X.w X.A X.xe X.env (f₀ :: fs) (SP X pins D)) s₁)
    (fun u s' xx => ?_) PassesOwn.looking).run [] s σ H { nx := fun σ1 H1 => tf D σ1 H1, rt := fun _ _ => False } (I.toTry _) h) (fun g s1 z => ?_) (fun x s1 hx => hx)
  · exact fin_exc hs hf hex ok tk hsu xx
  · cases g with
    | ret u =>
      obtain ⟨_, _, _, _, _, q⟩ := z
      exact False.elim q
    | brk =>
      obtain ⟨_, _, _, q⟩ := z
      exact False.elim q
    | cont =>
      obtain ⟨_, _, _, q⟩ := z
      exact False.elim q
    | next =>
      obtain ⟨σ1, H1, J1, q1⟩ := z
      refine wpAny_execs_nil ?_
      refine wpAny_mono (hfin.run pins s1 σ1 H1 D ((J1.ofTry ok).wish _) q1) (fun g2 s2 q2 => ?_) fun _ _ e => False.elim e
      have q3 : SP X pins D g2 s2 := q2.unwish
      cases g2 <;> exact q3
variable {tb1 : TS}
def tFinW (tb tf : TS) : TS := fun D σ H => tb { nx := fun σ1 H1 => tf D σ1 H1, rt := fun _ _ => False } σ H
theorem ps_finW (hs : X.stack = X.env :: X.outer) (hf : X.env.frame = some X.env.locals) (hex : X.ex = []) (tk : Takes X Wout)
    (hfin : PSs X.nox (f₀ :: fs) tf) (hsu : ∀ (a : Addr) (pn : List (Addr × Obj)), PSs (X.suite a pn) (f₀ :: fs) tf)
    (hb0 : Takes (X.tr [] X.xe) (wFin tf Wout) → PassesOwn (model X.prog X.w) X.A X.env X.xe → PSs (X.tr [] X.xe) body tb1)
    (hb : ∀ (pn : List (Addr × Obj)) (xe : Value → Shared → Prop), Takes (X.tr pn xe) (wFin tf Wout) → PassesOwn (model X.prog X.w) X.A X.env xe → PSs (X.tr pn xe) body tb1) : PS X (.Try body [] [] (f₀ :: fs) pos) (tFinW tb1 tf) := by
  refine ⟨fun pins s σ H D I h => ?_⟩
  have ok := I.ok
  refine wpAny_Try_finally ?_
  refine wpAny_mono ((hb (X.pn ++ pins) (fun x s₁ => wpAny (model X.prog X.w) X.A (noteFrame x X.env) (fun _ s₂ => FinallyRaised X.prog X.w X.A X.xe X.env (f₀ :: fs) (SP X pins D) x s₂) (FinallyRaised X.prog X.w X.A X.xe X.env (f₀ :: fs) (SP X pins D)) s₁)
    (fun u s' xx => ?_) PassesOwn.looking).run [] s σ H { nx := fun σ1 H1 => tf D σ1 H1, rt := fun _ _ => False } (I.toTry _) h) (fun g s1 z => ?_) (fun x s1 hx => hx)
  · exact fin_exc hs hf hex ok tk hsu xx
  · cases g with
    | ret u =>
      obtain ⟨_, _, _, _, _, q⟩ := z
      exact False.elim q
    | brk =>
      obtain ⟨_, _, _, q⟩ := z
      exact False.elim q
    | cont =>
      obtain ⟨_, _, _, q⟩ := z
      exact False.elim q
    | next =>
      obtain ⟨σ1, H1, J1, q1⟩ := z
      refine wpAny_execs_nil ?_
      refine wpAny_mono (hfin.run pins s1 σ1 H1 D ((J1.ofTry ok).wish _) q1) (fun g2 s2 q2 => ?_) fun _ _ e => False.elim e
      have q3 : SP X pins D g2 s2 := q2.unwish
      cases g2 <;> exact q3
end
/-- o.m(e, ..) within a try: what it raises is wished for at the slots as they stand -/
def tMethS (C : Addr) (m : Str) (sp : Sp) (E : L2.St → XK) (ta : TE) (t : TA) : TE := fun σ H Q => ta σ H fun x H1 => ∃ a dx fs, x = .ref a ∧ H1 a = some (.ins C dx fs) ∧ fs.lookup m = none ∧ t σ H1 fun vs H2 => sp (x :: vs) H2 Q (E σ)
theorem pe_methS {X : Cx} {CX : CXT} {k : Nat} {f C : Addr} {fd : FuncData} {ps : List Str} {sp : Sp} {E : L2.St → XK} {m : Str} {pos apos : Pos} {e o : Expr} {es : List Expr} {ta : TE} {t : TA} {pl : Sem Bool} (he : PE X o ta) (c : Cls X.K C) (hm : Meth X.K C m f)
    (F : FnOk X.prog X.w X.K X.mg X.base CX k f fd ps sp) (hr : Room k X.A) (hb : Binds X.K fd ps []) (hx : ∀ σ, PassesAt CX X σ (E σ)) (ha : PA X (e :: es) t)
    (hst : starEach (e :: es) X.env = (false, eval e X.env) :: starEach es X.env := by rfl) (hpl : (backTo pos (starEach es X.env)).any (·.1) = false := by rfl)
    (ht : eval (.Call (.Attribute o m apos) (e :: es) [] pos) X.env = (do
      let ov ← eval o X.env
      standAt apos.atName
      let (f, first) ← holding [ov] (getMethod ov m pl)
      callWith pos f first (backTo pos (starEach (e :: es) X.env)) (backToKw pos (keywordEach [] X.env))) := by rfl) :
    PE X (.Call (.Attribute o m apos) (e :: es) [] pos) (tMethS C m sp E ta t) := by
  refine ⟨fun pins s σ H Q I h => ?_⟩
  refine PySem.W.methodCall_KW (pl := pl) (thn (he.run pins s σ H _ I h) fun u s1 ⟨x, H1, I1, rx, a, dx, fs, ex, ea, l, q⟩ => ?_) ht
  subst ex
  obtain rfl : u = Value.ref a := rx
  refine getmeth_ok I1 ea c hm l ?_
  refine PySem.W.callWith_K (first := [.ref a]) (h₀ := X.base) I.ok.mod.kin hm.kp (thn (ha.run pos pins s1 σ H1 _ I1 q) fun us s2 ⟨vs, H2, I2, r, q2⟩ => ⟨I2.kIn, ?_⟩) hst hpl
  exact run_fnS (us := .ref a :: us) (vs := .ref a :: vs) F hr hb (hx σ) I2 (.cons rfl r) q2
section
variable {X : Cx} {k j : Nat} {m : Str} {ps : List Str} {sp : Sp} {apos pos : Pos} {o e : Expr} {es : List Expr} {t : TA} {ta : TE} {C : Addr} {W : WX}
theorem pe_mthS (c : CalMX X.prog X.w X.K X.mg X.base k C m ps sp) (cl : Cls X.K C) (hr : Room j X.A) (hk : k ≤ j) (tk : Takes X W) (he : PE X o ta) (ha : PA X (e :: es) t) {pl : Sem Bool}
    (hst : starEach (e :: es) X.env = (false, eval e X.env) :: starEach es X.env := by rfl) (hpl : (backTo pos (starEach es X.env)).any (·.1) = false := by rfl)
    (ht : eval (.Call (.Attribute o m apos) (e :: es) [] pos) X.env = (do
      let ov ← eval o X.env
      standAt apos.atName
      let (f, first) ← holding [ov] (getMethod ov m pl)
      callWith pos f first (backTo pos (starEach (e :: es) X.env)) (backToKw pos (keywordEach [] X.env))) := by rfl) : PE X (.Call (.Attribute o m apos) (e :: es) [] pos) (tMethS C m sp (WE W) ta t) := by
  obtain ⟨f, fd, M, F, b⟩ := c.ex
  exact pe_methS he cl M F (hr.mono hk) b (fun σ => passAt tk σ) ha hst hpl ht
end
end Gu
namespace Gu
open PySem PySem.Spec PyProof.Rows L2
/-! ### deeds that are refused -/
/-- what a deed raises: the class, the field, the thing -/
def BadD (K : PySem.W.Frag) (CT CM CU : Addr) (S : Sf) (d : Dd) (c : Addr) (f : Str) (v : V) : Prop :=
  (d.1 = ("add" : String) ∧ (∀ G, NoTxt K G 200 (.str d.2)) ∧ c = CT ∧ f = ("value" : String) ∧ v = .str d.2) ∨
  (d.1 = ("add" : String) ∧ Wd 200 d.2 ∧ S.ps.length = 20 ∧ c = CM ∧ f = ("limit" : String) ∧ v = .int 20) ∨
  (d.1 = ("remove" : String) ∧ d.2 ∉ S.ps.map (·.2) ∧ c = CU ∧ f = ("value" : String) ∧ v = .str d.2)
theorem BadD.word {K : PySem.W.Frag} {CT CM CU : Addr} {S : Sf} {d : Dd} {c : Addr} {f : Str} {v : V} (h : BadD K CT CM CU S d c f v) : d.1 ∈ [(("add" : String) : Str), (("remove" : String) : Str)] := by
  rcases h with ⟨e, _⟩ | ⟨e, _⟩ | ⟨e, _⟩
  · rw [e]; exact List.mem_cons_self ..
  · rw [e]; exact List.mem_cons_self ..
  · rw [e]; exact List.mem_cons_of_mem _ (List.mem_cons_self ..)
section
variable {P : Program} {w : World} {K : PySem.W.Frag} {mg : Str → Option Value} {base : Heap} {C N CT CM CU : Addr}
def spDoDeedX (K : PySem.W.Frag) (C N CT CM CU : Addr) : Sp := fun vs H Q E => ∃ (s q : Addr) (S : Sf) (d : Dd), vs = [.ref s, .ref q] ∧ ShelfAt C N H s S ∧ DAt H q d ∧ S.ok ∧ ((OkD S d ∧ ∀ G, Kp [s] H G → ShelfAt C N G s (doD S d) → Q .non G) ∨ ∃ c f v, BadD K CT CM CU S d c f v ∧ ∀ G, Same H G → Raised c f v G E)
theorem cal_doDeedX (B : Bi mg) (Z : ShlC K mg C) (D : MethAt K C "do_deed" "Shelf.do_deed" s_Shelf_do_deed ps_Shelf_do_deed) (MX_let_come : CalMX P w K mg base 4 C "let_come" ps_Shelf_let_come (spLetComeE K C N CT CM)) (MX_let_go : CalMX P w K mg base 2 C "let_go" ps_Shelf_let_go (spLetGoE K C N CU)) : CalMX P w K mg base 5 C "do_deed" ps_Shelf_do_deed (spDoDeedX K C N CT CM CU) := by
  refine D.calX sc_Shelf_do_deed (fun vs H Q E h => ?_) (fun f cdv A outer s0 H vs Q E hr h => ?_)
  · obtain ⟨s, q, S, d, rfl, _⟩ := h
    rfl
  · obtain ⟨s, q, S, ⟨wd, t⟩, rfl, hS, hq, ok, way⟩ := h
    obtain ⟨dx, n, a, b, c, e0, _⟩ := id hS.ex
    refine ⟨_, (pss_cons (ps_asg (pv 1) (pg_tup rfl (pgs_cons (pg_name (i := 2) sc_Shelf_do_deed.nd rfl (.inl rfl)) (pgs_cons (pg_name (i := 3) sc_Shelf_do_deed.nd rfl (.inl rfl)) pgs_nil))))
      (pss_one (ps_if (pt_cmpR op_eq (pv 2) pe_str (nomark _)) (pss_one (ps_expr (pe_mthX MX_let_come Z.cl hr (by decide) (takes_of rfl rfl rfl rfl) (fun _ _ _ _ h => h) (pv 0) (pa_cons (pv 3) pa_nil)))) (pss_one (ps_expr (pe_mthX MX_let_go Z.cl hr (by decide) (takes_of rfl rfl rfl rfl) (fun _ _ _ _ h => h) (pv 0) (pa_cons (pv 3) pa_nil))))))), ?_⟩
    refine ⟨_, rfl, q, _, rfl, .inl (.inl hq), rfl, _, _, rfl, _, _, rfl, rfl, ?_⟩
    refine ⟨_, rfl, rfl, _, rfl, ?_⟩
    rcases way with ⟨od, k⟩ | ⟨c, f, v, bad, k⟩
    · rcases od with ⟨e, wt, l⟩ | ⟨e, j, hj⟩
      · obtain rfl : wd = ("add" : String) := e
        rw [decide_eq_true rfl]
        rw [doD_add] at k
        exact iteT ⟨_, rfl, s, dx, _, rfl, e0, rfl, _, rfl, s, _, S, rfl, hS, ok, .inl ⟨t, rfl, wt, l, k⟩⟩
      · obtain rfl : wd = ("remove" : String) := e
        rw [doD_rem hj] at k
        obtain ⟨⟨x, hx⟩, first⟩ := findY_at hj
        exact iteF ⟨_, rfl, s, dx, _, rfl, e0, rfl, _, rfl, s, _, S, rfl, hS, ok, .inl ⟨t, x, j, rfl, hx, first, k⟩⟩
    · rcases bad with ⟨e, nt, rfl, rfl, rfl⟩ | ⟨e, wt, l, rfl, rfl, rfl⟩ | ⟨e, nn, rfl, rfl, rfl⟩
      · obtain rfl : wd = ("add" : String) := e
        rw [decide_eq_true rfl]
        exact iteT ⟨_, rfl, s, dx, _, rfl, e0, rfl, _, rfl, s, _, S, rfl, hS, ok, .inr (.inl ⟨nt H, k⟩)⟩
      · obtain rfl : wd = ("add" : String) := e
        rw [decide_eq_true rfl]
        exact iteT ⟨_, rfl, s, dx, _, rfl, e0, rfl, _, rfl, s, _, S, rfl, hS, ok, .inr (.inr ⟨t, rfl, wt, l, k⟩)⟩
      · obtain rfl : wd = ("remove" : String) := e
        exact iteF ⟨_, rfl, s, dx, _, rfl, e0, rfl, _, rfl, s, _, S, rfl, hS, ok, .inr ⟨.inr ⟨t, rfl, nn⟩, k⟩⟩
end
end Gu
namespace Gu
open PySem PySem.Spec PyProof.Rows L2 HandSPX
/-! ### errors of which is known that nothing stands behind them -/
section
variable {prog : Program} {w : World} {A : Around} {E : Value → Shared → Prop} {R : Result → Shared → Prop} {K : PySem.W.Frag} {mg : Str → Option Value} {b : BaseE} {U C : Addr} {N Fl : Str}
theorem err_madeN {s : Shared} {v : Value} (T : ErrK K mg b U N C) (S : ErrF K N Fl C) (inK : K.In s.heap) (lim : s.heap.NoLimit) (room : A.depth + 1 < recursionLimit) (k : ∀ h1 tk e d, MadeE s.heap h1 e C d Fl v → (∀ oe, h1.get? e = some oe → PXN.CtxN oe) → R (.ok (.ret (.ref e))) { s with heap := h1, toks := tk }) :
    codeAny (model prog w) A (.call (.ref C) ⟨[v], []⟩) R s := by
  obtain ⟨q, M, bs, sn, sub, ab, col, dd, k0, k1, k2, k3, k5, hC⟩ := T.cls
  obtain ⟨f, st, p, fd, hf, tf, G, e1, e2, e3⟩ := S.init
  obtain ⟨hp, g, dr, tk, os⟩ := s
  have old : ∀ c o, hp.get? c = some o → ((hp.push (PySem.W.kdv_tup [v])).push (excO C hp.objs.size)).get? c = some o := fun c o e => Heap.get?_push_of_some _ (Heap.get?_push_of_some _ e)
  have here : ((hp.push (PySem.W.kdv_tup [v])).push (excO C hp.objs.size)).get? (hp.objs.size + 1) = some (excO C hp.objs.size) := by heap_get
  refine call_own T.bok.base (fun X => by rw [List.contains_cons]; rfl) (inK _ _ hC) (PySem.W.looks_findIn inK hf) (fun self => PySem.W.bind_fn inK self tf) (one_fits v) ?_
  refine err_init (s := ⟨(hp.push (PySem.W.kdv_tup [v])).push (excO C hp.objs.size), g, dr, tk, os⟩) T S.no S.nm G e1 e2 e3 (inK.keeps old) (lim.keeps old) here room fun h1 t1 dx L => ?_
  have old1 : ∀ c o, hp.get? c = some o → h1.get? c = some o := fun c o e => L.keep c o (Nat.ne_of_lt (Nat.lt_succ_of_lt (Heap.lt_size e))) (old c o e)
  have z : hp.objs.size + 1 + 1 ≤ dx := by
    have q := L.big
    rw [Heap.size_push, Heap.size_push] at q
    exact q
  exact ⟨rfl, k h1 t1 (hp.objs.size + 1) dx ⟨old1, Nat.le_succ _, ⟨_, _, L.obj, rfl, rfl, rfl, rfl⟩, by show hp.objs.size ≤ dx; omega, L.ne, L.ns⟩ fun oe z => by
    have y := L.obj
    rw [z] at y
    cases y
    intro vs q
    cases q
    rfl⟩
end
section
variable {X : Cx} {b : BaseE} {U C : Addr} {N Fl : Str}
theorem pmk_errN {a : Expr} {ta : TA} {p pos : Pos} {k : Nat} (T : ErrK X.K X.mg b U N C) (S : ErrF X.K N Fl C) (hr : Room k X.A) (ha : PA X [a] ta) (hg : Gl X N) (hdb : (N == ("__debug__" : Str)) = false)
    (he : starEach (a :: []) X.env = (false, eval a X.env) :: starEach [] X.env := by rfl) (hpl : (backTo pos (starEach [] X.env)).any (·.1) = false := by rfl) : L2N.PMk X (.Call (.Name N p) [a] [] pos) (tMkE C Fl ta) := by
  intro pins s σ H Q I want
  refine wpAny_Call_Name_kw (ld_glob I hg T.g ?_ hdb)
  refine PySem.W.callWith_K (h₀ := X.base) I.ok.mod.kin T.kC (thn (ha.run pos pins s σ H _ I want) fun us s1 ⟨vs, G, I1, r, v, ev, q⟩ => ⟨I1.kIn, ?_⟩) he hpl
  subst ev
  cases r with
  | @cons _ u _ _ rv rn =>
    cases rn
    have lim := I1.nolimit
    obtain ⟨hp, g, dr, tk, os⟩ := s1
    show wpAny _ _ (call (.ref C) [u]) _ _ _
    refine wpAny_call (err_madeN (v := u) T S I1.kIn lim (by have := hr.dp; omega) fun h1 t1 e d M cn => ?_)
    obtain ⟨oe, fv, hoe, hc, hd, hdat, h1n⟩ := M.obj
    obtain ⟨B, b1, b2⟩ := restrict h1 fun c => decide (c ≠ e)
    have inB : ∀ c, c ≠ e → B.get? c = h1.get? c := fun c hc => b1 c (decide_eq_true hc)
    have noB : B.get? e = none := b2 e (by simp)
    have old : ∀ c o, hp.get? c = some o → B.get? c = some o := fun c o z => (inB c (Nat.ne_of_lt (Nat.lt_of_lt_of_le (Heap.lt_size z) M.new))).trans (M.keep c o z)
    have ob : ObjOk X.prog X.w (upd G d (.xd [(Fl, v)])) B d (.xd [(Fl, v)]) := ⟨_, M.ns.at (fun o z => (inB d M.ne).trans z), fun y => relO_one rv y⟩
    have J : Inv X pins σ (upd G d (.xd [(Fl, v)])) ⟨B, g, dr, t1, os⟩ := I1.laid (t' := t1) old M.big ob
    show L2N.MkP X pins σ Q (.ref e) ⟨h1, g, dr, t1, os⟩
    refine ⟨e, oe, fv, ⟨B, g, dr, t1, os⟩, _, .ref C, some d, rfl, J, fun c o z => ?_, noB, hoe, ⟨hc, hd, cn oe hoe⟩, hdat, h1n, ?_, rfl, I1.bare, raises_own T.exC T.ty, q d (I1.hok.fresh M.big)⟩
    · by_cases hce : c = e
      · have z : B.get? c = some o := z
        rw [hce, noB] at z
        cases z
      · exact (inB c hce).symm.trans z
    · rw [upd_ne (Ne.symm M.ne)]
      exact I1.hok.fresh M.new
theorem ps_raiseEN {a : Expr} {ta : TA} {W : WX} {p pos pos2 : Pos} {k : Nat} (T : ErrK X.K X.mg b U N C) (S : ErrF X.K N Fl C) (hc : X.calm = true) (hr : Room k X.A) (tk : L2N.Takes X W) (ha : PA X [a] ta) (hg : Gl X N) (hdb : (N == ("__debug__" : Str)) = false := by decide)
    (he : starEach (a :: []) X.env = (false, eval a X.env) :: starEach [] X.env := by rfl) (hpl : (backTo pos (starEach [] X.env)).any (·.1) = false := by rfl) :
    PS X (.Raise (some (.Call (.Name N p) [a] [] pos)) none pos2) (tRaiseE C Fl W ta) := L2N.ps_raise hc tk (pmk_errN T S hr ha hg hdb he hpl)
end
section
variable {P : Program} {w : World} {K : PySem.W.Frag} {mg : Str → Option Value} {base : Heap}
/-- a def that may raise, of the errors known that nothing stands behind them -/
theorem okXN {x qual : Str} {st : Stmt} {f : Addr} {fd : FuncData} {N ps : List Str} {k : Nat} {sp : Sp} (F : Fun K x qual st f fd) (S : FnScope N ps (defScope st)) (ln : ∀ vs H Q E, sp vs H Q E → vs.length = ps.length)
    (body : ∀ (cdv : Value) (A : Around) (outer : List Env) (s : Shared) (H : Hp) (vs : List V) (Q : VK) (E : XK), Room k (A.deeper (envOfC qual (defScope st) s.heap.objs.size f cdv)) → sp vs H Q E →
      ∃ t, PSs (cxOf (L2N.CX P w) P w K mg base N qual (defScope st) f cdv A outer s H E) (defBody st) t ∧ t { nx := fun _ G => Q .non G, rt := Q } (start N vs) H) : FnOk P w K mg base (L2N.CX P w) (k + 1) f fd ps sp := by
  obtain ⟨c1, c2, c3, c4, c5, c6, c7, c8, c9, rfl, l1, l2⟩ := F.ex
  exact fn_of l1 l2 S ln fun A outer s H vs Q E hr hsp => body c7 A outer s H vs Q E hr hsp
structure CalXN (P : Program) (w : World) (K : PySem.W.Frag) (mg : Str → Option Value) (base : Heap) (k : Nat) (x : Str) (ps : List Str) (sp : Sp) : Prop where
  ex : ∃ (f : Addr) (fd : FuncData), FnOk P w K mg base (L2N.CX P w) k f fd ps sp ∧ mg x = some (.ref f) ∧ PySem.W.keepIn K (.ref f) = true ∧ Binds K fd ps [] ∧ ∃ oc od sl, K.lookup f = some ⟨oc, od, .func fd, sl⟩
theorem At.calXN {x : Str} {st : Stmt} {N ps : List Str} {k : Nat} {sp : Sp} (D : At K mg x st ps) (S : FnScope N ps (defScope st)) (len : ∀ vs H Q E, sp vs H Q E → vs.length = ps.length)
    (body : ∀ (f : Addr) (cdv : Value) (A : Around) (outer : List Env) (s : Shared) (H : Hp) (vs : List V) (Q : VK) (E : XK), Room k (A.deeper (envOfC x (defScope st) s.heap.objs.size f cdv)) → sp vs H Q E →
      ∃ t, PSs (cxOf (L2N.CX P w) P w K mg base N x (defScope st) f cdv A outer s H E) (defBody st) t ∧ t { nx := fun _ G => Q .non G, rt := Q } (start N vs) H) : CalXN P w K mg base (k + 1) x ps sp := by
  obtain ⟨f, fd, F, b, g⟩ := D.ex
  obtain ⟨oc, od, kV, doc, pm, an, cdv, ct, osl, e, lk, hcd⟩ := F.ex
  exact ⟨f, fd, okXN F S len (body f), g, F.kp, b, oc, od, osl, lk⟩
structure CalMXN (P : Program) (w : World) (K : PySem.W.Frag) (mg : Str → Option Value) (base : Heap) (k : Nat) (C : Addr) (m : Str) (ps : List Str) (sp : Sp) : Prop where
  ex : ∃ (f : Addr) (fd : FuncData), Meth K C m f ∧ FnOk P w K mg base (L2N.CX P w) k f fd ps sp ∧ Binds K fd ps []
theorem MethAt.calXN {P : Program} {w : World} {K : PySem.W.Frag} {mg : Str → Option Value} {base : Heap} {C : Addr} {m q : Str} {st : Stmt} {N ps : List Str} {k : Nat} {sp : Sp} (D : MethAt K C m q st ps) (S : FnScope N ps (defScope st)) (len : ∀ vs H Q E, sp vs H Q E → vs.length = ps.length)
    (body : ∀ (f : Addr) (cdv : Value) (A : Around) (outer : List Env) (s : Shared) (H : Hp) (vs : List V) (Q : VK) (E : XK), Room k (A.deeper (envOfC q (defScope st) s.heap.objs.size f cdv)) → sp vs H Q E →
      ∃ t, PSs (cxOf (L2N.CX P w) P w K mg base N q (defScope st) f cdv A outer s H E) (defBody st) t ∧ t { nx := fun _ G => Q .non G, rt := Q } (start N vs) H) : CalMXN P w K mg base (k + 1) C m ps sp := by
  obtain ⟨f, fd, M, F, b⟩ := D.ex
  exact ⟨f, fd, M, okXN F S len (body f), b⟩
end
section
variable {X : Cx} {k j : Nat} {x m : Str} {ps : List Str} {sp : Sp} {p apos pos : Pos} {o e : Expr} {es : List Expr} {t : TA} {ta : TE} {C : Addr} {E : XK} {W : WX}
theorem pe_ownXN (c : CalXN X.prog X.w X.K X.mg X.base k x ps sp) (hr : Room j X.A) (hk : k ≤ j) (tk : L2N.Takes X W) (hW : ∀ cls d σ H, E cls d H → W cls d σ H) (hg : Gl X x) (ha : PA X (e :: es) t)
    (hdb : (x == ("__debug__" : Str)) = false := by decide) (he : starEach (e :: es) X.env = (false, eval e X.env) :: starEach es X.env := by rfl) (hpl : (backTo pos (starEach es X.env)).any (·.1) = false := by rfl) :
    PE X (.Call (.Name x p) (e :: es) [] pos) (tCall sp [] E t) := by
  obtain ⟨f, fd, F, hm, kp, b, _⟩ := c.ex
  exact pe_call F (hr.mono hk) hg hm kp b .nil (L2N.passes_call tk hW) ha hdb he hpl
theorem pe_mthXN (c : CalMXN X.prog X.w X.K X.mg X.base k C m ps sp) (cl : Cls X.K C) (hr : Room j X.A) (hk : k ≤ j) (tk : L2N.Takes X W) (hW : ∀ cls d σ H, E cls d H → W cls d σ H) (he : PE X o ta) (ha : PA X (e :: es) t) {pl : Sem Bool}
    (hst : starEach (e :: es) X.env = (false, eval e X.env) :: starEach es X.env := by rfl) (hpl : (backTo pos (starEach es X.env)).any (·.1) = false := by rfl)
    (ht : eval (.Call (.Attribute o m apos) (e :: es) [] pos) X.env = (do
      let ov ← eval o X.env
      standAt apos.atName
      let (f, first) ← holding [ov] (getMethod ov m pl)
      callWith pos f first (backTo pos (starEach (e :: es) X.env)) (backToKw pos (keywordEach [] X.env))) := by rfl) : PE X (.Call (.Attribute o m apos) (e :: es) [] pos) (tMeth C m sp [] E ta t) := by
  obtain ⟨f, fd, M, F, b⟩ := c.ex
  exact pe_meth he cl M F (hr.mono hk) b .nil (L2N.passes_call tk hW) ha hst hpl ht
theorem pe_mthSN (c : CalMXN X.prog X.w X.K X.mg X.base k C m ps sp) (cl : Cls X.K C) (hr : Room j X.A) (hk : k ≤ j) (tk : L2N.Takes X W) (he : PE X o ta) (ha : PA X (e :: es) t) {pl : Sem Bool}
    (hst : starEach (e :: es) X.env = (false, eval e X.env) :: starEach es X.env := by rfl) (hpl : (backTo pos (starEach es X.env)).any (·.1) = false := by rfl)
    (ht : eval (.Call (.Attribute o m apos) (e :: es) [] pos) X.env = (do
      let ov ← eval o X.env
      standAt apos.atName
      let (f, first) ← holding [ov] (getMethod ov m pl)
      callWith pos f first (backTo pos (starEach (e :: es) X.env)) (backToKw pos (keywordEach [] X.env))) := by rfl) : PE X (.Call (.Attribute o m apos) (e :: es) [] pos) (tMethS C m sp (WE W) ta t) := by
  obtain ⟨f, fd, M, F, b⟩ := c.ex
  exact pe_methS he cl M F (hr.mono hk) b (fun σ => L2N.passAt tk σ) ha hst hpl ht
end
/-- what is known of more is known -/
theorem sky_zc {B : Heap} {l : List Env} {a L : Addr} {h : Heap} {cls : Value} {d : Option Addr} (x : Sky B l a (L2N.Zn cls d) L h) : Sky B l a (Zc cls d) L h := by
  rcases x with ⟨h1, h2, h3, oe, vs, h4, hz, h5⟩ | ⟨h1, h2, h3, oe, vs, T, oT, ts, h4, hz, h5⟩ | ⟨h1, h2, h3, oe, vs, T, oT, ts, h4, hz, h5⟩
  · exact .inl ⟨h1, h2, h3, oe, vs, h4, hz.zc, h5⟩
  · exact .inr (.inl ⟨h1, h2, h3, oe, vs, T, oT, ts, h4, hz.zc, h5⟩)
  · exact .inr (.inr ⟨h1, h2, h3, oe, vs, T, oT, ts, h4, hz.zc, h5⟩)
theorem cx_zc {P : Program} {w : World} {outer : List Env} {H : Hp} {s s' : Shared} {E : XK} {u : Value} (c : L2N.CX P w outer H s E u s') : L2.CX P w outer H s E u s' := by
  obtain ⟨a, B, G, cls, d, e, ⟨h1, h2, h3, oe, vs, T, oT, ts, h4, hz, h5⟩, r⟩ := c
  exact ⟨a, B, G, cls, d, e, ⟨h1, h2, h3, oe, vs, T, oT, ts, h4, hz.zc, h5⟩, r⟩
end Gu
namespace Gu
open PySem PySem.Spec PyProof.Rows L2
section
variable {P : Program} {w : World} {K : PySem.W.Frag} {mg : Str → Option Value} {base : Heap} {C N U V1 V2 CT CM CU CN CB : Addr}
theorem cal_checkTextEN (B : Bi mg) (D : At K mg "check_text" s_check_text ps_check_text) (T_InvalidText : ErrK K mg bVE U "InvalidText" CT) (S_InvalidText : ErrF K "InvalidText" "value" CT) (C_is_text : Cal P w K mg base 1 "is_text" ps_is_text (spTxt K)) : CalXN P w K mg base 2 "check_text" ps_check_text (spCheckTextE K CT) := by
  refine D.calXN sc_check_text (fun vs H Q E h => ?_) (fun f cdv A outer s H vs Q E hr h => ?_)
  · obtain ⟨v, rfl, _⟩ := h
    rfl
  · obtain ⟨v, rfl, way⟩ := h
    refine ⟨_, (pss_one (ps_if (pt_not (pt_val (pe_own C_is_text hr (by decide) (by rfl) (pa_cons (pv 0) (pa_cons (pe_cst B.MOST_TEXT (by rfl)) pa_nil))))) (pss_one (ps_raiseEN T_InvalidText S_InvalidText rfl hr (L2N.takes_of rfl rfl rfl rfl) (pa_cons (pv 0) pa_nil) (by rfl))) pss_nil)), ?_⟩
    rcases way with ⟨t, rfl, wt, k⟩ | ⟨no, k⟩
    · have tl := wd_len wt
      exact ⟨_, rfl, _, _, rfl, .inl ⟨t, rfl, by omega, wd_isTxt wt, fun G sG => ⟨_, rfl, iteF (k G sG)⟩⟩⟩
    · exact ⟨_, rfl, v, _, rfl, .inr ⟨no, fun G sG => ⟨_, rfl, iteT ⟨_, rfl, v, rfl, fun d nd => k G sG d _ (same_new nd) upd_same⟩⟩⟩⟩
theorem cal_letComeEN (B : Bi mg) (Z : ShlC K mg C) (T_TooMany : ErrK K mg bAE V1 "TooMany" CM) (S_TooMany : ErrF K "TooMany" "limit" CM) (D : MethAt K C "let_come" "Shelf.let_come" s_Shelf_let_come ps_Shelf_let_come) (CX_check_text : CalXN P w K mg base 2 "check_text" ps_check_text (spCheckTextE K CT)) (C_name_of_next : Cal P w K mg base 3 "name_of_next" ps_name_of_next (spNextQ K N)) (M_become : CalM P w K mg base 1 C "become" ps_Shelf_become (spBecome C N)) : CalMXN P w K mg base 4 C "let_come" ps_Shelf_let_come (spLetComeE K C N CT CM) := by
  refine D.calXN sc_Shelf_let_come (fun vs H Q E h => ?_) (fun f cdv A outer s H vs Q E hr h => ?_)
  · obtain ⟨s, v, S, rfl, _⟩ := h
    rfl
  · obtain ⟨s, v, S, rfl, hS, ok, way⟩ := h
    refine ⟨_, (pss_cons (ps_expr (pe_ownXN CX_check_text hr (by decide) (L2N.takes_of rfl rfl rfl rfl) (fun _ _ _ _ h => h) (by rfl) (pa_cons (pv 1) pa_nil)))
      (pss_cons (ps_if (pt_cmpR op_ge (pe_callB call_len_seq (by rfl) B.len (by decide +kernel) (pa_cons (pe_fld (pv 0) rfl) pa_nil)) (pe_cst B.MOST_SHELVED (by rfl)) (nomark _)) (pss_one (ps_raiseEN T_TooMany S_TooMany rfl hr (L2N.takes_of rfl rfl rfl rfl) (pa_cons (pe_cst B.MOST_SHELVED (by rfl)) pa_nil) (by rfl))) pss_nil)
      (pss_cons (ps_set (i := 2) sc_Shelf_let_come.nd rfl (.inl rfl) (pe_own C_name_of_next hr (by decide) (by rfl) (pa_cons (pe_fld (pv 0) rfl) (pa_cons (pv 1) (pa_cons (pe_fld (pv 0) rfl) (pa_cons (pe_fld (pv 0) rfl) pa_nil))))))
      (pss_cons (ps_expr (pe_mth M_become Z.cl hr (by decide) (pv 0) (pa_cons (pe_op op_catA (pe_fld (pv 0) rfl) (pe_tup (pa_cons (pv 1) pa_nil))) (pa_cons (pe_op op_catF (pe_fld (pv 0) rfl) (pe_tupF (pa_cons (pv 2) pa_nil))) pa_nil))))
      (pss_one (ps_ret (pv 2))))))), ?_⟩
    rcases way with ⟨t, rfl, wt, l20, k⟩ | ⟨no, k⟩ | ⟨t, rfl, wt, l20, k⟩
    · have tl := wd_len wt
      refine ⟨_, rfl, _, rfl, .inl ⟨t, rfl, wt, fun G1 s1 => ?_⟩⟩
      have hS1 := hS.same s1
      obtain ⟨dx, n, a, b, c, e0, e1, e2, e3, e4⟩ := id hS1.ex
      refine ⟨_, rfl, s, C, dx, _, _, rfl, e0, Z.cl, Z.nT, sf_texts, a, _, rfl, .inr (.inl (.inl e2)), _, _, rfl, rfl, _, rfl, ?_⟩
      rw [txts_len, decide_eq_false (show ¬ (20 : Int) ≤ (S.ps.length : Int) by omega)]
      refine iteF ?_
      refine ⟨_, rfl, s, C, dx, _, _, rfl, e0, Z.cl, Z.nN, sf_namer, _, rfl, _, rfl, s, C, dx, _, _, rfl, e0, Z.cl, Z.nT, sf_texts, _, rfl, s, C, dx, _, _, rfl, e0, Z.cl, Z.nM, sf_names, ?_⟩
      refine ⟨n, a, b, S.so, S.w, t, S.ps.map (fun q : Str × Str => q.1), S.ps.map (fun q : Str × Str => q.2), rfl, e1, by omega, .inl (.inl e2), by rw [List.length_map]; omega, fun u hu => ?_, e3.sq, by rw [List.length_map]; omega, fun G2 s2 => ?_⟩
      · obtain ⟨q, hq, rfl⟩ := List.mem_map.mp hu
        exact (ok.ps.wd q hq).1
      rw [nextOf_ps]
      have hS2 := hS1.same s2
      have e0 := s2 _ _ e0
      have e2 := s2 _ _ e2
      have e3 := e3.same s2
      refine ⟨_, rfl, s, dx, _, rfl, e0, rfl, ?_⟩
      refine ⟨_, rfl, s, C, dx, _, _, rfl, e0, Z.cl, Z.nT, sf_texts, _, rfl, by show 1 ≤ sizeLine; decide, fun q nq => ?_⟩
      generalize hG : upd G2 q _ = G3
      have s3 : Same G2 G3 := hG ▸ same_new nq
      have eq : G3 q = some (.tup [.str t]) := by rw [← hG]; exact upd_same
      clear hG
      refine catU (s3 _ _ e2) eq (by rw [txts_len, List.length_singleton, sizeLine_eq]; omega) fun U G4 s4 eU => ?_
      rw [txts_cat S.ps t (nameOf S.so S.w t S.ps)] at eU
      have e0 := s4 _ _ (s3 _ _ e0)
      have e3 := (e3.same s3).same s4
      refine ⟨_, rfl, s, C, dx, _, _, rfl, e0, Z.cl, Z.nM, sf_names, _, rfl, by show 1 ≤ sizeLine; decide, fun u G5 s5 eu nu => ?_⟩
      refine ⟨b, u, _, _, rfl, rfl, e3.same s5, eu, (by rw [nms_len, List.length_singleton, sizeLine_eq]; omega), fun W G6 s6 eW => ?_⟩
      rw [nms_cat S.ps t (nameOf S.so S.w t S.ps)] at eW
      have sA := s3.trans (s4.trans (s5.trans s6))
      refine ⟨s, U, W, S, S.ps ++ [(t, nameOf S.so S.w t S.ps)], rfl, hS2.same sA, by have := ok.few; omega, s6 _ _ (s5 _ _ eU), eW, fun G7 k7 h7 => ?_⟩
      exact ⟨_, rfl, k G7 ((Kp.same (s1.trans (s2.trans sA))).trans k7) h7⟩
    · exact ⟨_, rfl, v, rfl, .inr ⟨no, k⟩⟩
    · refine ⟨_, rfl, _, rfl, .inl ⟨t, rfl, wt, fun G1 s1 => ?_⟩⟩
      obtain ⟨dx, n, a, b, c, e0, e1, e2, e3, e4⟩ := id (hS.same s1).ex
      refine ⟨_, rfl, s, C, dx, _, _, rfl, e0, Z.cl, Z.nT, sf_texts, a, _, rfl, .inr (.inl (.inl e2)), _, _, rfl, rfl, _, rfl, ?_⟩
      rw [txts_len, decide_eq_true (show (20 : Int) ≤ (S.ps.length : Int) by omega)]
      exact iteT ⟨_, rfl, fun d nd => k G1 s1 d _ (same_new nd) upd_same⟩
theorem cal_letGoEN (B : Bi mg) (Z : ShlC K mg C) (T_UnknownName : ErrK K mg bLE V1 "UnknownName" CU) (S_UnknownName : ErrF K "UnknownName" "value" CU) (D : MethAt K C "let_go" "Shelf.let_go" s_Shelf_let_go ps_Shelf_let_go) (M_become : CalM P w K mg base 1 C "become" ps_Shelf_become (spBecome C N)) : CalMXN P w K mg base 2 C "let_go" ps_Shelf_let_go (spLetGoE K C N CU) := by
  refine D.calXN sc_Shelf_let_go (fun vs H Q E h => ?_) (fun f cdv A outer s H vs Q E hr h => ?_)
  · obtain ⟨s, v, S, rfl, _⟩ := h
    rfl
  · obtain ⟨s, v, S, rfl, hS, ok, way⟩ := h
    obtain ⟨dx, n, a, b, c, e0, e1, e2, e3, e4⟩ := id hS.ex
    refine ⟨_, (pss_cons (ps_if (PW.pt (pw_or (pt_not (pt_val (pe_callB call_isi (by rfl) B.isinstance (by decide +kernel) (pa_cons (pv 1) (pa_cons (pe_bltn (v := .ty "str") (by rfl) B.str (by decide +kernel) rfl) pa_nil))))) (pw_or1 (pt_cmpR op_notIn_seq (pv 1) (pe_fld (pv 0) rfl) (by rfl))))) (pss_one (ps_raiseEN T_UnknownName S_UnknownName rfl hr (L2N.takes_of rfl rfl rfl rfl) (pa_cons (pv 1) pa_nil) (by rfl))) pss_nil)
      (pss_cons (ps_set (i := 2) sc_Shelf_let_go.nd rfl (.inl rfl) (pe_bmF PySem.F.plainAttrs_tuple PySem.F.slot_tuple_index PySem.F.type_tuple_index L2.mt_tup_index (pe_fld (pv 0) rfl) (pa_cons (pv 1) pa_nil)))
      (pss_cons (ps_set (i := 3) sc_Shelf_let_go.nd rfl (.inl rfl) (pe_ix ix_tup (pe_fld (pv 0) rfl) (pv 2) (fun _ _ => rfl)))
      (pss_cons (ps_expr (pe_mth M_become Z.cl hr (by decide) (pv 0) (pa_cons (pe_op op_catA (pe_slice sl_tupA (pe_fld (pv 0) rfl) po_none (po_some (pv 2))) (pe_slice sl_tupA (pe_fld (pv 0) rfl) (po_some (pe_op op_add (pv 2) pe_int)) po_none)) (pa_cons (pe_op op_catF (pe_slice sl_tupF (pe_fld (pv 0) rfl) po_none (po_some (pv 2))) (pe_slice sl_tupF (pe_fld (pv 0) rfl) (po_some (pe_op op_add (pv 2) pe_int)) po_none)) pa_nil))))
      (pss_one (ps_ret (pv 3))))))), ?_⟩
    rcases way with ⟨y, t, j, rfl, hj, first, k⟩ | ⟨⟨ty, i1, i2⟩ | ⟨z, rfl, nz⟩, k⟩
    · have jl : j < S.ps.length := (List.getElem?_eq_some_iff.mp hj).1
      have pl := ok.ps.len
      have yin : (S.ps.map (·.2))[j]? = some y := by rw [List.getElem?_map, hj]; rfl
      obtain ⟨ty, i1, i2⟩ := Isa.str_str (K := K) (H := H) (z := y)
      refine ⟨_, rfl, _, _, ty, _, true, rfl, .ty _, i1, i2, _, rfl, iteF ?_⟩
      refine ⟨_, rfl, _, rfl, s, C, dx, _, _, rfl, e0, Z.cl, Z.nM, sf_names, b, _, rfl, .inr e3.sq, rfl, flat_strs _, _, rfl, ?_⟩
      rw [show inV (V.str y) (nms S.ps) = true by unfold nms; rw [in_strs]; exact decide_eq_true (List.mem_of_getElem? yin)]
      refine iteF ?_
      refine ⟨_, rfl, s, C, dx, _, _, rfl, e0, Z.cl, Z.nM, sf_names, ⟨b, _, rfl, e3⟩, _, rfl, b, S.ps.map (fun q : Str × Str => q.2), y, j, rfl, rfl, e3.sq, yin, first, ?_⟩
      refine ⟨_, rfl, s, C, dx, _, _, rfl, e0, Z.cl, Z.nT, sf_texts, _, rfl, a, _, _, .str t, rfl, rfl, .inl (.inl e2), atI_nat (j := j) (by unfold txts; rw [List.getElem?_map, List.getElem?_map, hj]; rfl), ?_⟩
      refine ⟨_, rfl, s, dx, _, rfl, e0, rfl, ?_⟩
      refine ⟨_, rfl, s, C, dx, _, _, rfl, e0, Z.cl, Z.nT, sf_texts, _, rfl, _, rfl, sl_okU e2 fun U1 G1 s1 f1 => ?_⟩
      rw [cutV_hd] at f1
      refine ⟨_, rfl, s, C, dx, _, _, rfl, s1 _ _ e0, Z.cl, Z.nT, sf_texts, _, rfl, _, _, rfl, rfl, _, rfl, noPartS (sl_okU (s1 _ _ e2) fun U2 G2 s2 f2 => ?_)⟩
      have f2 : G2 U2 = some (.tup (cutV (txts S.ps) (some ((j + 1 : Nat) : Int)) none)) := f2
      rw [cutV_bk] at f2
      refine catU (s2 _ _ f1) f2 ?_ fun U3 G3 s3 f3 => ?_
      · rw [List.length_take, List.length_drop, txts_len, sizeLine_eq]
        omega
      rw [txts_go] at f3
      have s13 := s1.trans (s2.trans s3)
      have e0 := s13 _ _ e0
      have e3 := e3.same s13
      refine ⟨_, rfl, s, C, dx, _, _, rfl, e0, Z.cl, Z.nM, sf_names, _, rfl, _, rfl, b, _, rfl, e3, fun W1 G4 s4 g1 => ?_⟩
      rw [cutV_hd] at g1
      refine ⟨_, rfl, s, C, dx, _, _, rfl, s4 _ _ e0, Z.cl, Z.nM, sf_names, _, rfl, _, _, rfl, rfl, _, rfl, noPartS ⟨b, _, rfl, e3.same s4, fun W2 G5 s5 g2 => ?_⟩⟩
      have g2 : FT G5 W2 (cutV (nms S.ps) (some ((j + 1 : Nat) : Int)) none) := g2
      rw [cutV_bk] at g2
      refine ⟨W1, W2, _, _, rfl, rfl, g1.same s5, g2, ?_, fun W3 G6 s6 g3 => ?_⟩
      · rw [List.length_take, List.length_drop, nms_len, sizeLine_eq]
        omega
      rw [nms_go] at g3
      have s46 := s4.trans (s5.trans s6)
      refine ⟨s, U3, W3, S, S.ps.take j ++ S.ps.drop (j + 1), rfl, hS.same (s13.trans s46), by have := ok.few; omega, s46 _ _ f3, g3, fun G7 k7 h7 => ?_⟩
      exact ⟨_, rfl, k G7 ((Kp.same (s13.trans s46)).trans k7) h7⟩
    · exact ⟨_, rfl, _, _, ty, _, false, rfl, .ty _, i1, i2, _, rfl, iteT (iteT ⟨_, rfl, v, rfl, fun d nd => k H (Same.refl H) d _ (same_new nd) upd_same⟩)⟩
    · obtain ⟨ty, i1, i2⟩ := Isa.str_str (K := K) (H := H) (z := z)
      refine ⟨_, rfl, _, _, ty, _, true, rfl, .ty _, i1, i2, _, rfl, iteF ?_⟩
      refine ⟨_, rfl, _, rfl, s, C, dx, _, _, rfl, e0, Z.cl, Z.nM, sf_names, b, _, rfl, .inr e3.sq, rfl, flat_strs _, _, rfl, ?_⟩
      rw [show inV (V.str z) (nms S.ps) = false by unfold nms; rw [in_strs]; exact decide_eq_false nz]
      exact iteT ⟨_, rfl, .str z, rfl, fun d nd => k H (Same.refl H) d _ (same_new nd) upd_same⟩
theorem cal_doDeedXN (B : Bi mg) (Z : ShlC K mg C) (D : MethAt K C "do_deed" "Shelf.do_deed" s_Shelf_do_deed ps_Shelf_do_deed) (MX_let_come : CalMXN P w K mg base 4 C "let_come" ps_Shelf_let_come (spLetComeE K C N CT CM)) (MX_let_go : CalMXN P w K mg base 2 C "let_go" ps_Shelf_let_go (spLetGoE K C N CU)) : CalMXN P w K mg base 5 C "do_deed" ps_Shelf_do_deed (spDoDeedX K C N CT CM CU) := by
  refine D.calXN sc_Shelf_do_deed (fun vs H Q E h => ?_) (fun f cdv A outer s0 H vs Q E hr h => ?_)
  · obtain ⟨s, q, S, d, rfl, _⟩ := h
    rfl
  · obtain ⟨s, q, S, ⟨wd, t⟩, rfl, hS, hq, ok, way⟩ := h
    obtain ⟨dx, n, a, b, c, e0, _⟩ := id hS.ex
    refine ⟨_, (pss_cons (ps_asg (pv 1) (pg_tup rfl (pgs_cons (pg_name (i := 2) sc_Shelf_do_deed.nd rfl (.inl rfl)) (pgs_cons (pg_name (i := 3) sc_Shelf_do_deed.nd rfl (.inl rfl)) pgs_nil))))
      (pss_one (ps_if (pt_cmpR op_eq (pv 2) pe_str (nomark _)) (pss_one (ps_expr (pe_mthXN MX_let_come Z.cl hr (by decide) (L2N.takes_of rfl rfl rfl rfl) (fun _ _ _ _ h => h) (pv 0) (pa_cons (pv 3) pa_nil)))) (pss_one (ps_expr (pe_mthXN MX_let_go Z.cl hr (by decide) (L2N.takes_of rfl rfl rfl rfl) (fun _ _ _ _ h => h) (pv 0) (pa_cons (pv 3) pa_nil))))))), ?_⟩
    refine ⟨_, rfl, q, _, rfl, .inl (.inl hq), rfl, _, _, rfl, _, _, rfl, rfl, ?_⟩
    refine ⟨_, rfl, rfl, _, rfl, ?_⟩
    rcases way with ⟨od, k⟩ | ⟨c, f, v, bad, k⟩
    · rcases od with ⟨e, wt, l⟩ | ⟨e, j, hj⟩
      · obtain rfl : wd = ("add" : String) := e
        rw [decide_eq_true rfl]
        rw [doD_add] at k
        exact iteT ⟨_, rfl, s, dx, _, rfl, e0, rfl, _, rfl, s, _, S, rfl, hS, ok, .inl ⟨t, rfl, wt, l, k⟩⟩
      · obtain rfl : wd = ("remove" : String) := e
        rw [doD_rem hj] at k
        obtain ⟨⟨x, hx⟩, first⟩ := findY_at hj
        exact iteF ⟨_, rfl, s, dx, _, rfl, e0, rfl, _, rfl, s, _, S, rfl, hS, ok, .inl ⟨t, x, j, rfl, hx, first, k⟩⟩
    · rcases bad with ⟨e, nt, rfl, rfl, rfl⟩ | ⟨e, wt, l, rfl, rfl, rfl⟩ | ⟨e, nn, rfl, rfl, rfl⟩
      · obtain rfl : wd = ("add" : String) := e
        rw [decide_eq_true rfl]
        exact iteT ⟨_, rfl, s, dx, _, rfl, e0, rfl, _, rfl, s, _, S, rfl, hS, ok, .inr (.inl ⟨nt H, k⟩)⟩
      · obtain rfl : wd = ("add" : String) := e
        rw [decide_eq_true rfl]
        exact iteT ⟨_, rfl, s, dx, _, rfl, e0, rfl, _, rfl, s, _, S, rfl, hS, ok, .inr (.inr ⟨t, rfl, wt, l, k⟩)⟩
      · obtain rfl : wd = ("remove" : String) := e
        exact iteF ⟨_, rfl, s, dx, _, rfl, e0, rfl, _, rfl, s, _, S, rfl, hS, ok, .inr ⟨.inr ⟨t, rfl, nn⟩, k⟩⟩
end
end Gu
namespace Gu
open PySem PySem.Spec PyProof.Rows L2 Sem
/-! ### a tuple is taken apart while an error is held -/
section
variable {prog : Program} {w : World} {A : Around} {E : Value → Shared → Prop} {s : Shared}
theorem tup_end_hot {it t y : Addr} {i : Nat} {xs : Array Value} {Q : Option Value → Shared → Prop} (hot : HotX.HotAt A y s.heap) (ny : y ≠ it) (hi : IsTupIter s.heap it t i) (ht : IsTup s.heap t xs) (hx : xs[i]? = none)
    (k : ∀ h1, Heap.ExtBut it s.heap h1 → Q none { s with heap := h1 }) : wpAny (model prog w) A (pyNext (.ref it)) Q E s := by
  obtain ⟨u1, u2, u3, u4⟩ := id hi
  obtain ⟨v1, v2, _, v3, v4⟩ := ht
  obtain ⟨hh, z1, z2, z3, z4, z5⟩ := hot
  unfold pyNext
  refine wpAny_bind (wpAny_attempt (wpAny_callSpecial?_slot (name := Str.ofString "__next__") hi.typeIs slot_tupleiter_next (wpAny_call_entry slot_tupleiter_next hi.typeIs entry_tupleiter_next ?_ (args_tupleiter_next _))))
  show wpAny _ _ (field (.ref it) 0 >>= _) _ _ s
  refine wpAny_bind (wpAny_field u2 u4 (x := .ref t) rfl ?_)
  show wpAny _ _ (if (Value.ref t == Value.none) = true then _ else _) _ _ s
  rw [if_neg (show ¬ (Value.ref t == Value.none) = true from Bool.false_ne_true)]
  show wpAny _ _ (field (.ref it) 1 >>= _) _ _ s
  refine wpAny_bind (wpAny_field u2 u4 (x := .int i 0) rfl ?_)
  show wpAny _ _ (seqItems? (.ref t) >>= _) _ _ s
  refine wpAny_bind (wpAny_seqItems v2 v4 ?_)
  simp only [Int.toNat_natCast, hx]
  refine wpAny_bind (wpAny_rule (wpAny_bind (wpAny_setField u2 u4 (by simp) ?_)))
  show wpAny _ _ (newExc (.type "StopIteration") [] >>= _) _ _ _
  refine wpAny_bind ?_
  simp only [newExc, newTuple]
  refine wpAny_bind (wpAny_newObj_type ?_ (by size_fits))
  refine wpAny_bind (m := firstArgMember _ _) (wpAny_of_eq (a := Value.none) (by first | rfl | (simp only [firstArgMember]; rfl)) ?_)
  refine wpAny_newObj_type ?_ (by size_fits)
  have g : ∀ {h : Heap} {f : Obj → Obj}, h.get? y = some z1 → (h.update it f).get? y = some z1 := fun e => by
    rw [Heap.get?_update_other _ _ ny.symm]
    exact e
  refine HotX.raiseNew_hot ⟨hh, z1, z2, Heap.get?_push_of_some _ (Heap.get?_push_of_some _ (g z3)), z4, z5⟩ (Nat.ne_of_lt (Heap.lt_size (Heap.get?_push_of_some _ (g z3)))) (Heap.get?_push_size _ rfl) rfl (by first | (simp; done) | (simp; omega) | (simp only [Array.size_append]; simp; omega)) ?_
  refine wpAny_bind (wpAny_isInstance (T := "StopIteration") (b := true) ⟨_, Heap.get?_update_self _ (Heap.get?_push_size _ rfl) rfl, rfl⟩ isSubtype_stop ?_)
  refine wpAny_pure (k _ fun b o hb e => ?_)
  have e1 : (s.heap.update it (Obj.mapFields (·.setIfInBounds 0 .none))).get? b = some o := (Heap.get?_update_other _ _ (Ne.symm hb)).trans e
  rw [Heap.get?_update_other _ _ (Nat.ne_of_gt (Heap.lt_size (Heap.get?_push_of_some _ e1)))]
  exact Heap.get?_push_of_some _ (Heap.get?_push_of_some _ e1)
theorem tup_items_hot {t y : Addr} {xs : Array Value} {Q : List Value → Shared → Prop} (hot : HotX.HotAt A y s.heap) (ht : IsTup s.heap t xs) (k : ∀ h1, Heap.ExtBut s.heap.objs.size s.heap h1 → Q xs.toList { s with heap := h1 }) : wpAny (model prog w) A (unpackItems (.ref t) xs.size none) Q E s := by
  have tl : t ≠ s.heap.objs.size := by
    obtain ⟨o, e, _⟩ := ht
    exact Nat.ne_of_lt (Heap.lt_size e)
  obtain ⟨hh, z1, z2, z3, z4, z5⟩ := hot
  unfold unpackItems
  refine wpAny_bind ?_
  unfold notIterableAtAll
  refine wpAny_bind (wpAny_specialOf ht.typeIs slot_tuple_iter.lookup ?_)
  refine wpAny_pure ?_
  simp only [Bool.false_eq_true, if_false]
  refine wpAny_bind (wpAny_holding (iter_tuple ht ?_))
  refine wpAny_bind (wpAny_holding (draw_tuple tl xs.size 0 _ _ ⟨_, Heap.get?_push_size _ rfl, rfl, rfl⟩ (ht.push _) (by omega) fun h1 i1 b1 => ?_))
  rw [show List.take xs.size (List.drop 0 xs.toList) = xs.toList by rw [List.drop_zero]; exact List.take_of_length_le (by simp)]
  rw [if_neg (by simp)]
  have yl : y ≠ s.heap.objs.size := Nat.ne_of_lt (Heap.lt_size z3)
  have z6 : h1.get? y = some z1 := b1.extBut y z1 yl (Heap.get?_push_of_some _ z3)
  refine wpAny_bind (wpAny_holding (tup_end_hot ⟨hh, z1, z2, z6, z4, z5⟩ yl i1 ((ht.push _).extBut b1.extBut tl) (by simp) fun h2 b2 => ?_))
  simp only [Option.isSome_none, Bool.false_eq_true, if_false]
  exact wpAny_pure (k h2 fun b o hb e => b2 b o hb (b1.extBut b o hb (Heap.get?_push_of_some _ e)))
theorem tup_asg_hot {env : Env} {es : List Expr} {x1 : Nat} {pos : Pos} {t y : Addr} {xs : Array Value} {Q : Unit → Shared → Prop} (hot : HotX.HotAt A y s.heap) (ht : IsTup s.heap t xs) (hn : (assignEach es env).length = xs.size) (hs : (assignEach es env).findIdx? (·.1) = none)
    (k : ∀ h1, Heap.ExtBut s.heap.objs.size s.heap h1 → wpAny (model prog w) A (assignInOrder ((assignEach es env).map (·.2)) xs.toList) Q E { s with heap := h1 }) : wpAny (model prog w) A (assign (.Tuple es x1 pos) env (.ref t)) Q E s := by
  rw [assign_Tuple]
  refine wpAny_bind (wpAny_standAt ?_)
  unfold unpack
  rw [hn, hs]
  exact wpAny_bind (wpAny_holding (tup_items_hot hot ht k))
end
/-- a, b, .. = v, v a tuple, while an error is held -/
theorem pg_tupH {X : Cx} {es : List Expr} {k : Nat} {t : TGs} {n : Nat} {pos : Pos} (hc : L2H.HotC X) (h : PGs X es t) (hn : (assignEach es X.env).length = n := by rfl) (hst : (assignEach es X.env).findIdx? (·.1) = none := by rfl) : PG X (.Tuple es k pos) (gTup X.K n t) := by
  refine ⟨fun pins s σ H v u Q I r ⟨a, xs, e1, hq, hl, hw⟩ => ?_⟩
  subst e1
  cases r
  obtain ⟨its, rv, ht, hz⟩ := I.tuple hq
  obtain ⟨y, hy⟩ := hc.at I
  refine tup_asg_hot hy ht (by simp [hn, ← hl, rv.length]) hst fun h1 hx => ?_
  exact h.run pins _ σ H xs _ Q (I.kept (t' := s.toks) fun b o e => hx b o (Nat.ne_of_lt (Heap.lt_size e)) e) (by simpa using rv) hw
end Gu
namespace Gu
open PySem PySem.Spec PyProof.Rows L2
/-! ### try: body finally: suite, of errors of which is known that nothing stands behind them -/
section
variable {X : Cx} {body : List Stmt} {f₀ : Stmt} {fs : List Stmt} {pos : Pos} {tf tb1 : TS} {Wout : WX}
/-- the suite with the error a held -/
def SuiteN (X : Cx) (l : List Stmt) (tf : TS) : Prop := ∀ (a : Addr) (oe : Obj) (pn : List (Addr × Obj)), (∃ vs : Array Value, oe.data = .fields vs ∧ vs[2]? = some .none) → PSs (X.suite a ((a, oe) :: pn)) l tf
abbrev FR (X : Cx) (pins : List (Addr × Obj)) (D : Ends) (f₀ : Stmt) (fs : List Stmt) : Value → Shared → Prop := FinallyRaised X.prog X.w X.A X.xe X.env (f₀ :: fs) (SP X pins D)
theorem fin_errN {pins : List (Addr × Obj)} {D : Ends} {u : Value} {s1 : Shared} (h1 : X.stack = X.env :: X.outer) (h2 : X.env.frame = some X.env.locals) (h3 : X.ex = []) (ok : X.Ok) (tk : L2N.Takes X Wout) (su : SuiteN X (f₀ :: fs) tf)
    (xx : L2N.XE (X.tr (X.pn ++ pins) (fun x sx => wpAny (model X.prog X.w) X.A (noteFrame x X.env) (fun _ sy => FR X pins D f₀ fs x sy) (FR X pins D f₀ fs) sx)) (wFin tf Wout) u s1) : wpAny (model X.prog X.w) X.A (noteFrame u X.env) (fun _ sy => FR X pins D f₀ fs u sy) (FR X pins D f₀ fs) s1 := by
  have fr : X.A.frames = some (X.env :: X.outer) := by rw [ok.frames, h1]
  obtain ⟨a, B, sI, pi, σ1, H1, cls, d, rfl, J0, nb, up, sky0, na, os, ag, want⟩ := xx
  have J : Inv X pins σ1 H1 sI := J0.ofTry ok
  have sky : Sky B (X.env :: X.outer) a (L2N.Zn cls d) X.env.locals s1.heap := by
    rw [← h1]
    exact sky0
  have go : ∀ hh, HandSPX.HeldZ B (X.env :: X.outer) a (L2N.Zn cls d) X.env.locals hh → s1.heap.UpToSlots hh → FR X pins D f₀ fs (.ref a) { s1 with heap := hh } := fun hh held up2 => by
    refine ⟨ref_ne_byPass a, HandSPX.againZ h2 held.2.2.2 (HandSPX.landsZ held fun h5 fl up3 => ?_)⟩
    have J5 : Inv X pins σ1 H1 { s1 with heap := h5 } := J.landed nb fl.1 ((up.trans up2).trans up3) os ag
    obtain ⟨g1, g2, g3, oe, vs, T, oT, ts, ga, hz, hd, hv, gT0, Ta, gT, hdT, hts⟩ := id fl
    have nT : H1 T = none := (J.inGround nb).gone gT0
    have apart : ∀ {b : Addr} {o : Obj} {fv : Array Value}, h5.get? b = some o → o.data = .fields fv → b ∉ frs (X.env :: X.outer) := fun {b o fv} e dd hm => by
      obtain ⟨_, o2, e2, no⟩ := g3.mem hm
      rw [e] at e2
      cases e2
      exact no _ dd
    have lF : X.env.locals ∈ frs (X.env :: X.outer) := List.mem_filterMap.mpr ⟨X.env, List.mem_cons_self, h2⟩
    have oF : ∀ b, b ∈ X.fs → b ∈ frs (X.env :: X.outer) := fun b hm => by
      obtain ⟨z, hz2, q⟩ := List.mem_filterMap.mp hm
      exact List.mem_filterMap.mpr ⟨z, List.mem_cons_of_mem _ hz2, q⟩
    have fa := apart ga hd
    have fT := apart gT hdT
    have pinOk : ∀ {b : Addr} {o : Obj} {fv : Array Value}, h5.get? b = some o → o.data = .fields fv → H1 b = none → h5.get? b = some o ∧ H1 b = none ∧ b ≠ X.env.locals ∧ b ∉ X.fs ∧ ∀ v, o.data ≠ .cell v := fun {b o fv} e dd nn => by
      have q := apart e dd
      exact ⟨e, nn, fun z => q (by rw [z]; exact lF), fun z => q (oF _ z), fun v z => by rw [dd] at z; cases z⟩
    have S5 : Inv (X.suite a ((a, oe) :: (T, oT) :: (X.pn ++ pins))) [] σ1 H1 { s1 with heap := h5 } := by
      refine ⟨J5.ok.suite _ _, J5.os, J5.bare, J5.base, J5.loc, J5.cell, J5.free, J5.freeC, fun p hp => ?_, J5.hok, J5.len⟩
      rw [List.append_nil] at hp
      rcases List.mem_cons.mp hp with rfl | hp
      · exact pinOk ga hd na
      rcases List.mem_cons.mp hp with rfl | hp
      · exact pinOk gT hdT nT
      · exact J5.pin p hp
    refine wpAny_mono ((su a oe ((T, oT) :: (X.pn ++ pins)) ⟨vs, hd, hz.2.2 vs hd⟩).run [] { s1 with heap := h5 } σ1 H1 { nx := fun σ2 H2 => Wout cls d σ2 H2, rt := fun _ _ => False } S5 want) (fun fl2 s6 q => ?_) fun _ _ z => z.elim
    cases fl2 with
    | ret _ =>
      obtain ⟨_, _, _, _, _, z⟩ := q
      exact z.elim
    | brk =>
      obtain ⟨_, _, _, z⟩ := q
      exact z.elim
    | cont =>
      obtain ⟨_, _, _, z⟩ := q
      exact z.elim
    | next =>
      obtain ⟨σ6, H6, S6, q⟩ := q
      obtain ⟨a1, a2, _⟩ := S6.pin (a, oe) (List.mem_append_left _ List.mem_cons_self)
      obtain ⟨b1, b2, _⟩ := S6.pin (T, oT) (List.mem_append_left _ (List.mem_cons_of_mem _ List.mem_cons_self))
      have J6 : Inv X pins σ6 H6 s6 := ⟨ok, S6.os, S6.bare, S6.base, S6.loc, S6.cell, S6.free, S6.freeC, fun p hp => S6.pin p (List.mem_append_left _ (List.mem_cons_of_mem _ (List.mem_cons_of_mem _ hp))), S6.hok, S6.len⟩
      have far : ∀ b o, sI.heap.get? b = some o → b ≠ a ∧ b ≠ T := fun b o e => by
        by_cases m : b ∈ frs X.stack
        · rw [h1] at m
          exact ⟨fun z => fa (z ▸ m), fun z => fT (z ▸ m)⟩
        · have e2 := nb b o e m
          refine ⟨fun z => ?_, fun z => ?_⟩
          · rw [z, g2] at e2
            cases e2
          · rw [z, gT0] at e2
            cases e2
      have farB : ∀ b o, X.s_0.heap.get? b = some o → b ≠ a ∧ b ≠ T := fun b o e => by
        obtain ⟨o2, e2⟩ := J.base.there b o e (by rw [h3]; simp)
        exact far b o2 e2
      have farP : ∀ p ∈ X.pn ++ pins, p.1 ≠ a ∧ p.1 ≠ T := fun p hp => far p.1 p.2 (J.pin p hp).1
      obtain ⟨G, y1, y2⟩ := restrict s6.heap fun b => !(decide (b = a) || decide (b = T))
      have inG : ∀ b o, G.get? b = some o → s6.heap.get? b = some o ∧ b ≠ a ∧ b ≠ T := fun b o e => by
        cases t : (!(decide (b = a) || decide (b = T))) with
        | false =>
          rw [y2 b t] at e
          cases e
        | true =>
          rw [y1 b t] at e
          simp only [Bool.not_eq_true', Bool.or_eq_false_iff, decide_eq_false_iff_not] at t
          exact ⟨e, t⟩
      have toG : ∀ b o, b ≠ a → b ≠ T → s6.heap.get? b = some o → G.get? b = some o := fun b o n1 n2 e => by
        rw [y1 b (by simp [n1, n2])]
        exact e
      have I6 : Inv X pins σ6 H6 { s6 with heap := G } := J6.less (fun b o e => (inG b o e).1) toG ⟨oe, vs, a1, hd⟩ ⟨oT, ts, b1, hdT⟩ a2 b2 farB farP
      generalize hB : PySem.W.hideAll G (frs X.stack) = B6
      have B6s : ∀ b o, B6.get? b = some o → s6.heap.get? b = some o ∧ b ≠ a ∧ b ≠ T := fun b o e => inG b o (PySem.W.of_hideAll _ (hB ▸ e))
      have B6n : ∀ b, b = a ∨ b = T → B6.get? b = none := fun b m => by
        cases t : B6.get? b with
        | none => rfl
        | some o =>
          obtain ⟨_, n1, n2⟩ := B6s b o t
          exact (m.elim n1 n2).elim
      have fl6 : HandSPX.FlyingZ B6 (X.env :: X.outer) a (L2N.Zn cls d) s6.heap := by
        refine ⟨fun b o e => (B6s b o e).1, B6n a (.inl rfl), ?_, oe, vs, T, oT, ts, a1, hz, hd, hv, B6n T (.inr rfl), Ta, b1, hdT, hts⟩
        rw [← h1]
        exact funFrames_none (B := B6) J6.stack fun b m => hB ▸ PySem.W.hideAll_none _ m
      show wpAny (model X.prog X.w) X.A (PySem.passOn "try.finally" (.ref a) X.env) (SP X pins D) X.xe s6
      unfold PySem.passOn
      refine wpAny_bind (wpAny_field a1 hd hv ?_)
      rw [if_neg (show ¬ (Value.ref T == Value.none) = true from by simp)]
      have on : wpAny (model X.prog X.w) X.A (setFlight (.ref a) X.env.frame) (fun _ s7 => wpAny (model X.prog X.w) X.A (throw (.ref a) : Sem Flow) (SP X pins D) X.xe s7) X.xe s6 := by
        rw [h2]
        refine HandSPX.setFlight_upZ fl6 fun h7 held7 up7 => wpAny_throw (tk _ _ ⟨a, B6, { s6 with heap := G }, pins, σ6, H6, cls, d, rfl, I6, fun b o e m => ?_, ?_, .inr (.inr ?_), a2, rfl, J6.bare, q⟩)
        · rw [← hB]
          exact PySem.W.hideAll_get _ e m
        · exact Heap.UpToSlots.trans (Heap.UpToSlots.of_keeps fun b o e => (inG b o e).1) up7
        · rw [h1]
          exact held7
      first
        | exact wpAny_bind (wpAny_pure (wpAny_bind on))
        | exact wpAny_bind on
  show wpAny (model X.prog X.w) X.A (noteFrame (.ref a) X.env) _ _ _
  rcases sky with ⟨k1, k2, k3, oe, vs, k4, k5, k6, k7⟩ | fl | held
  · exact PXN.look_newZ L2N.Zn.steady fr k3 h2 k4 k1 k2 k6 k7 k5 go
  · exact PXN.looks_onZ L2N.Zn.steady fr h2 fl go
  · exact HandSPX.againZ h2 held.2.2.2 (go s1.heap held (Heap.UpToSlots.refl _))
theorem ps_finN (h1 : X.stack = X.env :: X.outer) (h2 : X.env.frame = some X.env.locals) (h3 : X.ex = []) (tk : L2N.Takes X Wout) (hfin : PSs X.nox (f₀ :: fs) tf) (su : SuiteN X (f₀ :: fs) tf)
    (hb0 : L2N.Takes (X.tr [] X.xe) (wFin tf Wout) → PassesOwn (model X.prog X.w) X.A X.env X.xe → PSs (X.tr [] X.xe) body tb1)
    (hb : ∀ (pn : List (Addr × Obj)) (xe : Value → Shared → Prop), L2N.Takes (X.tr pn xe) (wFin tf Wout) → PassesOwn (model X.prog X.w) X.A X.env xe → PSs (X.tr pn xe) body tb1) : PS X (.Try body [] [] (f₀ :: fs) pos) (tFinW tb1 tf) := by
  refine ⟨fun pins s σ H D I h => wpAny_Try_finally ?_⟩
  have ok := I.ok
  refine wpAny_mono ((hb (X.pn ++ pins) (fun x sx => wpAny (model X.prog X.w) X.A (noteFrame x X.env) (fun _ sy => FR X pins D f₀ fs x sy) (FR X pins D f₀ fs) sx) (fun u s1 xx => fin_errN h1 h2 h3 ok tk su xx) PassesOwn.looking).run [] s σ H { nx := fun σ1 H1 => tf D σ1 H1, rt := fun _ _ => False } (I.toTry _) h) (fun fl s1 z => ?_) fun x s1 hx => hx
  cases fl with
  | ret _ =>
    obtain ⟨_, _, _, _, _, q⟩ := z
    exact q.elim
  | brk =>
    obtain ⟨_, _, _, q⟩ := z
    exact q.elim
  | cont =>
    obtain ⟨_, _, _, q⟩ := z
    exact q.elim
  | next =>
    obtain ⟨σ1, H1, J1, q1⟩ := z
    refine wpAny_execs_nil (wpAny_mono (hfin.run pins s1 σ1 H1 D ((J1.ofTry ok).wish _) q1) (fun g s2 q2 => ?_) fun _ _ e => e.elim)
    have q3 : SP X pins D g s2 := q2.unwish
    cases g <;> exact q3
end
end Gu
namespace Gu
open PySem PySem.Spec PyProof.Rows L2
/-! ### do_all, both ways -/
/-- the deeds before the i-th are done, the i-th is refused -/
def BadRun (K : PySem.W.Frag) (CT CM CU : Addr) (S : Sf) (ds : List Dd) (c : Addr) (f : Str) (v : V) : Prop := ∃ i d, ds[i]? = some d ∧ OkRun S (ds.take i) ∧ BadD K CT CM CU (runD S (ds.take i)) d c f v
theorem runD_ps (S : Sf) (ds : List Dd) (b : Bool) : (runD (S.set b) ds).ps = (runD S ds).ps := by rw [runD_set]; rfl
section
variable {P : Program} {w : World} {K : PySem.W.Frag} {mg : Str → Option Value} {base : Heap} {C N CT CM CU : Addr}
def spDoAllBX (K : PySem.W.Frag) (C N CT CM CU : Addr) : Sp := fun vs H Q E => ∃ (s l : Addr) (S : Sf) (ds : List (Addr × Dd)), vs = [.ref s, .non, .ref l] ∧ ShelfAt C N H s S ∧ H l = some (.tup (ds.map fun q => V.ref q.1)) ∧ (∀ q ∈ ds, DAt H q.1 q.2) ∧ (∀ q ∈ ds, q.2.1 ∈ [(("add" : String) : Str), (("remove" : String) : Str)]) ∧ S.ok ∧ S.busy = false ∧ S.past.length + ds.length ≤ 500 ∧
  ((OkRun S (ds.map (·.2)) ∧ ∀ G, Kp [s] H G → ShelfAt C N G s (runD S (ds.map (·.2))) → Q .non G) ∨
   (∃ c f v, BadRun K CT CM CU S (ds.map (·.2)) c f v ∧ ∀ d G, Kp [s] H G → ShelfAt C N G s S → G d = some (.xd [(f, v)]) → E (.ref c) (some d) G))
set_option maxHeartbeats 4000000 in
theorem doAll_bodyX (B : Bi mg) (Z : ShlC K mg C) (M_check_not_busy : CalM P w K mg base 1 C "check_not_busy" ps_Shelf_check_not_busy (spCalmS C N)) (C_check_deeds : Cal P w K mg base 3 "check_deeds" ps_check_deeds (spCheckDeeds K)) (MX_do_deed : CalMXN P w K mg base 5 C "do_deed" ps_Shelf_do_deed (spDoDeedX K C N CT CM CU)) (f : Addr) (cdv : Value) :
    ∀ (A : Around) (outer : List Env) (s : Shared) (H : Hp) (vs : List V) (Q : VK) (E : XK), Room 5 (A.deeper (envOfC "Shelf.do_all" (defScope s_Shelf_do_all) s.heap.objs.size f cdv)) → spDoAllBX K C N CT CM CU vs H Q E →
      ∃ t, PSs (cxOf (L2N.CX P w) P w K mg base ["self", "watch", "deeds", "texts", "names", "past", "place", "deed"] "Shelf.do_all" (defScope s_Shelf_do_all) f cdv A outer s H E) (defBody s_Shelf_do_all) t ∧ t { nx := fun _ H' => Q .non H', rt := Q } (start ["self", "watch", "deeds", "texts", "names", "past", "place", "deed"] vs) H := by
  intro A outer s0 H vs Q E hr h
  obtain ⟨s, l, S, ds, rfl, hS, hl, hd, hwd, ok, bz, few, way⟩ := h
  obtain ⟨dx, n, a, b, c, e0, e1, e2, e3, e4⟩ := id hS.ex
  refine ⟨_, (pss_cons (ps_expr (pe_mth0 M_check_not_busy Z.cl hr (by decide) (pv 0)))
      (pss_cons (ps_expr (pe_own C_check_deeds hr (by decide) (by rfl) (pa_cons (pv 2) pa_nil)))
      (pss_cons (ps_par3 (i := 3) (j := 4) (l := 5) (by rfl) sc_Shelf_do_all.nd rfl rfl rfl (by decide) (by decide) (by decide) rfl rfl rfl (pa_cons (pe_fld (pv 0) rfl) (pa_cons (pe_fld (pv 0) rfl) (pa_cons (pe_fld (pv 0) rfl) pa_nil))) (by rfl))
      (pss_cons (ps_fld (pv 0) pe_bl rfl)
      (pss_one (ps_finN (X := cxOf (L2N.CX P w) P w K mg base ["self", "watch", "deeds", "texts", "names", "past", "place", "deed"] "Shelf.do_all" (defScope s_Shelf_do_all) f cdv A outer s0 H E) rfl rfl rfl (L2N.takes_of rfl rfl rfl rfl)
      (pss_cons (ps_asg (pe_tup (pa_cons (pv 3) (pa_cons (pv 4) (pa_cons (pv 5) pa_nil)))) (pg_tup rfl (pgs_cons (pg_fld (pv 0)) (pgs_cons (pg_fld (pv 0)) (pgs_cons (pg_fld (pv 0)) pgs_nil)))))
      (pss_one (ps_fld (pv 0) pe_bl rfl)))
      (fun a oe pn hv => (pss_cons (ps_asg (pe_tup (pa_cons (pv 3) (pa_cons (pv 4) (pa_cons (pv 5) pa_nil)))) (pg_tupH ⟨(a, oe), ⟨rfl, hv⟩, List.mem_cons_self⟩ (pgs_cons (pg_fld (pv 0)) (pgs_cons (pg_fld (pv 0)) (pgs_cons (pg_fld (pv 0)) pgs_nil)))))
      (pss_one (ps_fld (pv 0) pe_bl rfl))))
      (fun tk po => (pss_cons (ps_for po rfl (pi_enT (by rfl) B.enumerate (pa_cons (pv 2) pa_nil)) (pg_tup rfl (pgs_cons (pg_name (i := 6) sc_Shelf_do_all.nd rfl (.inl rfl)) (pgs_cons (pg_name (i := 7) sc_Shelf_do_all.nd rfl (.inl rfl)) pgs_nil)))
      (pss_cons (ps_expr (pe_mthSN MX_do_deed Z.cl hr (by decide) tk (pv 0) (pa_cons (pv 7) pa_nil)))
      (pss_one (ps_if (pt_cmpR op_notN (pv 1) pe_non (nomark _)) (pss_one ps_never) pss_nil))))
      (pss_one (ps_par3 (i := 3) (j := 4) (l := 5) (by rfl) sc_Shelf_do_all.nd rfl rfl rfl (by decide) (by decide) (by decide) rfl rfl rfl (pa_cons (pe_fld (pv 0) rfl) (pa_cons (pe_fld (pv 0) rfl) (pa_cons (pe_fld (pv 0) rfl) pa_nil))) (by rfl)))))
      (fun pn xe tk po => (pss_cons (ps_for po rfl (pi_enT (by rfl) B.enumerate (pa_cons (pv 2) pa_nil)) (pg_tup rfl (pgs_cons (pg_name (i := 6) sc_Shelf_do_all.nd rfl (.inl rfl)) (pgs_cons (pg_name (i := 7) sc_Shelf_do_all.nd rfl (.inl rfl)) pgs_nil)))
      (pss_cons (ps_expr (pe_mthSN MX_do_deed Z.cl hr (by decide) tk (pv 0) (pa_cons (pv 7) pa_nil)))
      (pss_one (ps_if (pt_cmpR op_notN (pv 1) pe_non (nomark _)) (pss_one ps_never) pss_nil))))
      (pss_one (ps_par3 (i := 3) (j := 4) (l := 5) (by rfl) sc_Shelf_do_all.nd rfl rfl rfl (by decide) (by decide) (by decide) rfl rfl rfl (pa_cons (pe_fld (pv 0) rfl) (pa_cons (pe_fld (pv 0) rfl) (pa_cons (pe_fld (pv 0) rfl) pa_nil))) (by rfl))))))))))), ?_⟩
  refine ⟨_, rfl, s, dx, _, rfl, e0, rfl, s, S, rfl, hS, bz, ?_⟩
  refine ⟨_, rfl, l, ds, rfl, .inl (.inl hl), fun q hq => ⟨hd q hq, hwd q hq⟩, fun G1 s1 => ?_⟩
  have e01 := s1 _ _ e0
  refine ⟨_, rfl, s, C, dx, _, _, rfl, e01, Z.cl, Z.nT, sf_texts, _, rfl, s, C, dx, _, _, rfl, e01, Z.cl, Z.nM, sf_names, _, rfl, s, C, dx, _, _, rfl, e01, Z.cl, Z.nP, sf_past, _, _, _, rfl, ?_⟩
  refine ⟨_, rfl, s, C, dx, _, rfl, e01, Z.cl, Z.nB, by show 5 < 1000; decide, ?_⟩
  rw [put_busy]
  generalize hG : upd G1 s _ = G2
  have k2 : Kp [s] G1 G2 := hG ▸ kp_upd
  have g2 : G2 s = some (.ins C dx (sflds n a b c true)) := by rw [← hG]; exact upd_same
  clear hG
  have m : Muts C N [s] H := fun x hx => .inr ⟨S, by rw [List.mem_singleton.mp hx]; exact hS⟩
  have kH : Kp [s] H G2 := (Kp.same s1).trans k2
  have hS2 : ShelfAt C N G2 s (S.set true) := ⟨dx, n, a, b, c, g2, e1.kp m kH, kH _ _ e2 (m.tup e2), e3.kp m kH, e4.kp m kH⟩
  have wl : ∀ {J : Hp}, Kp [s] H J → J l = some (.tup (ds.map fun q => V.ref q.1)) := fun kJ => kJ _ _ hl (m.tup hl)
  obtain ⟨mm, ml, run, fin⟩ : ∃ mm, mm ≤ ds.length ∧ OkRun S ((ds.map (·.2)).take mm) ∧ ((mm = ds.length ∧ ∀ G, Kp [s] H G → ShelfAt C N G s (runD S (ds.map (·.2))) → Q .non G) ∨
      ∃ d0 cc fl v, (ds.map (·.2))[mm]? = some d0 ∧ BadD K CT CM CU (runD S ((ds.map (·.2)).take mm)) d0 cc fl v ∧ ∀ d G, Kp [s] H G → ShelfAt C N G s S → G d = some (.xd [(fl, v)]) → E (.ref cc) (some d) G) := by
    rcases way with ⟨r, k⟩ | ⟨cc, fl, v, ⟨i, d, hi, r, bad⟩, k⟩
    · exact ⟨ds.length, Nat.le_refl _, by rw [List.take_of_length_le (by rw [List.length_map]; exact Nat.le_refl _)]; exact r, .inl ⟨rfl, k⟩⟩
    · have := (List.getElem?_eq_some_iff.mp hi).1
      rw [List.length_map] at this
      exact ⟨i, Nat.le_of_lt this, r, .inr ⟨d, cc, fl, v, hi, bad, k⟩⟩
  have run2 := run.set true
  have tk2 : ∀ {i}, i ≤ mm → ((ds.map (·.2)).take mm).take i = (ds.map (·.2)).take i := fun h => by rw [List.take_take, Nat.min_eq_left h]
  have okAt : ∀ {i}, i ≤ mm → (runD (S.set true) ((ds.map (·.2)).take i)).ok ∧ (runD (S.set true) ((ds.map (·.2)).take i)).so = S.so ∧ (runD (S.set true) ((ds.map (·.2)).take i)).w = S.w := fun {i} h => by
    have := (run2.take i).ok (Sf.ok_set ok true) (by rw [List.length_take, List.length_take, List.length_map]; show S.past.length + _ ≤ 500; omega)
    rw [tk2 h] at this
    exact ⟨this.1, this.2.1, this.2.2.1⟩
  refine ⟨_, rfl, l, _, rfl, .inl (.inl (wl kH)), for_it walk_enT (fun i σ J => ∃ u v, σ = [some (.ref s), some .non, some (.ref l), some (.ref a), some (.ref b), some (.ref c), u, v] ∧ Kp [s] H J ∧ ShelfAt C N J s (runD (S.set true) ((ds.map (·.2)).take i)) ∧ i ≤ mm) ⟨none, none, rfl, kH, hS2, Nat.zero_le _⟩ (fun i σ J _ ⟨_, _, _, kJ, _⟩ => .inl (.inl (wl kJ))) ?_ ?_⟩
  · rintro i v σ J J1 hi ⟨u, v2, rfl, kJ, hJ, im⟩ ⟨T, x, hx, rfl, nT, rfl⟩
    rw [List.getElem?_map] at hx
    obtain ⟨q, hq, rfl⟩ := Option.map_eq_some_iff.mp hx
    have sT : Same J (upd J T (.tup [.int (i : Nat), .ref q.1])) := same_new nT
    have hd2 := hd q (List.mem_of_getElem? hq)
    have hdi : (ds.map (·.2))[i]? = some q.2 := by rw [List.getElem?_map, hq]; rfl
    obtain ⟨ok2, so2, w2⟩ := okAt im
    refine ⟨T, _, rfl, .inl (.inl upd_same), rfl, _, _, rfl, _, _, rfl, rfl, ?_⟩
    have hJ2 := hJ.same sT
    obtain ⟨dx2, n2, a2, b2, c2, f0, f1, f2, f3, f4⟩ := id hJ2.ex
    refine ⟨_, rfl, s, dx2, _, rfl, f0, rfl, _, rfl, s, q.1, _, q.2, rfl, hJ2, sT _ _ (kJ _ _ hd2 (m.tup hd2)), ok2, ?_⟩
    by_cases hm : i = mm
    · -- the deed is refused
      subst hm
      rcases fin with ⟨e, _⟩ | ⟨d0, cc, fl, v, hd0, bad, k⟩
      · have := (List.getElem?_eq_some_iff.mp hq).1
        omega
      rw [hdi] at hd0
      cases hd0
      refine .inr ⟨cc, fl, v, ?_, fun Gy sy d Gx sx ex => ?_⟩
      · unfold BadD at bad ⊢
        rw [runD_ps]
        exact bad
      have sJx : Same (upd J T (.tup [.int (i : Nat), .ref q.1])) Gx := sy.trans sx
      have hx : ShelfAt C N Gx s _ := hJ2.same sJx
      have fx : Gx s = some (.ins C dx2 (sflds n2 a2 b2 c2 _)) := sJx _ _ f0
      have bzx : (runD (S.set true) ((ds.map (·.2)).take i)).busy = true := by rw [runD_set]; rfl
      rw [bzx] at fx
      show tSeq _ _ _ [some (.ref s), some .non, some (.ref l), some (.ref a), some (.ref b), some (.ref c), _, _] Gx
      refine ⟨_, rfl, _, rfl, _, rfl, by show 3 ≤ sizeLine; decide, fun U nU => ?_⟩
      generalize hG : upd Gx U _ = G3
      have s3 : Same Gx G3 := hG ▸ same_new nU
      have eU : G3 U = some (.tup [.ref a, .ref b, .ref c]) := by rw [← hG]; exact upd_same
      clear hG
      have g3 := s3 _ _ fx
      refine ⟨U, _, rfl, .inl (.inl eU), rfl, _, _, rfl, ?_⟩
      refine ⟨_, rfl, s, C, dx2, _, rfl, g3, Z.cl, Z.nT, by show 5 < 1000; decide, ?_⟩
      rw [put_texts]
      generalize hG : upd G3 s _ = G4
      have k4 : Kp [s] G3 G4 := hG ▸ kp_upd
      have g4 : G4 s = some (.ins C dx2 (sflds n2 a b2 c2 true)) := by rw [← hG]; exact upd_same
      clear hG
      refine ⟨_, _, rfl, ?_⟩
      refine ⟨_, rfl, s, C, dx2, _, rfl, g4, Z.cl, Z.nM, by show 5 < 1000; decide, ?_⟩
      rw [put_names]
      generalize hG : upd G4 s _ = G5
      have k5 : Kp [s] G4 G5 := hG ▸ kp_upd
      have g5 : G5 s = some (.ins C dx2 (sflds n2 a b c2 true)) := by rw [← hG]; exact upd_same
      clear hG
      refine ⟨_, _, rfl, ?_⟩
      refine ⟨_, rfl, s, C, dx2, _, rfl, g5, Z.cl, Z.nP, by show 5 < 1000; decide, ?_⟩
      rw [put_past]
      generalize hG : upd G5 s _ = G6
      have k6 : Kp [s] G5 G6 := hG ▸ kp_upd
      have g6 : G6 s = some (.ins C dx2 (sflds n2 a b c true)) := by rw [← hG]; exact upd_same
      clear hG
      refine ⟨rfl, ?_⟩
      refine ⟨_, rfl, s, C, dx2, _, rfl, g6, Z.cl, Z.nB, by show 5 < 1000; decide, ?_⟩
      rw [put_busy]
      generalize hG : upd G6 s _ = G7
      have k7 : Kp [s] G6 G7 := hG ▸ kp_upd
      have g7 : G7 s = some (.ins C dx2 (sflds n2 a b c false)) := by rw [← hG]; exact upd_same
      clear hG
      have kA : Kp [s] Gx G7 := (Kp.same s3).trans (k4.trans (k5.trans (k6.trans k7)))
      have kHx : Kp [s] H Gx := kJ.trans ((Kp.same sT).trans (Kp.same sJx))
      have kH7 := kHx.trans kA
      have m2 : Muts C N [s] Gx := fun x hxx => .inr ⟨runD (S.set true) ((ds.map (·.2)).take i), by rw [List.mem_singleton.mp hxx]; exact hx⟩
      have f17 := NmAt.kp m2 kA (f1.same sJx)
      rw [so2, w2] at f17
      have nds : d ∉ [s] := off1 fun z => by rw [z, fx] at ex; cases ex
      refine k d G7 kH7 ⟨dx2, n2, a, b, c, ?_, f17, kH7 _ _ e2 (m.tup e2), FT.kp m kH7 e3, PastAt.kp m kH7 e4⟩ (kA _ _ ex nds)
      rw [bz]
      exact g7
    · have im2 : i < mm := by omega
      have od := run2.at_ (i := i) (d := q.2) (by rw [List.getElem?_take_of_lt im2]; exact hdi)
      rw [tk2 im] at od
      refine .inl ⟨od, fun G3 k3 h3 => ?_⟩
      refine ⟨_, rfl, rfl, _, rfl, ?_⟩
      rw [show (!decide (V.non = V.non)) = false by simp]
      refine iteF ⟨_, _, rfl, kJ.trans ((Kp.same sT).trans k3), ?_, im2⟩
      rw [take_next hdi, runD_snoc]
      exact h3
  · rintro σ J ⟨u, v, rfl, kJ, hJ, im⟩
    rw [List.length_map] at im
    obtain ⟨e, k⟩ := fin.resolve_right fun ⟨d0, cc, fl, v, hd0, _⟩ => by
      have := (List.getElem?_eq_some_iff.mp hd0).1
      rw [List.length_map] at this
      omega
    subst e
    rw [List.take_of_length_le (by rw [List.length_map]; exact Nat.le_refl _)] at run
    rw [List.length_map, List.take_of_length_le (by rw [List.length_map]; exact Nat.le_refl _), runD_set] at hJ
    obtain ⟨ok3, so3, w3, bz3, _⟩ := run.ok ok (by rw [List.length_map]; exact few)
    obtain ⟨dx2, n2, a2, b2, c2, f0, f1, f2, f3, f4⟩ := id hJ.ex
    have f0 : J s = some (.ins C dx2 (sflds n2 a2 b2 c2 true)) := f0
    refine ⟨_, rfl, s, C, dx2, _, _, rfl, f0, Z.cl, Z.nT, sf_texts, _, rfl, s, C, dx2, _, _, rfl, f0, Z.cl, Z.nM, sf_names, _, rfl, s, C, dx2, _, _, rfl, f0, Z.cl, Z.nP, sf_past, _, _, _, rfl, ?_⟩
    refine ⟨_, rfl, _, rfl, _, rfl, by show 3 ≤ sizeLine; decide, fun U nU => ?_⟩
    generalize hG : upd J U _ = G3
    have s3 : Same J G3 := hG ▸ same_new nU
    have eU : G3 U = some (.tup [.ref a2, .ref b2, .ref c2]) := by rw [← hG]; exact upd_same
    clear hG
    have g3 := s3 _ _ f0
    refine ⟨U, _, rfl, .inl (.inl eU), rfl, _, _, rfl, ?_⟩
    refine ⟨_, rfl, s, C, dx2, _, rfl, g3, Z.cl, Z.nT, by show 5 < 1000; decide, ?_⟩
    rw [put_texts]
    generalize hG : upd G3 s _ = G4
    have k4 : Kp [s] G3 G4 := hG ▸ kp_upd
    have g4 : G4 s = some (.ins C dx2 (sflds n2 a2 b2 c2 true)) := by rw [← hG]; exact upd_same
    clear hG
    refine ⟨_, _, rfl, ?_⟩
    refine ⟨_, rfl, s, C, dx2, _, rfl, g4, Z.cl, Z.nM, by show 5 < 1000; decide, ?_⟩
    rw [put_names]
    generalize hG : upd G4 s _ = G5
    have k5 : Kp [s] G4 G5 := hG ▸ kp_upd
    have g5 : G5 s = some (.ins C dx2 (sflds n2 a2 b2 c2 true)) := by rw [← hG]; exact upd_same
    clear hG
    refine ⟨_, _, rfl, ?_⟩
    refine ⟨_, rfl, s, C, dx2, _, rfl, g5, Z.cl, Z.nP, by show 5 < 1000; decide, ?_⟩
    rw [put_past]
    generalize hG : upd G5 s _ = G6
    have k6 : Kp [s] G5 G6 := hG ▸ kp_upd
    have g6 : G6 s = some (.ins C dx2 (sflds n2 a2 b2 c2 true)) := by rw [← hG]; exact upd_same
    clear hG
    refine ⟨rfl, ?_⟩
    refine ⟨_, rfl, s, C, dx2, _, rfl, g6, Z.cl, Z.nB, by show 5 < 1000; decide, ?_⟩
    rw [put_busy]
    generalize hG : upd G6 s _ = G7
    have k7 : Kp [s] G6 G7 := hG ▸ kp_upd
    have g7 : G7 s = some (.ins C dx2 (sflds n2 a2 b2 c2 false)) := by rw [← hG]; exact upd_same
    clear hG
    have kA : Kp [s] J G7 := (Kp.same s3).trans (k4.trans (k5.trans (k6.trans k7)))
    have m2 : Muts C N [s] J := fun x hx => .inr ⟨(runD S (ds.map (·.2))).set true, by rw [List.mem_singleton.mp hx]; exact hJ⟩
    refine k G7 (kJ.trans kA) ⟨dx2, n2, a2, b2, c2, ?_, NmAt.kp m2 kA f1, kA _ _ f2 (m2.tup f2), FT.kp m2 kA f3, PastAt.kp m2 kA f4⟩
    rw [bz3, bz]
    exact g7
end
end Gu
namespace Gu
open PySem PySem.Spec PyProof.Rows L2
section
variable {P : Program} {w : World} {K : PySem.W.Frag} {mg : Str → Option Value} {base : Heap} {C N CT CM CU : Addr}
structure CalDX (P : Program) (w : World) (K : PySem.W.Frag) (mg : Str → Option Value) (base : Heap) (k : Nat) (C : Addr) (ks : List Str) (sp : List V → List V → Hp → VK → XK → Prop) : Prop where
  ex : ∃ f : Addr, Meth K C "do_all" f ∧ FnRK P w K mg base (L2.CX P w) k f ks sp
theorem fnRK_zc {k : Nat} {f : Addr} {ks : List Str} {sp : List V → List V → Hp → VK → XK → Prop} (F : FnRK P w K mg base (L2N.CX P w) k f ks sp) : FnRK P w K mg base (L2.CX P w) k f ks sp := fun A outer s H us ws vs zs Q E hr e0 r rz lz h => by
  refine codeAny_mono (F A outer s H us ws vs zs Q E hr e0 r rz lz h) fun x s1 q => ?_
  cases x with
  | error e => exact cx_zc q
  | ok fl => cases fl <;> exact q
theorem cxUpN : StX.CXUp (L2N.CX P w) := by
  rintro outer s H s2 H2 E e s3 un kp ho ⟨a, B, G, cls, d, ea, fl, hok, ub, na, os, ag, he⟩
  have off : ∀ {b : Addr}, b ∉ ([] : List Addr) := by simp
  refine ⟨a, B, G, cls, d, ea, fl, hok, ⟨fun b o q n m => ub.keep b o (kp b o q) (un.free b o q n off) m, fun b o q m => ub.slot b o (kp b o q) m, fun b o q n => ub.free b o (kp b o q) (un.free b o q n off), fun b o q m => ub.there b o (kp b o q) m, fun b xs q => ub.tups b xs (un.tups b xs q), fun b o xs q => ub.frzs b o xs (un.frzs b o xs q), ?_⟩, na, os.trans ho, ag, he⟩
  intro b ps q
  obtain ⟨l1, q1⟩ := un.tbls b ps q
  obtain ⟨l2, q2⟩ := ub.tbls b _ q1
  exact ⟨l1 ++ l2, q2.trans (by rw [Array.append_assoc])⟩
def spDoAllX (K : PySem.W.Frag) (C N CT CM CU : Addr) : List V → List V → Hp → VK → XK → Prop := fun vs _ H Q E => ∃ (s : Addr) (S : Sf) (ds : List (Addr × Dd)), vs = .ref s :: ds.map (fun q => V.ref q.1) ∧ ds.length ≤ 100 ∧ ShelfAt C N H s S ∧ (∀ q ∈ ds, DAt H q.1 q.2) ∧ (∀ q ∈ ds, q.2.1 ∈ [(("add" : String) : Str), (("remove" : String) : Str)]) ∧ S.ok ∧ S.busy = false ∧ S.past.length + ds.length ≤ 500 ∧
  ((OkRun S (ds.map (·.2)) ∧ ∀ G, Kp [s] H G → ShelfAt C N G s (runD S (ds.map (·.2))) → Q .non G) ∨
   (∃ c f v, BadRun K CT CM CU S (ds.map (·.2)) c f v ∧ ∀ d G, Kp [s] H G → ShelfAt C N G s S → G d = some (.xd [(f, v)]) → E (.ref c) (some d) G))
theorem cal_doAllX (B : Bi mg) (Z : ShlC K mg C) (D : DoAllAt K C) (M_check_not_busy : CalM P w K mg base 1 C "check_not_busy" ps_Shelf_check_not_busy (spCalmS C N)) (C_check_deeds : Cal P w K mg base 3 "check_deeds" ps_check_deeds (spCheckDeeds K)) (MX_do_deed : CalMXN P w K mg base 5 C "do_deed" ps_Shelf_do_deed (spDoDeedX K C N CT CM CU)) : CalDX P w K mg base 6 C [] (spDoAllX K C N CT CM CU) := by
  obtain ⟨f, kD, oc, doc, pm, cdv, ct, od, an, osl, M, lk, hcd, hw⟩ := D.ex
  refine ⟨f, M, fnRK_zc fun A outer s H us ws vs zs Q E hr e0 r rz lz h => ?_⟩
  refine star_own (CX := L2N.CX P w) (sp := spDoAllBX K C N CT CM CU) (dk := .non) (du := .none) cxUpN lk hcd sc_Shelf_do_all hw rfl doall_bind (doAll_bodyX B Z M_check_not_busy C_check_deeds MX_do_deed f cdv) A outer s H us ws vs zs Q E hr e0 r rz lz ?_
  obtain ⟨s, S, ds, rfl, dl, hS, hd, hwd, ok, bz, few, way⟩ := h
  refine ⟨.ref s, _, rfl, Nat.le_of_lt (small1000 (by rw [List.length_map]; omega)), fun p np => ?_⟩
  have sp : Same H (upd H p (.tup (ds.map fun q => V.ref q.1))) := same_new np
  refine ⟨s, p, S, ds, rfl, hS.same sp, upd_same, fun q hq => sp _ _ (hd q hq), hwd, ok, bz, few, ?_⟩
  rcases way with ⟨run, k⟩ | ⟨c, fl, v, bad, k⟩
  · exact .inl ⟨run, fun G kG hG => k G ((Kp.same sp).trans kG) hG⟩
  · exact .inr ⟨c, fl, v, bad, fun d G kG hG e => k d G ((Kp.same sp).trans kG) hG e⟩
end
section
variable {X : Cx} {k j : Nat} {sp : List V → List V → Hp → VK → XK → Prop} {apos pos : Pos} {o e : Expr} {es : List Expr} {t : TA} {ta : TE} {C : Addr} {E : XK} {W : WX}
theorem pe_doAllX (c : CalDX X.prog X.w X.K X.mg X.base k C [] sp) (cl : Cls X.K C) (hr : Room j X.A) (hk : k ≤ j) (tk : Takes X W) (hW : ∀ cls d σ H, E cls d H → W cls d σ H) (he : PE X o ta) (ha : PA X (e :: es) t) {pl : Sem Bool}
    (hst : starEach (e :: es) X.env = (false, eval e X.env) :: starEach es X.env := by rfl) (hpl : (backTo pos (starEach es X.env)).any (·.1) = false := by rfl)
    (ht : eval (.Call (.Attribute o "do_all" apos) (e :: es) [] pos) X.env = (do
      let ov ← eval o X.env
      standAt apos.atName
      let (f, first) ← holding [ov] (getMethod ov "do_all" pl)
      callWith pos f first (backTo pos (starEach (e :: es) X.env)) (backToKw pos (keywordEach [] X.env))) := by rfl) : PE X (.Call (.Attribute o "do_all" apos) (e :: es) [] pos) (tMethRK C "do_all" [] sp E ta t tNil) := by
  obtain ⟨f, M, F⟩ := c.ex
  exact pe_methRK0 he cl M F (hr.mono hk) (passes_call tk hW) ha hst hpl ht
end
end Gu
namespace Gu
open PySem PySem.Spec PyProof.Rows L2 LamX
/-! ### what stands while the pot is used and tables grow -/
def KeepP (p : Addr) (H G : Hp) : Prop := ∀ c o, H c = some o → c ≠ p → (∀ ps, o ≠ .tbl ps) → G c = some o
theorem KeepP.refl (p : Addr) (H : Hp) : KeepP p H H := fun _ _ e _ _ => e
theorem KeepP.trans {p : Addr} {H G J : Hp} (a : KeepP p H G) (b : KeepP p G J) : KeepP p H J := fun c o e n t => b c o (a c o e n t) n t
theorem KeepP.ofSame {p : Addr} {H G : Hp} (a : Same H G) : KeepP p H G := fun c o e _ _ => a c o e
theorem KeepP.ofN {p : Addr} {H G : Hp} (a : SameN H G) : KeepP p H G := fun c o e _ t => a c o e t
theorem KeepP.ofL {p : Addr} {H G : Hp} (a : Ladled p H G) : KeepP p H G := fun c o e n _ => a.keep c o e n
theorem KeepP.tup {p : Addr} {H G : Hp} (k : KeepP p H G) (hp : Pot H p) {a : Addr} {xs : List V} (h : H a = some (.tup xs)) : G a = some (.tup xs) := k _ _ h (fun z => by
  obtain ⟨x, y, w, e⟩ := hp
  rw [← z, h] at e
  cases e) fun _ z => by cases z
theorem KeepP.dict {p : Addr} {H G : Hp} (k : KeepP p H G) (hp : Pot H p) {a : Addr} (h : H a = some (.dK [])) : G a = some (.dK []) := k _ _ h (fun z => by
  obtain ⟨x, y, w, e⟩ := hp
  rw [← z, h] at e
  cases e) fun _ z => by cases z
theorem KeepP.lst {p : Addr} {H G : Hp} (k : KeepP p H G) {a : Addr} (n : a ≠ p) {xs : List V} (h : H a = some (.lst xs)) : G a = some (.lst xs) := k _ _ h n fun _ z => by cases z
theorem KeepP.ins {p : Addr} {H G : Hp} (k : KeepP p H G) (hp : Pot H p) {a C dx : Addr} {fs : List (Str × V)} (h : H a = some (.ins C dx fs)) : G a = some (.ins C dx fs) := k _ _ h (fun z => by
  obtain ⟨x, y, w, e⟩ := hp
  rw [← z, h] at e
  cases e) fun _ z => by cases z
theorem KeepP.lst0 {p : Addr} {H G : Hp} (k : KeepP p H G) (hp : Pot H p) {a : Addr} {xs : List V} (h : H a = some (.lst xs)) (l : xs.length ≠ 3) : G a = some (.lst xs) := k _ _ h (fun z => by
  obtain ⟨x, y, w, e⟩ := hp
  rw [← z, h] at e
  cases e
  exact l rfl) fun _ z => by cases z
theorem tabs_of {T : List (Addr × Str)} {H G : Hp} {p : Addr} (t : Tabs T H) (hp : Pot H p) (L : Ladled p H G) : Tabs T G := by
  obtain ⟨x, y, z, ep⟩ := hp
  refine t.of (fun P ps e => L.keep _ _ e fun q => ?_) (fun c q0 e => L.keep _ _ e fun q => ?_)
  · rw [q, ep] at e
    cases e
  · rw [q, ep] at e
    have z := Option.some.inj e
    unfold CodeO at z
    cases z
theorem sys_of {H G : Hp} {p : Addr} (y : Sys H) (hp : Pot H p) (L : Ladled p H G) : Sys G := by
  obtain ⟨x, y', z, ep⟩ := hp
  obtain ⟨o, u, e⟩ := y
  exact ⟨o, u, L.keep _ _ e fun q => by
    rw [q, ep] at e
    cases e⟩
theorem tabs_upd {T : List (Addr × Str)} {G : Hp} {q : Addr} {xs : List V} {o : HO} (t : Tabs T G) (e : G q = some (.lst xs)) : Tabs T (upd G q o) := by
  refine t.of (fun P ps h1 => ?_) (fun c q0 e2 => ?_)
  · rw [upd_ne fun z => by rw [z, e] at h1; cases h1]
    exact h1
  · rw [upd_ne fun z => by
      rw [z, e] at e2
      have y := Option.some.inj e2
      unfold CodeO at y
      cases y]
    exact e2
section
variable {T : List (Addr × Str)} {p : Addr} {H G J : Hp}
theorem LadT.refl (hp : Pot H p) (t : Tabs T H) (y : Sys H) : LadT T p H H := ⟨hp, fun _ _ e _ _ => e, t, y⟩
theorem LadT.trans (a : LadT T p H G) (b : LadT T p G J) : LadT T p H J := ⟨b.pot, fun c o e n t => b.keep c o (a.keep c o e n t) n t, b.tabs, b.sys⟩
theorem LadT.same (a : LadT T p H G) (s : Same G J) : LadT T p H J := ⟨a.pot.same s, fun c o e n t => s _ _ (a.keep c o e n t), a.tabs.ext s, a.sys.same s⟩
theorem LadT.lad (a : LadT T p H G) (L : Ladled p G J) : LadT T p H J := ⟨L.pot, fun c o e n t => L.keep _ _ (a.keep c o e n t) n, tabs_of a.tabs a.pot L, sys_of a.sys a.pot L⟩
theorem LadT.ext (a : LadT T p H G) (s : ExtN G J) (t : Tabs T J) : LadT T p H J := by
  obtain ⟨x, y, z, e⟩ := a.pot
  exact ⟨⟨x, y, z, s _ _ e fun _ q => by cases q⟩, fun c o e n q => s _ _ (a.keep c o e n q) q, t, SameN.sys s a.sys⟩
/-- what is not known in G was not known in H, but for a table -/
theorem LadT.free (a : LadT T p H G) {q : Addr} (h : G q = none) : q ≠ p ∧ ∀ o, H q = some o → ∃ ps, o = .tbl ps := by
  have n : q ≠ p := a.pot.ne h
  refine ⟨n, fun o e => Classical.byContradiction fun z => ?_⟩
  rw [a.keep q o e n fun ps y => z ⟨ps, y⟩] at h
  cases h
/-- a list that is new since H may change -/
theorem LadT.mut {q : Addr} {xs ys : List V} (a : LadT T p H G) (h : q ≠ p ∧ ∀ o, H q = some o → ∃ ps, o = .tbl ps) (e : G q = some (.lst xs)) : LadT T p H (upd G q (.lst ys)) := by
  obtain ⟨n, h⟩ := h
  refine ⟨?_, fun c o e1 nc nt => ?_, tabs_upd a.tabs e, ?_⟩
  · obtain ⟨x, y, z, ep⟩ := a.pot
    exact ⟨x, y, z, by rw [upd_ne (Ne.symm n)]; exact ep⟩
  · rw [upd_ne fun z => by
      obtain ⟨ps, y⟩ := h o (by rw [← z]; exact e1)
      exact nt ps y]
    exact a.keep c o e1 nc nt
  · obtain ⟨o, u, ey⟩ := a.sys
    exact ⟨o, u, by rw [upd_ne fun z => by rw [z, e] at ey; cases ey]; exact ey⟩
end
/-! ### Shortener by keywords, refused -/
def revK {α : Type} (a b : List α) : List α := a ++ b.reverse
theorem valsK : ∀ {zs : List V} {ws : List Value}, Vals zs ws → Vals zs.reverse ws.reverse
  | [], _, r => by
    cases r
    exact .nil
  | z :: zs, _, r => by
    cases r with
    | cons a r =>
      rw [List.reverse_cons, List.reverse_cons]
      exact (valsK r).append (.cons a .nil)
structure MakXK (P : Program) (w : World) (K : PySem.W.Frag) (mg : Str → Option Value) (base : Heap) (k : Nat) (x : Str) (C : Addr) (ks : List Str) (gV : List V → List V → List V) (sp : Sp) : Prop where
  ex : ∃ (f : Addr) (fd : FuncData) (ps : List Str) (g : List Value → List Value → List Value), Mk K C f ∧ FnOk P w K mg base (L2.CX P w) k f fd ps sp ∧ mg x = some (.ref C) ∧ KBn K fd ps 1 ks g gV
theorem pe_newXK {X : Cx} {k j : Nat} {x : Str} {C : Addr} {ks : List Str} {gV : List V → List V → List V} {sp : Sp} {E : XK} {W : WX} {p pos : Pos} {kws : List Keyword} {tk : TA} (c : MakXK X.prog X.w X.K X.mg X.base k x C ks gV sp) (hr : Room j X.A) (hk : k + 1 ≤ j) (ty : Takes X W) (hW : ∀ cls d σ H, E cls d H → W cls d σ H) (hg : Gl X x) (hkw : PK X kws tk)
    (hall : (backToKw pos (keywordEach kws X.env)).all (·.1.isSome) = true := by rfl) (hks : (backToKw pos (keywordEach kws X.env)).filterMap (·.1) = ks := by rfl) (hdb : (x == ("__debug__" : Str)) = false := by decide)
    (hpl : ((backTo pos (starEach [] X.env)).any (·.1) || (backToKw pos (keywordEach kws X.env)).any (·.1.isNone)) = false := by rfl) : PE X (.Call (.Name x p) [] kws pos) (tMakeK C 0 ks.length sp gV E tNil tk) := by
  obtain ⟨f, fd, ps, g, M, F, hm, b⟩ := c.ex
  exact pe_makeK0 M F (hr.mono hk) hg hm b (passes_call ty hW) hkw hall hks hdb hpl
end Gu
namespace Gu
open PySem PySem.Spec PyProof.Rows L2
/-! ### things that are no numbers, no texts, no tuples -/
section
variable {K : PySem.W.Frag} {G : Hp} {m : Int} {a : Addr} {xs : List V}
theorem isa_non {T : String} {b : Bool} (h : PySem.W.kitOne K (.type "NoneType") (.type T) = some b) : Isa K G .non T b := ⟨_, .base .non, h⟩
theorem isa_bl {T : String} {b : Bool} {x : Bool} (h : PySem.W.kitOne K (.type "bool") (.type T) = some b) : Isa K G (.bl x) T b := ⟨_, .base (.bl x), h⟩
theorem isa_int {T : String} {b : Bool} {x : Int} (h : PySem.W.kitOne K (.type "int") (.type T) = some b) : Isa K G (.int x) T b := ⟨_, .base (.int x), h⟩
theorem isa_str {T : String} {b : Bool} {x : Str} (h : PySem.W.kitOne K (.type "str") (.type T) = some b) : Isa K G (.str x) T b := ⟨_, .base (.str x), h⟩
theorem isa_tup {T : String} {b : Bool} (e : G a = some (.tup xs)) (h : PySem.W.kitOne K (.type "tuple") (.type T) = some b) : Isa K G (.ref a) T b := ⟨_, .base (.tup e), h⟩
theorem isa_lst {T : String} {b : Bool} (e : G a = some (.lst xs)) (h : PySem.W.kitOne K (.type "list") (.type T) = some b) : Isa K G (.ref a) T b := ⟨_, .base (.lst e), h⟩
theorem isa_dict {T : String} {b : Bool} (e : G a = some (.dK [])) (h : PySem.W.kitOne K (.type "dict") (.type T) = some b) : Isa K G (.ref a) T b := ⟨_, .base (.dK e), h⟩
theorem nn_non : NoNum K G m .non := .inr (.inl (isa_non (kit_ty (by decide +kernel))))
theorem nn_str {z : Str} : NoNum K G m (.str z) := .inr (.inl (isa_str (kit_ty (by decide +kernel))))
theorem nn_bl {b : Bool} : NoNum K G m (.bl b) := .inr (.inr ⟨isa_bl (kit_ty (by decide +kernel)), isa_bl (kit_ty (by decide +kernel))⟩)
theorem nn_int {i : Int} (h : ¬ (0 ≤ i ∧ i ≤ m)) : NoNum K G m (.int i) := .inl ⟨i, rfl, h⟩
theorem nn_tup (e : G a = some (.tup xs)) : NoNum K G m (.ref a) := .inr (.inl (isa_tup e (kit_ty (by decide +kernel))))
theorem nn_lst (e : G a = some (.lst xs)) : NoNum K G m (.ref a) := .inr (.inl (isa_lst e (kit_ty (by decide +kernel))))
theorem nn_dict (e : G a = some (.dK [])) : NoNum K G m (.ref a) := .inr (.inl (isa_dict e (kit_ty (by decide +kernel))))
theorem nt_non : NoTxt K G m .non := .inl (isa_non (kit_ty (by decide +kernel)))
theorem nt_bl {b : Bool} : NoTxt K G m (.bl b) := .inl (isa_bl (kit_ty (by decide +kernel)))
theorem nt_int {i : Int} : NoTxt K G m (.int i) := .inl (isa_int (kit_ty (by decide +kernel)))
theorem nt_str {z : Str} (l : z.length ≤ 1000) (h : isTxt z m = false) : NoTxt K G m (.str z) := .inr ⟨z, rfl, l, h⟩
theorem nt_tup (e : G a = some (.tup xs)) : NoTxt K G m (.ref a) := .inl (isa_tup e (kit_ty (by decide +kernel)))
theorem nt_lst (e : G a = some (.lst xs)) : NoTxt K G m (.ref a) := .inl (isa_lst e (kit_ty (by decide +kernel)))
theorem nt_dict (e : G a = some (.dK [])) : NoTxt K G m (.ref a) := .inl (isa_dict e (kit_ty (by decide +kernel)))
/-- a thing that can be written out, and of which R holds, wherever only the pot and tables have changed -/
def Thing (K : PySem.W.Frag) (p : Addr) (H : Hp) (v : V) (d : PyData) (R : Hp → V → Prop) : Prop := FineE 2 400 d ∧ ∀ G, KeepP p H G → DpE K G v d ∧ R G v
theorem Thing.at {p : Addr} {H J : Hp} {v : V} {d : PyData} {R : Hp → V → Prop} (h : Thing K p H v d R) (k : KeepP p H J) : Thing K p J v d R := ⟨h.1, fun G z => h.2 G (k.trans z)⟩
variable {p : Addr} {H : Hp} {R : Hp → V → Prop}
theorem th_non (r : ∀ G, R G .non) : ∃ d, Thing K p H .non d R := ⟨.none, Fine.none.e.mono (by decide) (by decide), fun G _ => ⟨.non, r G⟩⟩
theorem th_bl {b : Bool} (r : ∀ G, R G (.bl b)) : ∃ d, Thing K p H (.bl b) d R := ⟨.bool b, (Fine.bool b).e.mono (by decide) (by decide), fun G _ => ⟨.bl b, r G⟩⟩
theorem th_int {i : Int} (h : i.natAbs < 2 ^ 70) (r : ∀ G, R G (.int i)) : ∃ d, Thing K p H (.int i) d R := ⟨.int i, (Fine.int h).e.mono (by decide) (by decide), fun G _ => ⟨.int i, r G⟩⟩
theorem th_str {z : Str} (h : ∀ c ∈ z.cps.toList, c < 16 ^ 8) (l : z.cps.toList.length ≤ 400) (r : ∀ G, R G (.str z)) : ∃ d, Thing K p H (.str z) d R := ⟨.str z, (Fine.str h l).e.mono (by decide) (Nat.le_refl _), fun G _ => ⟨.str z, r G⟩⟩
theorem th_dict {a : Addr} (hp : Pot H p) (e : H a = some (.dK [])) (r : ∀ G, G a = some (.dK []) → R G (.ref a)) : ∃ d, Thing K p H (.ref a) d R := ⟨.dict [], FineE.dict0.mono (by decide) (by decide), fun G k => ⟨.dict (k.dict hp e), r G (k.dict hp e)⟩⟩
theorem th_tup {a : Addr} {xs : List V} {ds : List PyData} (hp : Pot H p) (e : H a = some (.tup xs)) (f : FineE 2 400 (.tuple ds)) (all : ∀ G, KeepP p H G → DpEs K G xs ds) (r : ∀ G, G a = some (.tup xs) → R G (.ref a)) : ∃ d, Thing K p H (.ref a) d R := ⟨.tuple ds, f, fun G k => ⟨.tup (.inl (.inl (k.tup hp e))) (all G k), r G (k.tup hp e)⟩⟩
theorem th_lst {a : Addr} {xs : List V} {ds : List PyData} (n : a ≠ p) (e : H a = some (.lst xs)) (f : FineE 2 400 (.list ds)) (all : ∀ G, KeepP p H G → DpEs K G xs ds) (r : ∀ G, G a = some (.lst xs) → R G (.ref a)) : ∃ d, Thing K p H (.ref a) d R := ⟨.list ds, f, fun G k => ⟨.lst (k.lst n e) (all G k), r G (k.lst n e)⟩⟩
end
end Gu
namespace Gu
open PySem PySem.Spec PyProof.Rows L2
/-! data are equal to themselves -/
mutual
theorem eqv_self : ∀ d : PyData, d.canLay0 = true → PyData.eqv d d = true
  | .none, _ => rfl
  | .bool b, _ => by simp [PyData.eqv]
  | .int i, _ => by simp [PyData.eqv]
  | .str x, _ => by simp [PyData.eqv]
  | .list xs, h => by
    rw [PyData.eqv]
    exact eqv_selfs xs (by simpa [PyData.canLay0] using h)
  | .tuple xs, h => by
    rw [PyData.eqv]
    exact eqv_selfs xs (by simpa [PyData.canLay0] using h)
  | .dict _, h => by simp [PyData.canLay0] at h
theorem eqv_selfs : ∀ xs : List PyData, PyData.canLayAll0 xs = true → PyData.eqvAll xs xs = true
  | [], _ => rfl
  | x :: xs, h => by
    have h2 : x.canLay0 = true ∧ PyData.canLayAll0 xs = true := by simpa [PyData.canLayAll0] using h
    rw [PyData.eqvAll, eqv_self x h2.1, eqv_selfs xs h2.2]
    rfl
end
end Gu
namespace Gu
open PySem PySem.Spec PyProof.Rows L2 LamX
/-! ### what has been seen, one answer after the other -/
theorem LadT.kp {T : List (Addr × Str)} {p : Addr} {H G : Hp} (a : LadT T p H G) : KeepP p H G := a.keep
theorem LadT.here {T : List (Addr × Str)} {p : Addr} {H G : Hp} (a : LadT T p H G) : LadT T p G G := .refl a.pot a.tabs a.sys
theorem pot_neS {H : Hp} {p q : Addr} {z : Str} {xs : List V} (h : Pot H p) (e : H q = some (.lst (.str z :: xs))) : q ≠ p := fun y => by
  obtain ⟨a, b, c, f⟩ := h
  rw [← y, e] at f
  cases f
structure SeenAt (p : Addr) (H : Hp) (S : Addr) (qs : List (Addr × Str × V)) : Prop where
  ls : H S = some (.lst (qs.map fun q => V.ref q.1))
  ne : S ≠ p
  el : ∀ q ∈ qs, H q.1 = some (.lst [.str q.2.1, q.2.2, .bl true]) ∧ q.1 ≠ S
theorem SeenAt.keep {p S : Addr} {H G : Hp} {qs : List (Addr × Str × V)} (h : SeenAt p H S qs) (hp : Pot H p) (k : KeepP p H G) : SeenAt p G S qs := ⟨k.lst h.ne h.ls, h.ne, fun q hq => ⟨k.lst (pot_neS hp (h.el q hq).1) (h.el q hq).1, (h.el q hq).2⟩⟩
theorem SeenAt.first {p S q : Addr} {H : Hp} {N : Str} {v : V} (hp : Pot H p) (nS : H S = none) (e : H q = some (.lst [.str N, v, .bl true])) : SeenAt p (upd H S (.lst [.ref q])) S [(q, N, v)] := by
  refine ⟨upd_same, hp.ne nS, fun r hr => ?_⟩
  rw [List.mem_singleton.mp hr]
  exact ⟨by rw [upd_ne (ne_of_none e nS)]; exact e, ne_of_none e nS⟩
theorem SeenAt.none {p S : Addr} {H : Hp} (hp : Pot H p) (nS : H S = none) : SeenAt p (upd H S (.lst [])) S [] := ⟨upd_same, hp.ne nS, fun r hr => by cases hr⟩
section
variable {T : List (Addr × Str)} {p S q : Addr} {H J : Hp} {qs : List (Addr × Str × V)} {N : Str} {v : V}
/-- S.append(q), q new -/
theorem SeenAt.more (h : SeenAt p J S qs) (e : J q = some (.lst [.str N, v, .bl true])) (n : q ≠ S) : SeenAt p (upd J S (.lst ((qs.map fun q => V.ref q.1) ++ [.ref q]))) S (qs ++ [(q, N, v)]) := by
  refine ⟨by rw [upd_same, List.map_append]; rfl, h.ne, fun r hr => ?_⟩
  rcases List.mem_append.mp hr with hr | hr
  · exact ⟨by rw [upd_ne (h.el r hr).2]; exact (h.el r hr).1, (h.el r hr).2⟩
  · rw [List.mem_singleton.mp hr]
    exact ⟨by rw [upd_ne n]; exact e, n⟩
end
/-- the items of a list are things -/
theorem seen_data {K : PySem.W.Frag} {p S : Addr} {H : Hp} {qs : List (Addr × Str × V)} (h : SeenAt p H S qs) {ds : List PyData} (all : DpEs K H (qs.map (·.2.2)) ds) : DpE K H (.ref S) (.list ((qs.zip ds).map fun x => .list [.str x.1.2.1, x.2, .bool true])) := by
  refine .lst h.ls ?_
  have go : ∀ (qs : List (Addr × Str × V)) (ds : List PyData), (∀ q ∈ qs, H q.1 = some (.lst [.str q.2.1, q.2.2, .bl true])) → DpEs K H (qs.map (·.2.2)) ds → DpEs K H (qs.map fun q => V.ref q.1) ((qs.zip ds).map fun x => .list [.str x.1.2.1, x.2, .bool true]) := by
    intro qs
    induction qs with
    | nil => exact fun _ _ _ => .nil
    | cons q qs ih =>
      intro ds e a
      cases a with
      | cons a1 a2 => exact .cons (.lst (e q (List.mem_cons_self ..)) (.cons (.str _) (.cons a1 (.cons (.bl true) .nil)))) (ih _ (fun r hr => e r (List.mem_cons_of_mem _ hr)) a2)
  exact go qs ds (fun q hq => (h.el q hq).1) all
/-- a short word -/
def isTxt20 (N : Str) : Bool := decide (N.cps.toList.length ≤ 20) && N.cps.toList.all fun c => decide (c < 128)
theorem word_fine {N : Str} (h : isTxt20 N = true) : FineE 2 400 (.str N) := by
  unfold isTxt20 at h
  rw [Bool.and_eq_true, List.all_eq_true] at h
  have l := of_decide_eq_true h.1
  exact (Fine.str (W := 400) (fun c hc => Nat.lt_of_lt_of_le (of_decide_eq_true (h.2 c hc)) (by decide)) (by omega)).e.mono (by decide) (Nat.le_refl _)
/-- an answer written out -/
def said (N : Str) (d : PyData) : PyData := .list [.str N, d, .bool true]
theorem said_fine {N : Str} {d : PyData} (h : FineE 2 400 d) (n : isTxt20 N = true) : FineE 3 1300 (said N d) := by
  have a : FineEs 2 400 [.str N, d, .bool true] := .of fun e he => by
    simp only [List.mem_cons, List.not_mem_nil, or_false] at he
    rcases he with rfl | rfl | rfl
    · exact word_fine n
    · exact h
    · exact (Fine.bool true).e.mono (by decide) (by decide)
  exact a.list.mono (Nat.le_refl _) (by show 3 * 401 ≤ 1300; decide)
theorem all_said {l : List PyData} (h : ∀ d ∈ l, FineE 3 1300 d) (n : l.length ≤ 60) : FineE 60 100000 (.list l) := by
  refine (FineEs.of h).list.mono (by decide) ?_
  have := Nat.mul_le_mul_right 1301 n
  omega
end Gu
namespace Gu
open PySem PySem.Spec PyProof.Rows L2
/-! ### Namers refused, compared, written out -/
section
variable {P : Program} {w : World} {K : PySem.W.Frag} {mg : Str → Option Value} {base : Heap} {C U CR CW : Addr}
/-- no word for a rule -/
def NoRule (K : PySem.W.Frag) (H : Hp) (v : V) : Prop := Isa K H v "str" false ∨ ∃ z : Str, v = .str z ∧ z ∉ sorts
/-- no width -/
def NoWid (K : PySem.W.Frag) (H : Hp) (v : V) : Prop := (∃ i : Int, v = .int i ∧ ¬ (6 ≤ i ∧ i ≤ 40)) ∨ Isa K H v "int" false ∨ (Isa K H v "int" true ∧ Isa K H v "bool" true)
def spNInitX (K : PySem.W.Frag) (C CR CW : Addr) : Sp := fun vs H _ E => ∃ (x dx : Addr) (r w : V), vs = [.ref x, r, w] ∧ H x = some (.ins C dx []) ∧
  ((NoRule K H r ∧ Raised CR "value" r H E) ∨ (∃ so ∈ sorts, r = .str so ∧ NoWid K H w ∧ Raised CW "value" w H E))
theorem ok_ninitX {f : Addr} {fd : FuncData} (B : Bi mg) (S : NmC K mg C) (F : Fun K "__init__" "Namer.__init__" s_Namer_init f fd) (T_InvalidRule : ErrK K mg bVE U "InvalidRule" CR) (S_InvalidRule : ErrF K "InvalidRule" "value" CR) (T_InvalidWidth : ErrK K mg bVE U "InvalidWidth" CW) (S_InvalidWidth : ErrF K "InvalidWidth" "value" CW) (C_is_integer : Cal P w K mg base 1 "is_integer" ps_is_integer (spIsInteger K)) : FnOk P w K mg base (L2.CX P w) 2 f fd ps_Namer_init (spNInitX K C CR CW) := by
  refine F.okX sc_Namer_init (fun vs H Q E h => ?_) (fun cdv A outer s H vs Q E hr h => ?_)
  · obtain ⟨x, dx, r, w, rfl, _⟩ := h
    rfl
  · obtain ⟨x, dx, r, w, rfl, hx, way⟩ := h
    obtain ⟨T, gT, hT⟩ := S.rules
    refine ⟨_, (pss_cons (ps_if (PW.pt (pw_or (pt_not (pt_val (pe_callB call_isi (by rfl) B.isinstance (by decide +kernel) (pa_cons (pv 1) (pa_cons (pe_bltn (v := .ty "str") (by rfl) B.str (by decide +kernel) rfl) pa_nil))))) (pw_or1 (pt_cmpR op_notIn_seq (pv 1) (pe_glob (v := .ref T) (by rfl) gT rfl) (by rfl))))) (pss_one (ps_raiseE T_InvalidRule S_InvalidRule rfl hr (takes_of rfl rfl rfl rfl) (pa_cons (pv 1) pa_nil) (by rfl))) pss_nil)
      (pss_cons (ps_if (pt_not (pt_val (pe_own C_is_integer hr (by decide) (by rfl) (pa_cons (pv 2) (pa_cons (pe_cst B.LEAST_WIDTH (by rfl)) (pa_cons (pe_cst B.MOST_SIGNS (by rfl)) pa_nil)))))) (pss_one (ps_raiseE T_InvalidWidth S_InvalidWidth rfl hr (takes_of rfl rfl rfl rfl) (pa_cons (pv 2) pa_nil) (by rfl))) pss_nil)
      (pss_cons (ps_fld (pv 0) (pv 1) rfl)
      (pss_one (ps_fld (pv 0) (pv 2) rfl))))), ?_⟩
    rcases way with ⟨⟨t, i1, i2⟩ | ⟨z, rfl, nz⟩, k⟩ | ⟨so, hso, rfl, n, k⟩
    · exact ⟨_, rfl, _, _, t, _, false, rfl, .ty _, i1, i2, _, rfl, iteT (iteT ⟨_, rfl, r, rfl, fun d nd => k d _ (same_new nd) upd_same⟩)⟩
    · obtain ⟨t, i1, i2⟩ := Isa.str_str (K := K) (H := H) (z := z)
      refine ⟨_, rfl, _, _, t, _, true, rfl, .ty _, i1, i2, _, rfl, iteF ?_⟩
      refine ⟨_, rfl, T, _, rfl, .inr (hT H), rfl, flat_strs sorts, _, rfl, ?_⟩
      rw [in_strs z sorts, decide_eq_false nz]
      exact iteT ⟨_, rfl, .str z, rfl, fun d nd => k d _ (same_new nd) upd_same⟩
    · obtain ⟨t, i1, i2⟩ := Isa.str_str (K := K) (H := H) (z := so)
      refine ⟨_, rfl, _, _, t, _, true, rfl, .ty _, i1, i2, _, rfl, iteF ?_⟩
      refine ⟨_, rfl, T, _, rfl, .inr (hT H), rfl, flat_strs sorts, _, rfl, ?_⟩
      rw [in_strs so sorts, decide_eq_true hso]
      refine iteF ?_
      rcases n with ⟨i, rfl, hi⟩ | h | ⟨h1, h2⟩
      · refine ⟨_, rfl, _, _, _, rfl, .inl ⟨i, rfl, _, rfl, ?_⟩⟩
        rw [decide_eq_false hi]
        exact iteT ⟨_, rfl, _, rfl, fun d nd => k d _ (same_new nd) upd_same⟩
      · exact ⟨_, rfl, _, _, _, rfl, .inr (.inl ⟨h, _, rfl, iteT ⟨_, rfl, w, rfl, fun d nd => k d _ (same_new nd) upd_same⟩⟩)⟩
      · exact ⟨_, rfl, _, _, _, rfl, .inr (.inr ⟨h1, h2, _, rfl, iteT ⟨_, rfl, w, rfl, fun d nd => k d _ (same_new nd) upd_same⟩⟩)⟩
theorem mak_nmX (B : Bi mg) (S : NmC K mg C) (D : NInitAt K C) (T_InvalidRule : ErrK K mg bVE U "InvalidRule" CR) (S_InvalidRule : ErrF K "InvalidRule" "value" CR) (T_InvalidWidth : ErrK K mg bVE U "InvalidWidth" CW) (S_InvalidWidth : ErrF K "InvalidWidth" "value" CW) (C_is_integer : Cal P w K mg base 1 "is_integer" ps_is_integer (spIsInteger K)) : MakX P w K mg base 2 "Namer" C (spNInitX K C CR CW) := by
  obtain ⟨f, fd, M, F, b⟩ := D.ex
  exact ⟨f, fd, ps_Namer_init, M, ok_ninitX B S F T_InvalidRule S_InvalidRule T_InvalidWidth S_InvalidWidth C_is_integer, S.g, b⟩
/-! ### _law_is -/
def spIs (K : PySem.W.Frag) : Sp := fun vs H Q _ => ∃ (a b : Addr) (d : PyData), vs = [.ref a, .ref b] ∧ Sys H ∧ DpE K H (.ref a) d ∧ DpE K H (.ref b) d ∧ FineE 60 100000 d ∧ Q (.bl true) H
theorem cal_is (B : Bi mg) (D : At K mg "_law_is" s_law_is ps_law_is) : CalG P w K mg base 1 "_law_is" ps_law_is (spIs K) := by
  refine D.calG sc_law_is (fun vs H Q E h => ?_) (fun f cdv A outer s H vs Q E hr quiet h => ?_)
  · obtain ⟨a, b, d, rfl, _⟩ := h
    rfl
  · obtain ⟨a, b, d, rfl, hY, da, db, fd, k⟩ := h
    refine ⟨_, (pss_one (ps_ret (pe_cmpR op_eq (pe_callB (call_reprE quiet hr.units) (by rfl) B.repr (by decide +kernel) (pa_cons (pv 0) pa_nil)) (pe_callB (call_reprE quiet hr.units) (by rfl) B.repr (by decide +kernel) (pa_cons (pv 1) pa_nil)) (nomark _)))), ?_⟩
    refine ⟨_, rfl, a, d, rfl, hY, da, fd, _, rfl, b, d, rfl, hY, db, fd, rfl, ?_⟩
    rw [decide_eq_true rfl]
    exact k
/-! ### ==, repr -/
def spEqN (K : PySem.W.Frag) (C : Addr) : Sp := fun vs H Q _ => ∃ (a : Addr) (so : Str) (w : Int) (y : V), vs = [.ref a, y] ∧ NmAt C H a so w ∧
  ((∃ (b : Addr) (sp : Str) (v : Int), y = .ref b ∧ NmAt C H b sp v ∧ Q (.bl (decide (so = sp ∧ w = v))) H) ∨ (∃ t, TyX K H y t ∧ PySem.W.kitOne K t (.ref C) = some false ∧ Q (.bl false) H))
theorem ok_eqN {f : Addr} {fd : FuncData} (B : Bi mg) (S : NmC K mg C) (F : Fun K "__eq__" "Namer.__eq__" s_Namer_eq f fd) : FnOk P w K mg base CX0 1 f fd ps_Namer_eq (spEqN K C) := by
  refine F.ok sc_Namer_eq (fun vs H Q E h => ?_) (fun cdv A outer s H vs Q E hr h => ?_)
  · obtain ⟨a, so, w, y, rfl, _⟩ := h
    rfl
  · obtain ⟨a, so, w, y, rfl, ⟨dx, e1⟩, h⟩ := h
    refine ⟨_, (pss_one (ps_ret (pe_and (pe_callB call_isi (by rfl) B.isinstance (by decide +kernel) (pa_cons (pv 1) (pa_cons (pe_glob (v := .ref C) (by rfl) S.g rfl) pa_nil))) (pe_and (pe_cmpR op_eq (pe_fld (pv 0) rfl) (pe_fld (pv 1) rfl) (nomark _)) (pe_one (pe_cmpR op_eq (pe_fld (pv 0) rfl) (pe_fld (pv 1) rfl) (nomark _))))))), ?_⟩
    rcases h with ⟨b, sp, v, rfl, ⟨dy, e2⟩, k⟩ | ⟨t, ty, kt, k⟩
    · refine ⟨_, rfl, _, _, _, _, true, rfl, .own C, .base (.ins e2 S.cl S.ha S.hn S.ht S.hm), S.kk, _, rfl, iteT ?_⟩
      refine ⟨_, rfl, a, C, dx, _, _, rfl, e1, S.cl, S.nR, nflds_rule _ _, _, rfl, b, C, dy, _, _, rfl, e2, S.cl, S.nR, nflds_rule _ _, rfl, _, rfl, ?_⟩
      by_cases h1 : so = sp
      · rw [if_pos (decide_eq_true (by rw [h1]))]
        refine ⟨_, rfl, a, C, dx, _, _, rfl, e1, S.cl, S.nW, nflds_width _ _, _, rfl, b, C, dy, _, _, rfl, e2, S.cl, S.nW, nflds_width _ _, rfl, ?_⟩
        have e : decide (V.int w = V.int v) = decide (so = sp ∧ w = v) := by
          by_cases h2 : w = v
          · rw [decide_eq_true (by rw [h2]), decide_eq_true ⟨h1, h2⟩]
          · rw [decide_eq_false (fun z => h2 (V.int.inj z)), decide_eq_false fun z => h2 z.2]
        rw [e]
        exact k
      · rw [if_neg (by rw [decide_eq_false (fun z => h1 (V.str.inj z))]; decide)]
        rw [decide_eq_false fun z => h1 z.1] at k
        exact k
    · exact ⟨_, rfl, _, _, t, _, false, rfl, .own C, ty, kt, _, rfl, iteF k⟩
def nline (so : Str) (w : Int) : Str := Str.empty ++ (("Namer(" : String) : Str) ++ so ++ ((", " : String) : Str) ++ ((toString w : String) : Str) ++ ((")" : String) : Str)
def spReprN (C : Addr) : Sp := fun vs H Q _ => ∃ (a : Addr) (so : Str) (w : Int), vs = [.ref a] ∧ NmAt C H a so w ∧ so ∈ sorts ∧ 6 ≤ w ∧ w ≤ 40 ∧ Q (.str (nline so w)) H
theorem wid_len {w : Int} (h0 : 6 ≤ w) (h1 : w ≤ 40) : ((toString w : String) : Str).length ≤ 7 := by
  have l : w.natAbs.log2 < 6 := PySem.Flt.log2_lt_of (by decide) (show w.natAbs < 2 ^ 6 by omega)
  have e := int_text_length_le (a := w) (k := 6) (by decide) l
  show (Str.ofString (toString w)).length ≤ 7
  rw [PySem.ofString_length]
  exact e
theorem nsort_len {so : Str} (h : so ∈ sorts) : so.length ≤ 5 := by
  have a : ∀ s ∈ sorts, s.length ≤ 5 := by decide +kernel
  exact a so h
theorem napp_len (a b : Str) : (a ++ b).length = a.length + b.length := by
  show (a ++ b).cps.toList.length = a.cps.toList.length + b.cps.toList.length
  rw [str_app, List.length_append]
theorem ok_reprN {f : Addr} {fd : FuncData} (B : Bi mg) (S : NmC K mg C) (F : Fun K "__repr__" "Namer.__repr__" s_Namer_repr f fd) : FnOk P w K mg base CX0 1 f fd ps_Namer_repr (spReprN C) := by
  refine F.ok sc_Namer_repr (fun vs H Q E h => ?_) (fun cdv A outer s H vs Q E hr h => ?_)
  · obtain ⟨a, so, w, rfl, _⟩ := h
    rfl
  · obtain ⟨a, so, w, rfl, ⟨dx, e1⟩, hso, w0, w1, k⟩ := h
    have n1 := nsort_len hso
    have n2 := wid_len w0 w1
    have l1 : (("Namer(" : String) : Str).length = 6 := by decide +kernel
    have l2 : ((", " : String) : Str).length = 2 := by decide +kernel
    have l3 : ((")" : String) : Str).length = 1 := by decide +kernel
    have l5 : (Str.empty).length = 0 := rfl
    have big : ∀ n : Nat, n ≤ 200 → n ≤ sizeLine := fun n h => Nat.le_of_lt (small1000 (by omega))
    have lg : w.natAbs.log2 < 1920 := Nat.lt_of_lt_of_le (PySem.Flt.log2_lt_of (k := 6) (by decide) (show w.natAbs < 2 ^ 6 by omega)) (by decide)
    refine ⟨_, (pss_one (ps_ret (pe_joined (.cons pe_str (.cons (pe_fmt (pe_fld (pv 0) rfl)) (.cons pe_str (.cons (pe_fmt (pe_fld (pv 0) rfl)) (.cons pe_str .nil)))))))), ?_⟩
    refine ⟨_, rfl, big _ ?_, _, rfl, a, C, dx, _, _, rfl, e1, S.cl, S.nR, nflds_rule _ _, .inl ⟨_, rfl, big _ (by omega), _, rfl, big _ ?_, _, rfl, big _ ?_, _, rfl, a, C, dx, _, _, rfl, e1, S.cl, S.nW, nflds_width _ _, .inr ⟨_, rfl, lg, _, rfl, big _ ?_, _, rfl, big _ ?_, k⟩⟩⟩
    all_goals
      simp only [napp_len]
      have m1 : (Str.ofString (toString w)).length ≤ 7 := n2
      omega
end
end Gu
namespace Gu
open PySem PySem.Spec PyProof.Rows L2 LamX
/-! ### what _law_tried makes of what it is handed -/
def Tried (c : Nat → Addr) (Q : VK) : XK := fun cls d G => (cls = .ref (c 2) ∧ ∃ (dd : Addr) (v : V), d = some dd ∧ G dd = some (.xd [("value", v)]) ∧ ∀ p J, Same G J → J p = some (.tup [.str "text", v]) → Q (.ref p) J) ∨ (cls = .ref (c 16) ∧ ∃ (dd : Addr) (v : V), d = some dd ∧ G dd = some (.xd [("value", v)]) ∧ ∀ p J, Same G J → J p = some (.tup [.str "unknown", v]) → Q (.ref p) J)
def TTried (c : Nat → Addr) : (XK → Hp → VK → Prop) → Hp → VK → Prop := fun tl H Q => ∃ (E1 : XK) (Q1 : VK), tl E1 H Q1 ∧ (∀ cls d G, E1 cls d G → Tried c Q cls d G) ∧ ∀ v G, Q1 v G → ∀ p J, Same G J → J p = some (.tup [.str "told", v]) → Q (.ref p) J
abbrev spRefs (c : Nat → Addr) : Addr × Obj → Sp := fun e vs H Q E => spRef2 c e vs H Q E ∨ (spRef16 c e vs H Q E)
set_option maxHeartbeats 4000000 in
theorem tried_gives {X : Cx} {q : QN} {g : Addr} {c u : Nat → Addr} {cdg : Value} (A : ErrAll X.K X.mg c u) (hr : Room 2 X.A) (CE : CalE X.prog X.w X.K X.mg X.base 1 "_law_refusal" ps_law_refusal (spRefs c)) :
    GivesTo X ["_law_act", "_law_told", "_law_e"] "_law_tried" (defScope s_law_tried) g cdg (defBody s_law_tried) "_law_act" q (TTried c) := by
  intro f c' s H Q tl act hc h
  refine ⟨_, pss_cons (ps_try_manyA (i := 2) (tb := fun W D σ H => ∃ Ech : XK, (∀ cls d σ1 G, Ech cls d G → W cls d σ1 G) ∧ σ[0]? = some (some (.ref f)) ∧ H c' = some (CodeO c' q) ∧ ∃ Q1 : VK, tl Ech H Q1 ∧ ∀ v G, Q1 v G → D.nx (σ.set 1 (some v)) G) (Wout := fun _ _ _ _ => False) rfl rfl sc_law_tried.nd rfl rfl L2.takes0
      (fun W pn xe tk _ => ⟨fun pins s1 σ G D I h1 => by
        obtain ⟨Ech, hW, h2, h3, Q1, h4, h5⟩ := h1
        exact (pss_one (ps_set (i := 1) sc_law_tried.nd rfl (.inl rfl) (pe_mid (act W pn xe Ech _ _ tk hW)))).run pins s1 σ G D I ⟨Q1, ⟨h2, h3, h4⟩, h5⟩⟩)
      (.cons (htest_tup3 ⟨rfl, by decide, .inl (show X.mg "InputError" = some (.ref (u 0)) from (A.up 0 (by decide)).g)⟩ ⟨rfl, by decide, .inl (show X.mg "StateError" = some (.ref (u 1)) from (A.up 1 (by decide)).g)⟩ ⟨rfl, by decide, .inl (show X.mg "SizeError" = some (.ref (u 2)) from (A.up 2 (by decide)).g)⟩) (fun a oe cls d pn hz hf => pss_one (ps_ret (pe_ownE CE (roomE hr) (List.mem_cons_self ..) hz hf (by rfl) (pa_cons (pv 2) pa_nil)))) .nil))
    (pss_one (ps_ret (pe_tup (pa_cons pe_str (pa_cons (pv 1) pa_nil))))), ?_⟩
  obtain ⟨E1, Q1, h1, hE, hQ⟩ := h
  refine ⟨E1, fun cls d σ1 G he => ?_, rfl, hc, Q1, h1, fun v G hv => ?_⟩
  · rcases hE cls d G he with ⟨rfl, dd, v, rfl, e3, k⟩ | ⟨rfl, dd, v, rfl, e3, k⟩
    · refine ⟨true, A.caught (j := 2) (by decide), fun _ a na len => ?_, fun z => by cases z⟩
      have here : (σ1.set 2 (some (V.ref a)))[2]? = some (some (V.ref a)) := List.getElem?_set_self len
      exact ⟨.ref a, here, fun oe hz hf => .inl ⟨dd, v, rfl, hz, hf, e3, fun p J s e => k p J s e⟩⟩
    · refine ⟨true, A.caught (j := 16) (by decide), fun _ a na len => ?_, fun z => by cases z⟩
      have here : (σ1.set 2 (some (V.ref a)))[2]? = some (some (V.ref a)) := List.getElem?_set_self len
      exact ⟨.ref a, here, fun oe hz hf => .inr (⟨dd, v, rfl, hz, hf, e3, fun p J s e => k p J s e⟩)⟩
  · exact ⟨_, rfl, by show 2 ≤ sizeLine; decide, fun p np => hQ v G hv p _ (same_new np) upd_same⟩
end Gu
namespace Gu
open PySem PySem.Spec PyProof.Rows L2 LamX
/-! ### what stands, but tables and the places of l -/
def KpN (l : List Addr) (H G : Hp) : Prop := ∀ b o, H b = some o → b ∉ l → (∀ ps, o ≠ .tbl ps) → G b = some o
section
variable {C N p s : Addr} {l m : List Addr} {H G J : Hp} {S : Sf} {T : List (Addr × Str)}
theorem KpN.refl : KpN l H H := fun _ _ e _ _ => e
theorem KpN.trans (a : KpN l H G) (b : KpN l G J) : KpN l H J := fun c o e n q => b c o (a c o e n q) n q
theorem KpN.kp (k : Kp l H G) : KpN l H G := fun b o e n _ => k b o e n
theorem KpN.same (k : Same H G) : KpN l H G := fun b o e _ _ => k b o e
theorem KpN.ext (k : ExtN H G) : KpN l H G := fun b o e _ q => k b o e q
theorem KpN.mono (k : KpN l H G) (h : ∀ b ∈ l, b ∈ m) : KpN m H G := fun b o e n => k b o e fun z => n (h b z)
theorem muts_nil : Muts C N [] H := fun _ h => absurd h List.not_mem_nil
theorem muts_two (hp : Pot H p) (hS : ShelfAt C N H s S) : Muts C N [p, s] H := fun b hb => by
  rcases List.mem_cons.mp hb with rfl | hb
  · exact .inl hp
  · rw [List.mem_singleton.mp hb]
    exact .inr ⟨S, hS⟩
theorem Muts.off (mu : Muts C N l H) {q : Addr} {o : HO} (e : H q = some o) (n1 : ∀ xs, o ≠ .lst xs) (n2 : ∀ a b c, o ≠ .ins a b c) : q ∉ l := fun hq => by
  rcases mu q hq with ⟨x, y, z, f⟩ | ⟨S, h⟩
  · rw [e] at f
    exact n1 _ (Option.some.inj f)
  · obtain ⟨_, _, _, _, _, f, _⟩ := h.ex
    rw [e] at f
    exact n2 _ _ _ (Option.some.inj f)
theorem KpN.tup (mu : Muts C N l H) (k : KpN l H G) {q : Addr} {xs : List V} (e : H q = some (.tup xs)) : G q = some (.tup xs) := k _ _ e (mu.tup e) fun _ z => by cases z
theorem FT.kpN (mu : Muts C N l H) (k : KpN l H G) {q : Addr} {xs : List V} (h : FT H q xs) : FT G q xs := by
  have n := mu.ft h
  obtain ⟨o, e, r⟩ := h
  exact ⟨o, k _ _ e n (fun _ z => by cases z), r⟩
theorem NmAt.kpN (mu : Muts C N l H) (k : KpN l H G) {M q : Addr} {so : Str} {w : Int} (h : NmAt M H q so w) : NmAt M G q so w := by
  have nq := mu.nm h
  obtain ⟨dx, e⟩ := h
  exact ⟨dx, k _ _ e nq fun _ z => by cases z⟩
theorem PairAt.kpN (mu : Muts C N l H) (k : KpN l H G) {q : Addr} {ps : Prs} (h : PairAt H q ps) : PairAt G q ps := by
  obtain ⟨a, b, e1, e2, e3⟩ := h
  exact ⟨a, b, k.tup mu e1, k.tup mu e2, e3.kpN mu k⟩
theorem PastAt.kpN (mu : Muts C N l H) (k : KpN l H G) {c : Addr} {past : List Prs} (h : PastAt H c past) : PastAt G c past := by
  obtain ⟨qs, e, h1, h2⟩ := h
  exact ⟨qs, k.tup mu e, h1, fun q hq => (h2 q hq).kpN mu k⟩
theorem ShelfAt.kpN (mu : Muts C N l H) (k : KpN l H G) (h : ShelfAt C N H s S) (n : s ∉ l) : ShelfAt C N G s S := by
  obtain ⟨dx, n1, a, b, c, e0, e1, e2, e3, e4⟩ := h.ex
  exact ⟨dx, n1, a, b, c, k _ _ e0 n (fun _ z => by cases z), e1.kpN mu k, k.tup mu e2, e3.kpN mu k, e4.kpN mu k⟩
theorem ShelfAt.ext (k : ExtN H G) (h : ShelfAt C N H s S) : ShelfAt C N G s S := h.kpN (l := []) muts_nil (KpN.ext k) List.not_mem_nil
theorem Sys.kpN (mu : Muts C N l H) (k : KpN l H G) (h : Sys H) : Sys G := by
  obtain ⟨o, u, e⟩ := h
  exact ⟨o, u, k _ _ e (mu.off e (fun _ z => by cases z) fun _ _ _ z => by cases z) fun _ z => by cases z⟩
/-- pots and shelves are no tables, no code objects -/
theorem tabs_kp (mu : Muts C N l H) (k : Kp l H G) (t : Tabs T H) : Tabs T G :=
  t.of (fun _ _ h1 => k _ _ h1 (mu.off h1 (fun _ z => by cases z) fun _ _ _ z => by cases z)) (fun _ _ e2 => k _ _ e2 (mu.off e2 (fun _ z => by unfold CodeO at z; cases z) fun _ _ _ z => by unfold CodeO at z; cases z))
/-- from H to G what is at l may have changed and tables may have grown -/
structure LW (T : List (Addr × Str)) (l : List Addr) (H G : Hp) : Prop where
  kp : KpN l H G
  tabs : Tabs T G
  sys : Sys G
theorem LW.refl (t : Tabs T H) (y : Sys H) : LW T l H H := ⟨.refl, t, y⟩
theorem LW.trans (a : LW T l H G) (b : LW T l G J) : LW T l H J := ⟨a.kp.trans b.kp, b.tabs, b.sys⟩
theorem LW.same (a : LW T l H G) (k : Same G J) : LW T l H J := ⟨a.kp.trans (.same k), a.tabs.ext k, a.sys.same k⟩
theorem LW.mono (a : LW T l H G) (h : ∀ b ∈ l, b ∈ m) : LW T m H G := ⟨a.kp.mono h, a.tabs, a.sys⟩
theorem LW.step (a : LW T l H G) (mu : Muts C N l G) (k : Kp l G J) : LW T l H J := ⟨a.kp.trans (.kp k), tabs_kp mu k a.tabs, a.sys.kpN mu (.kp k)⟩
theorem LW.lam (a : LW T l H G) (k : ExtN G J) (t : Tabs T J) : LW T l H J := ⟨a.kp.trans (.ext k), t, a.sys.kpN (C := 0) (N := 0) muts_nil (l := []) (.ext k)⟩
end
end Gu
namespace Gu
open PySem PySem.Spec PyProof PyProof.Rows L2 LamX
/-! ### lambdas with one parameter, handed on as values -/
/-- the scope: the parameter y, captured names, globals -/
structure LamS1 (sc scope : Scope) (y : Str) : Prop where
  kind : scope.kind = .function
  co : scope.isCoroutine = false
  gen : scope.isGenerator = false
  par : scope.names.lookup y = some .local
  own : ∀ z ∈ scope.names, z.2 ≠ .cell
  loc : ∀ z ∈ scope.names, z.2 = .local → z.1 = y
  free : ∀ z ∈ scope.names, z.2 = .free → sc.names.lookup z.1 = some .cell ∨ sc.names.lookup z.1 = some .free
def lamS1B (sc scope : Scope) (y : Str) : Bool :=
  decide (scope.kind = .function) && !scope.isCoroutine && !scope.isGenerator && decide (scope.names.lookup y = some .local) && (scope.names.all fun z => !decide (z.2 = .cell)) && (scope.names.all fun z => !decide (z.2 = .local) || decide (z.1 = y)) && scope.names.all fun z => !decide (z.2 = .free) || decide (sc.names.lookup z.1 = some .cell) || decide (sc.names.lookup z.1 = some .free)
theorem lamS1_by {sc scope : Scope} {y : Str} (h : lamS1B sc scope y = true) : LamS1 sc scope y := by
  unfold lamS1B at h
  simp only [Bool.and_eq_true, Bool.or_eq_true, Bool.not_eq_true', decide_eq_true_eq, decide_eq_false_iff_not, List.all_eq_true] at h
  obtain ⟨⟨⟨⟨⟨⟨h1, h2⟩, h3⟩, h4⟩, h5⟩, h6⟩, h7⟩ := h
  refine ⟨h1, h2, h3, h4, h5, fun z hz e => (h6 z hz).elim (fun n => absurd e n) id, fun z hz e => ?_⟩
  rcases h7 z hz with (k | k) | k
  · exact absurd e k
  · exact .inl k
  · exact .inr k
theorem LamS1.has {X : Cx} {scope : Scope} {y : Str} (L : LamS1 X.env.scope scope y) (ok : X.Ok) : ∀ z ∈ scope.names, z.2 = .free → ∃ c, X.env.cells.lookup z.1 = some c := fun z hz e => by
  rcases L.free z hz e with k | k
  · exact ok.has _ (.inl k)
  · exact ok.has _ (.inr k)
/-- the context of the lambda's body, entered at s from the frames outer -/
def lamCx1 (X : Cx) (A : Around) (outer : List Env) (s : Shared) (H : Hp) (E : XK) (scope : Scope) (f c' : Addr) (y : Str) : Cx := { lamCx X A outer s H E scope f c' with N := X.N ++ [y] }
section
variable {X : Cx} {pins : List (Addr × Obj)} {σ : L2.St} {H HZ : Hp} {s s1 : Shared}
theorem lam_start1 {A : Around} {outer : List Env} {E : XK} {scope : Scope} {f c' : Addr} {h₁ : Heap} {tk : Nat} {y : Str} {u : Value} {v : V} {fs : List Addr} (I : Inv X pins σ H s) (L : LamS1 X.env.scope scope y) (ny : y ∉ X.N) (rv : RelV v u) (e0 : Env0 X.prog X.w X.K X.mg X.base A outer s1 HZ) (hd : A.handled = none)
    (un : Un fs [] H HZ s.heap s1.heap) (hns : h₁.Ns s1.heap.objs.size fun z => ([(y, u)] : List (Str × Value)).reverse.lookup z) (kp : ∀ b o, s1.heap.get? b = some o → h₁.get? b = some o) :
    Inv (lamCx1 X A outer s1 HZ E scope f c' y) [] (σ ++ [some v]) HZ { s1 with heap := h₁, toks := tk } := by
  have hfree := L.has I.ok
  have cm : ∀ {y c}, (cloFrom X.env.cells scope.names []).lookup y = some c → X.env.cells.lookup y = some c := fun {y c} e => by
    rcases cloFrom_mem (PySem.mem_of_lookup e) with hm | ⟨h1, h2⟩
    · cases hm
    · obtain ⟨c1, hc⟩ := hfree _ h1 rfl
      have hc : X.env.cells.lookup y = some c1 := hc
      have e2 : c = c1 := by
        rw [h2, hc] <;> rfl
      rw [e2]
      exact hc
  have look : ∀ {y}, scope.names.lookup y = some .free → ∃ c, (cloFrom X.env.cells scope.names []).lookup y = some c := fun {y} hl => by
    have hy : (y, NameKind.free) ∈ scope.names := PySem.mem_of_lookup hl
    exact mem_lookup (cloFrom_has (cells := X.env.cells) (acc := []) hy)
  have cellK : ∀ {c : Addr} {v : Option Value}, H c = none → s.heap.IsCell c v → h₁.IsCell c v := fun {c v} n ⟨o, ho, hd⟩ => by
    obtain ⟨sl, q⟩ := un.any ho n (by simp)
    exact ⟨_, kp _ _ q, hd⟩
  have noA : ∀ b : Addr, b ∉ (lamCx1 X A outer s1 HZ E scope f c' y).ex := fun b z => absurd (show b ∈ ([] : List Addr) from z) (by simp)
  refine ⟨⟨e0.mod, L.kind, rfl, rfl, Nat.le_refl _, fun y z c e1 e2 => I.ok.inj y z c (cm e1) (cm e2), fun y hy => ?_, fun y c z _ => ?_, fun _ => hd, Around.frames_deeper e0.frames, .inr ⟨rfl, rfl⟩, fun b z => absurd z (noA b), e0.bs, e0.bsz, fun b _ _ => noA b,
      fun b z => absurd z (noA b), e0.funs, e0.frf⟩,
    rfl, e0.bare, Un.kept kp, ⟨_, hns, fun i x v2 e1 e2 e3 => ?_⟩, fun y c e => ?_, e0.hok.fresh (Nat.le_refl _), fun y c e => ?_, fun q hq => absurd (show q ∈ ([] : List (Addr × Obj)) ++ [] from hq) (by simp), e0.hok.kept kp, ?_⟩
  · have hy : scope.names.lookup y = some .cell ∨ scope.names.lookup y = some .free := hy
    rcases hy with hy | hy
    · exact absurd rfl (L.own _ (PySem.mem_of_lookup hy))
    · exact look hy
  · have z : false = true := z
    cases z
  · have e3 : Vis scope x := e3
    have e1 : (X.N ++ [y])[i]? = some x := e1
    have len := I.len
    rcases e3 with k | k | k
    · obtain rfl : x = y := L.loc _ (PySem.mem_of_lookup k) rfl
      have hi : i = X.N.length := by
        by_cases hl : i < X.N.length
        · rw [List.getElem?_append_left hl] at e1
          exact absurd (List.mem_of_getElem? e1) ny
        · rw [List.getElem?_append_right (by omega)] at e1
          have := (List.getElem?_eq_some_iff.mp e1).1
          simp only [List.length_singleton] at this
          omega
      have e2' : (σ ++ [some v])[i]? = some (some v) := by
        rw [hi, ← len, List.getElem?_append_right (Nat.le_refl _), Nat.sub_self]
        rfl
      rw [e2'] at e2
      cases e2
      exact ⟨u, rv, .inl ⟨k, by simp [List.lookup]⟩⟩
    · exact absurd rfl (L.own _ (PySem.mem_of_lookup k))
    · have hl : i < X.N.length := by
        by_cases hl : i < X.N.length
        · exact hl
        · rw [List.getElem?_append_right (by omega)] at e1
          have e4 := List.mem_of_getElem? e1
          rw [List.mem_singleton.mp e4, L.par] at k
          cases k
      rw [List.getElem?_append_left hl] at e1
      rw [List.getElem?_append_left (by omega)] at e2
      obtain ⟨m, hn, hl2⟩ := I.loc
      have hvis : Vis X.env.scope x := (L.free _ (PySem.mem_of_lookup k) rfl).elim (fun k => .inr (.inl k)) (fun k => .inr (.inr k))
      obtain ⟨w', r, q⟩ := hl2 i x v2 e1 e2 hvis
      obtain ⟨c2, h2⟩ := look k
      refine ⟨w', r, .inr ⟨.inr k, c2, h2, ?_⟩⟩
      have c1 := cm h2
      rcases q with ⟨k', _⟩ | ⟨_, c3, e', z⟩
      · have k' : X.env.scope.names.lookup x = some .local := k'
        rcases L.free _ (PySem.mem_of_lookup k) rfl with k2 | k2 <;> rw [show X.env.scope.names.lookup x = _ from k2] at k' <;> cases k'
      · rw [c1] at e'
        cases e'
        exact cellK (I.freeC x _ c1) z
  · obtain ⟨w', z⟩ := I.cell y c (cm e)
    exact ⟨w', cellK (I.freeC y c (cm e)) z⟩
  · obtain ⟨v3, o, ho, hd⟩ := I.cell y c (cm e)
    exact un.free c o ho (I.freeC y c (cm e)) (by simp)
  · show (σ ++ [some v]).length = (X.N ++ [y]).length
    rw [List.length_append, List.length_append, I.len]
    rfl
end
/-- the function at f, its code object at c' of the name q: what a call with one thing does, in any later state -/
structure ActAt (P : Program) (w : World) (K : PySem.W.Frag) (mg : Str → Option Value) (base : Heap) (k : Nat) (h : Heap) (H : Hp) (f c' : Addr) (q : QN) (R : V → XK → Hp → VK → Prop) : Prop where
  fn : PySem.W.FnAt f h
  nf : H f = none
  run : ∀ (A : Around) (outer : List Env) (s1 : Shared) (H1 : Hp) (fs : List Addr) (u : Value) (v : V) (Q : VK) (E : XK), Room k A → A.guards = some [] → Env0 P w K mg base A outer s1 H1 → Un fs [] H H1 h s1.heap → f ∉ fs → H1 c' = some (CodeO c' q) → RelV v u → R v E H1 Q → codeAny (model P w) A (.call (.ref f) ⟨[u], []⟩) (CR (L2.CX P w) outer P w H1 s1 Q E) s1
section
variable {P : Program} {w : World} {K : PySem.W.Frag} {mg : Str → Option Value} {base : Heap} {k : Nat} {h h1 : Heap} {H H1 : Hp} {f c' : Addr} {q : QN} {R : V → XK → Hp → VK → Prop} {fs : List Addr}
theorem un_cat {fs fs2 : List Addr} {H H1 H2 : Hp} {h h1 h2 : Heap} (a : Un fs [] H H1 h h1) (b : Un fs2 [] H1 H2 h1 h2) : Un (fs ++ fs2) [] H H2 h h2 :=
  (a.mono (fs' := fs ++ fs2) (ex' := []) (fun x hx => List.mem_append.mpr (.inl hx)) fun x hx => hx).trans (b.mono (fun x hx => List.mem_append.mpr (.inr hx)) fun x hx => hx)
theorem ActAt.later (a : ActAt P w K mg base k h H f c' q R) (u : Un fs [] H H1 h h1) (nf : f ∉ fs) : ActAt P w K mg base k h1 H1 f c' q R := by
  obtain ⟨oc, od, fd, sl, e⟩ := a.fn
  exact ⟨⟨oc, od, fd, sl, u.keep f _ e a.nf nf (by simp)⟩, u.free f _ e a.nf (by simp), fun A outer s1 H2 fs2 v1 v Q E r gq e0 u2 n2 hc rv want => a.run A outer s1 H2 (fs ++ fs2) v1 v Q E r gq e0 (un_cat u u2) (fun z => (List.mem_append.mp z).elim nf n2) hc rv want⟩
theorem act_made {X : Cx} {pins : List (Addr × Obj)} {σ : L2.St} {H : Hp} {s : Shared} {f c' P' : Addr} {pm ctv : Value} {params : Arguments} {body : Expr} {scope : Scope} {y : Str} {tb : XK → TE} (I : Inv X pins σ H s) (L : LamS1 X.env.scope scope y) (ny : y ∉ X.N)
    (hf : s.heap.get? f = some (PySem.W.kla_obj "<lambda>" (X.env.qual ++ "<lambda>") params body scope (cloFrom X.env.cells scope.names []) pm c' ctv)) (hfn : H f = none)
    (hbind : ∀ u : Value, bindArgs (PySem.W.kla_fn "<lambda>" (X.env.qual ++ "<lambda>") params body scope (cloFrom X.env.cells scope.names []) pm (.ref c') ctv) ⟨[u], []⟩ = pure [(y, u)])
    (hbody : ∀ (A : Around) (outer : List Env) (s : Shared) (H : Hp) (E : XK), Room k (A.deeper (lamEnv X scope s.heap.objs.size f c')) → A.guards = some [] → PE (lamCx1 X A outer s H E scope f c' y) body (tb E)) :
    ActAt X.prog X.w X.K X.mg X.base (k + 1) s.heap H f c' (X.env.qual ++ "<lambda>", P') (fun v E H Q => tb E (σ ++ [some v]) H Q) := by
  refine ⟨⟨_, _, _, _, hf⟩, hfn, fun A outer s1 H1 fs u v Q E room gq e0 un nf hc rv ht => ?_⟩
  have of1 := un.keep f _ hf hfn nf (by simp)
  obtain ⟨⟨⟨oc, vs, t, hoc, hdc, hvc⟩, _⟩, _, _⟩ := e0.hok c' _ hc
  refine PySem.W.kla_callFunE room.depth of1 rfl L.co L.gen rfl ⟨c', oc, vs, t, rfl, hoc, hdc, hvc⟩ ?_
  rw [hbind]
  refine wpAny_pure (wpAny_newFunctionEnv L.own (fun z hz => ?_) (fun h₁ hns hsb => ⟨?_, ?_⟩) L.kind)
  · rw [List.mem_singleton.mp hz]
    exact L.par
  · have kpB : ∀ b o, X.base.get? b = some o → s1.heap.get? b = some o := fun b o e => (e0.bs b o e).1
    exact (e0.mod.nolimit.keeps kpB).fresh _ hsb
  · show codeAny _ _ (.expr body (lamEnv X scope s1.heap.objs.size f c')) _ _
    have kp : ∀ b o, s1.heap.get? b = some o → h₁.get? b = some o := fun b o e => hsb.extBut b o (Nat.ne_of_lt (Heap.lt_size e)) (Heap.get?_push_of_some _ e)
    have J := lam_start1 (E := E) (f := f) (c' := c') (tk := s1.toks + [(y, u)].length) I L ny rv e0 room.hd un hns kp
    refine PySem.W.kla_codeExpr (wpAny_mono ((hbody _ _ s1 H1 E (room.deeper _) gq).run [] _ _ H1 Q J ht) (fun v' s' hq => ?_) fun e s' hq => hq)
    obtain ⟨w', H', J', rv', q'⟩ := hq
    exact ⟨w', H', J'.os, J'.bare, J'.base, J'.hok, rv', q'⟩
end
end Gu
namespace Gu
open PySem PySem.Spec PyProof PyProof.Rows L2 LamX
/-! ### a(e), where a holds such a value since the def was entered -/
def tAct (i : Nat) (f c' : Addr) (q : QN) (R : V → XK → Hp → VK → Prop) (t : TA) : TE := fun σ H Q => σ[i]? = some (some (.ref f)) ∧ t σ H fun vs H1 => ∃ v, vs = [v] ∧ H1 c' = some (CodeO c' q) ∧ R v E0 H1 Q
section
variable {X : Cx} {k j i : Nat} {f c' : Addr} {q : QN} {R : V → XK → Hp → VK → Prop} {x : Str} {p pos : Pos} {e : Expr} {t : TA}
theorem fn_later {pins : List (Addr × Obj)} {σ : L2.St} {H : Hp} {s : Shared} (a : ActAt X.prog X.w X.K X.mg X.base k X.s_0.heap X.H_0 f c' q R) (hf : f ∉ X.fs) (hx : X.ex = []) (I : Inv X pins σ H s) : ActAt X.prog X.w X.K X.mg X.base k s.heap H f c' q R := by
  have u := I.base
  rw [hx] at u
  exact a.later u hf
theorem f_off {pins : List (Addr × Obj)} {σ : L2.St} {H : Hp} {s : Shared} (a : ActAt X.prog X.w X.K X.mg X.base k X.s_0.heap X.H_0 f c' q R) (hf : f ∉ X.fs) (I : Inv X pins σ H s) : f ∉ frs X.stack := fun z => by
  obtain ⟨oc, od, fd, sl, e⟩ := a.fn
  rcases List.mem_cons.mp (I.stkSub _ z) with e1 | e1
  · have h1 := I.ok.above
    have h2 := Heap.lt_size e
    rw [e1] at h2
    exact Nat.lt_irrefl _ (Nat.lt_of_lt_of_le h2 h1)
  · exact hf e1
theorem pe_act1 (a : ActAt X.prog X.w X.K X.mg X.base k X.s_0.heap X.H_0 f c' q R) (hf : f ∉ X.fs) (hx : X.ex = []) (hr : Room j X.A) (hk : k ≤ j) (gq : X.A.guards = some []) (hN : X.N[i]? = some x) (hv : Vis X.env.scope x) (ha : PA X [e] t)
    (hdb : (x == ("__debug__" : Str)) = false := by decide) (hcd : (x == ("__classdict__" : Str)) = false := by decide)
    (hs : starEach [e] X.env = (false, eval e X.env) :: starEach [] X.env := by rfl) (hpl : (backTo pos (starEach [] X.env)).any (·.1) = false := by rfl) : PE X (.Call (.Name x p) [e] [] pos) (tAct i f c' q R t) := by
  refine ⟨fun pins s σ H Q I h => ?_⟩
  obtain ⟨hi, ht⟩ := h
  refine wpAny_Call_Name_kw (thn ((pe_var (pos := p) hN hv hdb hcd).run pins s σ H (fun v H1 => v = .ref f ∧ H1 = H) I ⟨.ref f, hi, rfl, rfl⟩) fun u s1 ⟨v, H1, I1, r1, q1⟩ => ?_)
  obtain ⟨rfl, rfl⟩ := q1
  cases r1
  have a1 := fn_later a hf hx I1
  refine PySem.W.callWith_F (first := []) a1.fn (thn (ha.run pos pins s1 σ _ _ I1 ht) fun us s2 ⟨vs, H2, I2, r, v, ev, hc, hR⟩ => ⟨(fn_later a hf hx I2).fn, ?_⟩) hs hpl
  subst ev
  obtain ⟨u2, rfl, ru⟩ := r.one
  have u := I2.base
  rw [hx] at u
  refine wpAny_call (codeAny_mono (a.run X.A X.stack s2 H2 X.fs u2 v Q E0 (hr.mono hk) gq I2.env0 u hf hc ru hR) fun rr s3 h3 => ?_)
  cases rr with
  | error e =>
    obtain ⟨_, _, _, _, _, _, _, _, _, _, _, _, z⟩ := h3
    exact z.elim
  | ok fl =>
    cases fl with
    | ret u3 => exact I2.after h3
    | next => exact (h3 : False).elim
    | brk => exact (h3 : False).elim
    | cont => exact (h3 : False).elim
end
/-! ### defs that are handed such a value -/
/-- what a def is asked that is handed a thing and such a value: R what the value does, at c' its code object -/
abbrev SpA := V → (V → XK → Hp → VK → Prop) → Addr → QN → Hp → VK → Prop
structure FnA (P : Program) (w : World) (K : PySem.W.Frag) (mg : Str → Option Value) (base : Heap) (j k : Nat) (f : Addr) (fd : FuncData) (ps : List Str) (sp : SpA) : Prop where
  run : ∀ (A : Around) (outer : List Env) (s : Shared) (H : Hp) (args : Args) (u : Value) (v : V) (g c' : Addr) (q : QN) (R : V → XK → Hp → VK → Prop) (Q : VK), Room k A → A.guards = some [] → Env0 P w K mg base A outer s H → BindsTo s fd args (ps.zip [u, .ref g]) → RelV v u → ActAt P w K mg base j s.heap H g c' q R → g ∉ frs outer → H c' = some (CodeO c' q) → sp v R c' q H Q →
    codeAny (model P w) A (.call (.ref f) args) (CR CX0 outer P w H s Q E0) s
theorem okA {P : Program} {w : World} {K : PySem.W.Frag} {mg : Str → Option Value} {base : Heap} {x qual : Str} {st : Stmt} {f : Addr} {fd : FuncData} {N ps : List Str} {j k : Nat} {sp : SpA} (F : Fun K x qual st f fd) (S : FnScope N ps (defScope st)) (two : ps.length = 2)
    (body : ∀ (cdv : Value) (A : Around) (outer : List Env) (s : Shared) (H : Hp) (v : V) (g c' : Addr) (q : QN) (R : V → XK → Hp → VK → Prop) (Q : VK), Room k (A.deeper (envOfC qual (defScope st) s.heap.objs.size f cdv)) → A.guards = some [] → ActAt P w K mg base j s.heap H g c' q R → g ∉ frs outer → H c' = some (CodeO c' q) → sp v R c' q H Q →
      ∃ t, PSs (cxOf CX0 P w K mg base N qual (defScope st) f cdv A outer s H E0).nox (defBody st) t ∧ t { nx := fun _ G => Q .non G, rt := Q } (start N [v, .ref g]) H) : FnA P w K mg base j (k + 1) f fd ps sp := by
  obtain ⟨oc, od, kV, doc, pm, an, cdv, ct, osl, rfl, lk, hcd⟩ := F.ex
  refine ⟨fun A outer s H args u v g c' q R Q room gq env binds rv act off hc want => ?_⟩
  have stays : ∀ b o, base.get? b = some o → s.heap.get? b = some o := fun b o e => (env.bs b o e).1
  have inK : K.In s.heap := env.mod.kin.keeps stays
  have free : s.heap.NoLimit := env.mod.nolimit.keeps stays
  refine codeAny_call_function room.depth (inK _ _ lk) rfl S.co S.gen rfl (PySem.W.codeRec_of inK hcd) (binds _ _ _ _ ?_)
  refine wpAny_newFunctionEnv_cells S.kind (fun ⟨n, v⟩ hy => (S.par n (List.of_mem_zip hy).1).imp id fun q => ⟨q, PySem.W.cellsFrom_some _ _ _ (.inl q)⟩) fun env1 e1 s1 c1 => ?_
  subst e1
  refine ⟨free.keeps c1.toInCall.keep, codeAny_func ?_⟩
  obtain ⟨t, d, q⟩ := body cdv A outer s H v g c' q R Q (room.deeper _) gq act off hc want
  have rel : Vals [v, .ref g] [u, .ref g] := .cons rv (.cons rfl .nil)
  refine wpAny_mono (d.nox.run [] s1 (start N [v, .ref g]) H _ (inv_start S room.hd env (by rw [two]; rfl) rel c1) q) (fun fl s2 h2 => ?_) fun e s2 h2 => h2
  cases fl with
  | ret u =>
    obtain ⟨v, σ2, G, J, rv, r⟩ := h2
    exact ⟨v, G, J.os, J.bare, J.base, J.hok, rv, r⟩
  | next =>
    obtain ⟨σ2, G, J, r⟩ := h2
    exact ⟨V.non, G, J.os, J.bare, J.base, J.hok, rfl, r⟩
  | brk => exact (h2.choose_spec.choose_spec.2 : False).elim
  | cont => exact (h2.choose_spec.choose_spec.2 : False).elim
structure CalA (P : Program) (w : World) (K : PySem.W.Frag) (mg : Str → Option Value) (base : Heap) (j k : Nat) (x : Str) (ps : List Str) (sp : SpA) : Prop where
  ex : ∃ (f : Addr) (fd : FuncData), FnA P w K mg base j k f fd ps sp ∧ mg x = some (.ref f) ∧ PySem.W.keepIn K (.ref f) = true ∧ Binds K fd ps []
theorem At.calA {P : Program} {w : World} {K : PySem.W.Frag} {mg : Str → Option Value} {base : Heap} {x : Str} {st : Stmt} {N ps : List Str} {j k : Nat} {sp : SpA} (D : At K mg x st ps) (S : FnScope N ps (defScope st)) (two : ps.length = 2)
    (body : ∀ (f : Addr) (cdv : Value) (A : Around) (outer : List Env) (s : Shared) (H : Hp) (v : V) (g c' : Addr) (q : QN) (R : V → XK → Hp → VK → Prop) (Q : VK), Room k (A.deeper (envOfC x (defScope st) s.heap.objs.size f cdv)) → A.guards = some [] → ActAt P w K mg base j s.heap H g c' q R → g ∉ frs outer → H c' = some (CodeO c' q) → sp v R c' q H Q →
      ∃ t, PSs (cxOf CX0 P w K mg base N x (defScope st) f cdv A outer s H E0).nox (defBody st) t ∧ t { nx := fun _ G => Q .non G, rt := Q } (start N [v, .ref g]) H) : CalA P w K mg base j (k + 1) x ps sp := by
  obtain ⟨f, fd, F, b, g⟩ := D.ex
  exact ⟨f, fd, okA F S two (body f), g, F.kp, b⟩
/-! x(e, a), a the value that the def was handed -/
def tHand (f c' : Addr) (q : QN) (R : V → XK → Hp → VK → Prop) (sp : SpA) (t : TA) : TE := fun σ H Q => t σ H fun vs H1 => ∃ v, vs = [v, .ref f] ∧ H1 c' = some (CodeO c' q) ∧ sp v R c' q H1 Q
section
variable {X : Cx} {j k n : Nat} {x : Str} {ps : List Str} {sp : SpA} {f c' : Addr} {q : QN} {R : V → XK → Hp → VK → Prop} {p pos : Pos} {e : Expr} {es : List Expr} {t : TA}
theorem run_hand {g : Addr} {fd : FuncData} {pins : List (Addr × Obj)} {σ : L2.St} {H1 : Hp} {s1 : Shared} {us : List Value} {vs : List V} {Q : VK} (F : FnA X.prog X.w X.K X.mg X.base j k g fd ps sp) (b : Binds X.K fd ps []) (hl : ps.length = 2) (hr : Room k X.A) (gq : X.A.guards = some []) (I1 : Inv X pins σ H1 s1) (r : Vals vs us) {v : V} (ev : vs = [v, .ref f]) (act : ActAt X.prog X.w X.K X.mg X.base j s1.heap H1 f c' q R) (off : f ∉ frs X.stack) (hc : H1 c' = some (CodeO c' q)) (want : sp v R c' q H1 Q) :
    wpAny (model X.prog X.w) X.A (call (.ref g) us) (EP X pins σ Q) X.xe s1 := by
  subst ev
  cases r with
  | cons r1 r2 =>
    cases r2 with
    | cons r2 r3 =>
      cases r3
      rename_i u1 u2
      cases (show u2 = Value.ref f from r2)
      have bt := b s1 [u1, .ref f] I1.kIn (by rw [hl]; rfl)
      rw [List.append_nil] at bt
      refine wpAny_call (codeAny_mono (F.run X.A X.stack s1 H1 ⟨[u1, .ref f], []⟩ u1 v f c' q R Q hr gq I1.env0 bt r1 act off hc want) fun rr s2 h2 => ?_)
      cases rr with
      | error e => exact (h2 : False).elim
      | ok fl =>
        cases fl with
        | ret u => exact I1.after h2
        | next => exact (h2 : False).elim
        | brk => exact (h2 : False).elim
        | cont => exact (h2 : False).elim
theorem pe_hand (c : CalA X.prog X.w X.K X.mg X.base j k x ps sp) (act : ActAt X.prog X.w X.K X.mg X.base j X.s_0.heap X.H_0 f c' q R) (hf : f ∉ X.fs) (hx : X.ex = []) (hr : Room n X.A) (hk : k ≤ n) (gq : X.A.guards = some []) (hg : Gl X x) (hl : ps.length = 2) (ha : PA X (e :: es) t) (hdb : (x == ("__debug__" : Str)) = false := by decide)
    (hs : starEach (e :: es) X.env = (false, eval e X.env) :: starEach es X.env := by rfl) (hpl : (backTo pos (starEach es X.env)).any (·.1) = false := by rfl) : PE X (.Call (.Name x p) (e :: es) [] pos) (tHand f c' q R sp t) := by
  obtain ⟨g, fd, F, hm, kp, b⟩ := c.ex
  refine ⟨fun pins s σ H Q I h => ?_⟩
  refine wpAny_Call_Name_kw (ld_glob I hg hm ?_ hdb)
  refine PySem.W.callWith_K (h₀ := X.base) I.ok.mod.kin kp (thn (ha.run pos pins s σ H _ I h) fun us s1 ⟨vs, H1, I1, r, v, ev, hc, want⟩ => ⟨I1.kIn, ?_⟩) hs hpl
  exact run_hand F b hl (hr.mono hk) gq I1 r ev (fn_later act hf hx I1) (f_off act hf I1) hc want
/-! x(e, lambda y: body) -/
def tHandLam (T : List (Addr × Str)) (q : Str) (sp : SpA) (tb : XK → TE) (te : TE) : TE := fun σ H Q => te σ H fun v H1 => Tabs T H1 ∧ ∀ c' P' H2, ExtN H1 H2 → Tabs T H2 → H2 c' = some (CodeO c' (q, P')) → sp v (fun v E H Q => tb E (σ ++ [some v]) H Q) c' (q, P') H2 Q
theorem pe_handLam {T : List (Addr × Str)} {c P : Addr} {params : Arguments} {body : Expr} {scope : Scope} {lpos : Pos} {y : Str} {te : TE} {tb : XK → TE} (ca : CalA X.prog X.w X.K X.mg X.base (j + 1) k x ps sp) (TB : TabB X.base X.mg c P) (hcode : X.env.code = .ref c) (hmT : (P, X.env.qual ++ "<lambda>") ∈ T) (hu : ∀ p ∈ T, p.1 = P → p.2 = X.env.qual ++ "<lambda>")
    (L : LamS1 X.env.scope scope y) (ny : y ∉ X.N) (hdef : defaultsOf params X.env = ([], []))
    (hbind : ∀ (q : Str) (cl : List (Str × Addr)) (pm cv ctv u : Value), bindArgs (PySem.W.kla_fn "<lambda>" q params body scope cl pm cv ctv) ⟨[u], []⟩ = pure [(y, u)])
    (hbody : ∀ (A : Around) (outer : List Env) (s : Shared) (H : Hp) (E : XK) (f c' : Addr), Room j (A.deeper (lamEnv X scope s.heap.objs.size f c')) → A.guards = some [] → PE (lamCx1 X A outer s H E scope f c' y) body (tb E))
    (hr : Room n X.A) (hk : k ≤ n) (gq : X.A.guards = some []) (hg : Gl X x) (hl : ps.length = 2) (he : PE X e te) (hdb : (x == ("__debug__" : Str)) = false := by decide)
    (hs : starEach [e, .Lambda params body scope lpos] X.env = (false, eval e X.env) :: starEach [.Lambda params body scope lpos] X.env := by rfl) (hs2 : starEach [.Lambda params body scope lpos] X.env = (false, eval (.Lambda params body scope lpos) X.env) :: starEach [] X.env := by rfl) (hpl : (backTo pos (starEach [.Lambda params body scope lpos] X.env)).any (·.1) = false := by rfl) :
    PE X (.Call (.Name x p) [e, .Lambda params body scope lpos] [] pos) (tHandLam T (X.env.qual ++ "<lambda>") sp tb te) := by
  obtain ⟨g, fd, F, hm, kp, b⟩ := ca.ex
  refine ⟨fun pins s σ H Q I h => ?_⟩
  refine wpAny_Call_Name_kw (ld_glob I hg hm ?_ hdb)
  refine PySem.W.callWith_K (h₀ := X.base) I.ok.mod.kin kp ?_ hs hpl
  rw [hs]
  show wpAny _ _ (spliced ((false, eval e X.env) :: backTo pos (starEach [.Lambda params body scope lpos] X.env))) _ _ s
  refine Calls.spliced_cons (thn (he.run pins s σ H _ I h) fun u s1 ⟨v, H1, I1, r1, hT, h1⟩ => ?_)
  rw [hs2]
  show wpAny _ _ (spliced ((false, eval (.Lambda params body scope lpos) X.env) :: backTo pos (starEach [] X.env))) _ _ s1
  refine Calls.spliced_cons (lam_make2 I1 TB hcode hmT hu hT hdef (L.has I.ok) fun f c' P' pm' ctv H2 s2 I2 eN T2 hf hfn hfr hco _ => ?_)
  refine Calls.spliced_nil ⟨I2.kIn, ?_⟩
  have act := act_made (k := j) (tb := tb) (P' := P') I2 L ny hf hfn (fun u => hbind _ _ _ _ _ u) (fun A outer s H E hr2 gq2 => hbody A outer s H E f c' hr2 gq2)
  exact run_hand (us := [u, .ref f]) (vs := [v, .ref f]) F b hl (hr.mono hk) gq I2 (.cons r1 (.cons rfl .nil)) rfl act hfr hco (h1 c' P' H2 eN T2 hco)
end
end Gu
namespace Gu
open PySem PySem.Spec PyProof PyProof.Rows L2 LamX
/-! ### with e as y: .., e an instance of a class of one's own; nothing rises -/
def nons : List V := [.non, .non, .non]
def tWith (i : Nat) (Ct : Addr) (spI spO : Sp) (te : TE) (tb : TS) : TS := fun D σ H => te σ H fun v H1 => ∃ (x dx : Addr) (fs : List (Str × V)), v = .ref x ∧ H1 x = some (.ins Ct dx fs) ∧
  spI [.ref x] H1 (fun u H2 => tb { nx := fun σ3 H3 => spO (.ref x :: nons) H3 (fun _ H4 => D.nx σ3 H4) E0, rt := fun v H3 => spO (.ref x :: nons) H3 (fun _ H4 => D.rt v H4) E0, bk := fun σ3 H3 => spO (.ref x :: nons) H3 (fun _ H4 => D.bk σ3 H4) E0, ct := fun σ3 H3 => spO (.ref x :: nons) H3 (fun _ H4 => D.ct σ3 H4) E0 } (σ.set i (some u)) H2) E0
section
variable {X : Cx} {i n kI kO : Nat} {y : Str} {ctx : Expr} {py pos : Pos} {body : List Stmt} {te : TE} {tb : TS} {Ct : Addr} {spI spO : Sp} {psI psO : List Str}
theorem ps_withN (mI : CalM X.prog X.w X.K X.mg X.base kI Ct "__enter__" psI spI) (mO : CalM X.prog X.w X.K X.mg X.base kO Ct "__exit__" psO spO) (hr : Room n X.A) (hkI : kI ≤ n) (hkO : kO ≤ n) (nd : X.N.Nodup) (hy : X.N[i]? = some y) (loc : Loc X.env.scope y) (hxe : X.xe = fun _ _ => False) (he : PE X ctx te) (hb : PSs X body tb) (hf : X.fn y = true ∨ X.env.scope.names.lookup y = some .local) :
    PS X (.With [⟨ctx, some (.Name y py)⟩] body pos) (tWith i Ct spI spO te tb) := by
  obtain ⟨fI, fdI, MI, FI, bI⟩ := mI.ex
  obtain ⟨fO, fdO, MO, FO, bO⟩ := mO.ex
  refine ⟨fun pins s σ H D I h => ?_⟩
  refine PySem.W.kw_execN (thn (he.run pins s σ H _ I h) fun u s1 ⟨v, H1, I1, r1, x, dx, fs, ev, ex, want⟩ => ?_)
  subst ev
  cases (show u = Value.ref x from r1)
  obtain ⟨m1, J, _⟩ := ins_get I1.hok ex
  obtain ⟨od, J, _⟩ := J.look
  obtain ⟨m, fr⟩ := I1.fr
  refine PySem.W.kw_inN fr I1.ok.mod.kin J MI.at_ MI.fn MO.at_ MO.fn ?_
  have bt := bI s1 [.ref x] I1.kIn (FI.len _ _ _ _ want)
  rw [List.append_nil] at bt
  refine wpAny_call (codeAny_mono (FI.run X.A X.stack s1 H1 ⟨[.ref x], []⟩ [.ref x] [.ref x] _ E0 (hr.mono hkI) I1.env0 bt (.cons rfl .nil) want) fun rr s2 h2 => ?_)
  have out : ∀ {σ3 : L2.St} {H3 : Hp} {s4 : Shared} {R : Hp → Prop} {Z : Shared → Prop}, Inv X pins σ3 H3 s4 → spO (.ref x :: nons) H3 (fun _ H4 => R H4) E0 → (∀ H4 s5, Inv X pins σ3 H4 s5 → R H4 → Z s5) → wpAny (model X.prog X.w) X.A (call (.ref fO) [.ref x, .none, .none, .none]) (fun _ s' => Z s') X.xe s4 := fun {σ3 H3 s4 R Z} I4 wO k => by
    have bt := bO s4 [.ref x, .none, .none, .none] I4.kIn (FO.len _ _ _ _ wO)
    rw [List.append_nil] at bt
    refine wpAny_call (codeAny_mono (FO.run X.A X.stack s4 H3 ⟨[.ref x, .none, .none, .none], []⟩ [.ref x, .none, .none, .none] (.ref x :: nons) _ E0 (hr.mono hkO) I4.env0 bt (.cons rfl (.cons rfl (.cons rfl (.cons rfl .nil)))) wO) fun rr s5 h5 => ?_)
    cases rr with
    | error e => exact (h5 : False).elim
    | ok fl =>
      cases fl with
      | ret u3 =>
        obtain ⟨v, H4, I5, _, q⟩ := I4.after h5
        exact k H4 s5 I5 q
      | next => exact (h5 : False).elim
      | brk => exact (h5 : False).elim
      | cont => exact (h5 : False).elim
  cases rr with
  | error e => exact (h2 : False).elim
  | ok fl =>
    cases fl with
    | next => exact (h2 : False).elim
    | brk => exact (h2 : False).elim
    | cont => exact (h2 : False).elim
    | ret u2 =>
      obtain ⟨v2, H2, I2, ru, hq⟩ := I1.after h2
      refine store_ok I2 nd hy loc ru (fun s3 I3 => ?_) hf
      have run := hb.run pins s3 _ H2 _ I3 hq
      rw [hxe] at run
      refine wpAny_mono run (fun fl s4 h4 => ?_) fun e s' z => z
      show wpAny _ _ _ _ _ s4
      cases fl with
      | next =>
        obtain ⟨σ3, H3, I4, w4⟩ := h4
        exact out I4 w4 fun H4 s5 I5 q => ⟨σ3, H4, I5, q⟩
      | brk =>
        obtain ⟨σ3, H3, I4, w4⟩ := h4
        exact out I4 w4 fun H4 s5 I5 q => ⟨σ3, H4, I5, q⟩
      | cont =>
        obtain ⟨σ3, H3, I4, w4⟩ := h4
        exact out I4 w4 fun H4 s5 I5 q => ⟨σ3, H4, I5, q⟩
      | ret u5 =>
        obtain ⟨v5, σ3, H3, I4, rv, w4⟩ := h4
        exact out I4 w4 fun H4 s5 I5 q => ⟨v5, σ3, H4, I5, rv, q⟩
end
end Gu
namespace Gu
open PySem PySem.Spec PyProof PyProof.Rows L2 LamX
/-! ### trials -/
structure TriC (K : PySem.W.Frag) (mg : Str → Option Value) (C : Addr) : Prop where
  cl : Cls K C
  nS : NoAttr K C "shelf"
  nE : NoAttr K C "entry"
  g : mg "Trial" = some (.ref C)
structure EntC (K : PySem.W.Frag) (mg : Str → Option Value) (C : Addr) : Prop where
  cl : Cls K C
  nT : NoAttr K C "texts"
  nM : NoAttr K C "names"
  nP : NoAttr K C "past"
  nO : NoAttr K C "outer"
  g : mg "Entry" = some (.ref C)
structure TriInitAt (K : PySem.W.Frag) (C : Addr) : Prop where
  ex : ∃ (f : Addr) (fd : FuncData), Mk K C f ∧ Fun K "__init__" "Trial.__init__" s_Trial_init f fd ∧ Binds K fd ps_Trial_init []
structure EntInitAt (K : PySem.W.Frag) (C : Addr) : Prop where
  ex : ∃ (f : Addr) (fd : FuncData), Mk K C f ∧ Fun K "__init__" "Entry.__init__" s_Entry_init f fd ∧ Binds K fd ps_Entry_init []
/-- what isinstance asks of the class -/
structure ShlI (K : PySem.W.Frag) (C : Addr) : Prop where
  ty : ∀ {H : Hp} {a dx : Addr} {fs : List (Str × V)}, H a = some (.ins C dx fs) → TyX K H (.ref a) (.ref C)
  kk : PySem.W.kitOne K (.ref C) (.ref C) = some true
  ow : ClsV (.ref C) (.ref C)
def triF (s : Addr) (o : V) : List (Str × V) := [("shelf", .ref s), ("entry", o)]
def entF (a b c : Addr) (o : V) : List (Str × V) := [("texts", .ref a), ("names", .ref b), ("past", .ref c), ("outer", o)]
def TrialAt (Ct : Addr) (H : Hp) (t s : Addr) (o : V) : Prop := ∃ dt, H t = some (.ins Ct dt (triF s o))
def EntAt (Ce : Addr) (H : Hp) (e a b c : Addr) (o : V) : Prop := ∃ de, H e = some (.ins Ce de (entF a b c o))
section
variable {P : Program} {w : World} {K : PySem.W.Frag} {mg : Str → Option Value} {base : Heap} {C N Ct Ce : Addr}
/-! made -/
def spTriInit (Ct : Addr) : Sp := fun vs H Q _ => ∃ (x dx s : Addr), vs = [.ref x, .ref s] ∧ H x = some (.ins Ct dx []) ∧ ∀ G, Kp [x] H G → TrialAt Ct G x s .non → Q .non G
theorem mak_tri (B : Bi mg) (S : TriC K mg Ct) (D : TriInitAt K Ct) : Mak P w K mg base 2 "Trial" Ct (spTriInit Ct) := by
  obtain ⟨f, fd, M, F, b⟩ := D.ex
  refine ⟨f, fd, ps_Trial_init, M, F.ok sc_Trial_init (fun vs H Q E h => ?_) (fun cdv A outer s0 H vs Q E hr h => ?_), S.g, b⟩
  · obtain ⟨x, dx, s, rfl, _⟩ := h
    rfl
  · obtain ⟨x, dx, s, rfl, hx, k⟩ := h
    refine ⟨_, (pss_cons (ps_fld (pv 0) (pv 1) rfl)
      (pss_one (ps_fld (pv 0) pe_non rfl))), ?_⟩
    refine ⟨_, rfl, _, rfl, x, Ct, dx, [], rfl, hx, S.cl, S.nS, by decide, ?_⟩
    generalize hG : upd H x _ = G1
    have k1 : Kp [x] H G1 := hG ▸ kp_upd
    have e1 : G1 x = some (.ins Ct dx [("shelf", .ref s)]) := by rw [← hG]; exact upd_same
    clear hG
    refine ⟨_, rfl, x, Ct, dx, _, rfl, e1, S.cl, S.nE, by show 1 < 1000; decide, ?_⟩
    generalize hG : upd G1 x _ = G2
    have k2 : Kp [x] G1 G2 := hG ▸ kp_upd
    have e2 : G2 x = some (.ins Ct dx (triF s .non)) := by rw [← hG]; exact upd_same
    exact k G2 (k1.trans k2) ⟨dx, e2⟩
def spEntInit (C Ce : Addr) : Sp := fun vs H Q _ => ∃ (x dx s ds n a b c : Addr) (z : Bool) (o : V), vs = [.ref x, .ref s, o] ∧ H x = some (.ins Ce dx []) ∧ H s = some (.ins C ds (sflds n a b c z)) ∧ ∀ G, Kp [x] H G → EntAt Ce G x a b c o → Q .non G
theorem mak_ent (B : Bi mg) (Z : ShlC K mg C) (S : EntC K mg Ce) (D : EntInitAt K Ce) : Mak P w K mg base 2 "Entry" Ce (spEntInit C Ce) := by
  obtain ⟨f, fd, M, F, b⟩ := D.ex
  refine ⟨f, fd, ps_Entry_init, M, F.ok sc_Entry_init (fun vs H Q E h => ?_) (fun cdv A outer s0 H vs Q E hr h => ?_), S.g, b⟩
  · obtain ⟨x, dx, s, ds, n, a, b, c, z, o, rfl, _⟩ := h
    rfl
  · obtain ⟨x, dx, s, ds, n, a, b, c, z, o, rfl, hx, hs, k⟩ := h
    have nsx : s ∉ [x] := fun y => by
      rw [List.mem_singleton.mp y, hx] at hs
      injection hs with hs
      injection hs with _ _ hs
      cases hs
    refine ⟨_, (pss_cons (ps_fld (pv 0) (pe_fld (pv 1) rfl) rfl)
      (pss_cons (ps_fld (pv 0) (pe_fld (pv 1) rfl) rfl)
      (pss_cons (ps_fld (pv 0) (pe_fld (pv 1) rfl) rfl)
      (pss_one (ps_fld (pv 0) (pv 2) rfl))))), ?_⟩
    refine ⟨_, rfl, s, C, ds, _, _, rfl, hs, Z.cl, Z.nT, sf_texts, _, rfl, x, Ce, dx, [], rfl, hx, S.cl, S.nT, by decide, ?_⟩
    generalize hG : upd H x _ = G1
    have k1 : Kp [x] H G1 := hG ▸ kp_upd
    have e1 : G1 x = some (.ins Ce dx [("texts", .ref a)]) := by rw [← hG]; exact upd_same
    clear hG
    have hs1 := k1 _ _ hs nsx
    refine ⟨_, rfl, s, C, ds, _, _, rfl, hs1, Z.cl, Z.nM, sf_names, _, rfl, x, Ce, dx, _, rfl, e1, S.cl, S.nM, by show 1 < 1000; decide, ?_⟩
    generalize hG : upd G1 x _ = G2
    have k2 : Kp [x] G1 G2 := hG ▸ kp_upd
    have e2 : G2 x = some (.ins Ce dx [("texts", .ref a), ("names", .ref b)]) := by rw [← hG]; exact upd_same
    clear hG
    have hs2 := k2 _ _ hs1 nsx
    refine ⟨_, rfl, s, C, ds, _, _, rfl, hs2, Z.cl, Z.nP, sf_past, _, rfl, x, Ce, dx, _, rfl, e2, S.cl, S.nP, by show 2 < 1000; decide, ?_⟩
    generalize hG : upd G2 x _ = G3
    have k3 : Kp [x] G2 G3 := hG ▸ kp_upd
    have e3 : G3 x = some (.ins Ce dx [("texts", .ref a), ("names", .ref b), ("past", .ref c)]) := by rw [← hG]; exact upd_same
    clear hG
    refine ⟨_, rfl, _, rfl, x, Ce, dx, _, rfl, e3, S.cl, S.nO, by show 3 < 1000; decide, ?_⟩
    generalize hG : upd G3 x _ = G4
    have k4 : Kp [x] G3 G4 := hG ▸ kp_upd
    have e4 : G4 x = some (.ins Ce dx (entF a b c o)) := by rw [← hG]; exact upd_same
    exact k G4 ((k1.trans k2).trans (k3.trans k4)) ⟨dx, e4⟩
/-! entered, left -/
def spEnter (C Ct Ce : Addr) : Sp := fun vs H Q _ => ∃ (t s ds n a b c : Addr) (z : Bool) (o : V), vs = [.ref t] ∧ TrialAt Ct H t s o ∧ H s = some (.ins C ds (sflds n a b c z)) ∧ ∀ e G, H e = none → Kp [t] H G → TrialAt Ct G t s (.ref e) → EntAt Ce G e a b c o → Q (.ref s) G
theorem cal_enter (B : Bi mg) (Y : TriC K mg Ct) (D : MethAt K Ct "__enter__" "Trial.__enter__" s_Trial_enter ps_Trial_enter) (M_Entry : Mak P w K mg base 2 "Entry" Ce (spEntInit C Ce)) : CalM P w K mg base 4 Ct "__enter__" ps_Trial_enter (spEnter C Ct Ce) := by
  refine D.cal sc_Trial_enter (fun vs H Q E h => ?_) (fun f cdv A outer s0 H vs Q E hr h => ?_)
  · obtain ⟨t, s, ds, n, a, b, c, z, o, rfl, _⟩ := h
    rfl
  · obtain ⟨t, s, ds, n, a, b, c, z, o, rfl, ⟨dt, ht⟩, hs, k⟩ := h
    refine ⟨_, (pss_cons (ps_fld (pv 0) (pe_new M_Entry hr (by decide) (by rfl) (pa_cons (pe_fld (pv 0) rfl) (pa_cons (pe_fld (pv 0) rfl) pa_nil))) rfl)
      (pss_one (ps_ret (pe_fld (pv 0) rfl)))), ?_⟩
    refine ⟨_, rfl, t, Ct, dt, _, _, rfl, ht, Y.cl, Y.nS, rfl, _, rfl, t, Ct, dt, _, _, rfl, ht, Y.cl, Y.nE, rfl, ?_⟩
    refine fun e de ne nd nn => ⟨e, de, s, ds, n, a, b, c, z, o, rfl, upd_same, same_mk ne nd nn _ _ hs, fun G1 k1 hE => ⟨rfl, ?_⟩⟩
    have tne : t ≠ e := ne_of_none ht ne
    have s1 : Same H G1 := fun b o e2 => k1 b o (same_mk ne nd nn b o e2) fun y => (by rw [List.mem_singleton.mp y, ne] at e2; cases e2)
    refine ⟨_, rfl, t, Ct, dt, _, rfl, s1 _ _ ht, Y.cl, Y.nE, by show 2 < 1000; decide, ?_⟩
    generalize hG : upd G1 t _ = G2
    have k2 : Kp [t] G1 G2 := hG ▸ kp_upd
    have e2 : G2 t = some (.ins Ct dt (triF s (.ref e))) := by rw [← hG]; exact upd_same
    clear hG
    refine ⟨_, rfl, t, Ct, dt, _, _, rfl, e2, Y.cl, Y.nS, rfl, ?_⟩
    obtain ⟨de2, hE⟩ := hE
    exact k e G2 ne ((Kp.same s1).trans k2) ⟨dt, e2⟩ ⟨de2, k2 _ _ hE fun y => tne (List.mem_singleton.mp y).symm⟩
def spExit (C Ct Ce : Addr) : Sp := fun vs H Q _ => ∃ (t s e ds n a b c a1 b1 c1 : Addr) (z : Bool) (o x1 x2 x3 : V), vs = [.ref t, x1, x2, x3] ∧ TrialAt Ct H t s (.ref e) ∧ EntAt Ce H e a b c o ∧ H s = some (.ins C ds (sflds n a1 b1 c1 z)) ∧ ∀ G, Kp [t, s] H G → TrialAt Ct G t s o → G s = some (.ins C ds (sflds n a b c z)) → Q .non G
theorem cal_exit (B : Bi mg) (Z : ShlC K mg C) (Y : TriC K mg Ct) (X : EntC K mg Ce) (D : MethAt K Ct "__exit__" "Trial.__exit__" s_Trial_exit ps_Trial_exit) : CalM P w K mg base 2 Ct "__exit__" ps_Trial_exit (spExit C Ct Ce) := by
  refine D.cal sc_Trial_exit (fun vs H Q E h => ?_) (fun f cdv A outer s0 H vs Q E hr h => ?_)
  · obtain ⟨t, s, e, ds, n, a, b, c, a1, b1, c1, z, o, x1, x2, x3, rfl, _⟩ := h
    rfl
  · obtain ⟨t, s, e, ds, n, a, b, c, a1, b1, c1, z, o, x1, x2, x3, rfl, ⟨dt, ht⟩, ⟨de, he⟩, hs, k⟩ := h
    have ns : ∀ {dx : Addr} {fs : List (Str × V)} {x D : Addr}, H x = some (.ins D dx fs) → fs.length ≤ 4 → x ≠ s := fun hx l y => by
      rw [y, hs] at hx
      injection hx with hx
      injection hx with _ _ hx
      rw [← hx] at l
      exact absurd l (by show ¬ (5 ≤ 4); decide)
    have nts := ns ht (by show 2 ≤ 4; decide)
    have nes := ns he (by show 4 ≤ 4; decide)
    refine ⟨_, (pss_cons (ps_fld (pe_fld (pv 0) rfl) (pe_fld (pe_fld (pv 0) rfl) rfl) rfl)
      (pss_cons (ps_fld (pe_fld (pv 0) rfl) (pe_fld (pe_fld (pv 0) rfl) rfl) rfl)
      (pss_cons (ps_fld (pe_fld (pv 0) rfl) (pe_fld (pe_fld (pv 0) rfl) rfl) rfl)
      (pss_one (ps_fld (pv 0) (pe_fld (pe_fld (pv 0) rfl) rfl) rfl))))), ?_⟩
    refine ⟨_, rfl, t, Ct, dt, _, _, rfl, ht, Y.cl, Y.nE, rfl, e, Ce, de, _, _, rfl, he, X.cl, X.nT, rfl, _, rfl, t, Ct, dt, _, _, rfl, ht, Y.cl, Y.nS, rfl, s, C, ds, _, rfl, hs, Z.cl, Z.nT, by show 5 < 1000; decide, ?_⟩
    rw [put_texts]
    generalize hG : upd H s _ = G1
    have k1 : Kp [s] H G1 := hG ▸ kp_upd
    have g1 : G1 s = some (.ins C ds (sflds n a b1 c1 z)) := by rw [← hG]; exact upd_same
    clear hG
    have no : ∀ {x : Addr}, x ≠ s → x ∉ [s] := fun h y => h (List.mem_singleton.mp y)
    have ht1 := k1 _ _ ht (no nts)
    have he1 := k1 _ _ he (no nes)
    refine ⟨_, rfl, t, Ct, dt, _, _, rfl, ht1, Y.cl, Y.nE, rfl, e, Ce, de, _, _, rfl, he1, X.cl, X.nM, rfl, _, rfl, t, Ct, dt, _, _, rfl, ht1, Y.cl, Y.nS, rfl, s, C, ds, _, rfl, g1, Z.cl, Z.nM, by show 5 < 1000; decide, ?_⟩
    rw [put_names]
    generalize hG : upd G1 s _ = G2
    have k2 : Kp [s] G1 G2 := hG ▸ kp_upd
    have g2 : G2 s = some (.ins C ds (sflds n a b c1 z)) := by rw [← hG]; exact upd_same
    clear hG
    have ht2 := k2 _ _ ht1 (no nts)
    have he2 := k2 _ _ he1 (no nes)
    refine ⟨_, rfl, t, Ct, dt, _, _, rfl, ht2, Y.cl, Y.nE, rfl, e, Ce, de, _, _, rfl, he2, X.cl, X.nP, rfl, _, rfl, t, Ct, dt, _, _, rfl, ht2, Y.cl, Y.nS, rfl, s, C, ds, _, rfl, g2, Z.cl, Z.nP, by show 5 < 1000; decide, ?_⟩
    rw [put_past]
    generalize hG : upd G2 s _ = G3
    have k3 : Kp [s] G2 G3 := hG ▸ kp_upd
    have g3 : G3 s = some (.ins C ds (sflds n a b c z)) := by rw [← hG]; exact upd_same
    clear hG
    have ht3 := k3 _ _ ht2 (no nts)
    have he3 := k3 _ _ he2 (no nes)
    refine ⟨_, rfl, t, Ct, dt, _, _, rfl, ht3, Y.cl, Y.nE, rfl, e, Ce, de, _, _, rfl, he3, X.cl, X.nO, rfl, _, rfl, t, Ct, dt, _, rfl, ht3, Y.cl, Y.nE, by show 2 < 1000; decide, ?_⟩
    generalize hG : upd G3 t _ = G4
    have k4 : Kp [t] G3 G4 := hG ▸ kp_upd
    have g4 : G4 t = some (.ins Ct dt (triF s o)) := by rw [← hG]; exact upd_same
    clear hG
    refine k G4 (((k1.trans (k2.trans k3)).mono fun b hb => List.mem_cons_of_mem _ hb).trans (k4.mono fun b hb => by rw [List.mem_singleton.mp hb]; exact List.mem_cons_self ..)) ⟨dt, g4⟩ (k4 _ _ g3 fun y => nts (List.mem_singleton.mp y).symm)
/-! shelf.trial() -/
def spTrial (C N Ct : Addr) : Sp := fun vs H Q _ => ∃ (s : Addr) (S : Sf), vs = [.ref s] ∧ ShelfAt C N H s S ∧ S.busy = false ∧ ∀ t G, H t = none → Same H G → TrialAt Ct G t s .non → Q (.ref t) G
theorem cal_trial (B : Bi mg) (Z : ShlC K mg C) (D : MethAt K C "trial" "Shelf.trial" s_Shelf_trial ps_Shelf_trial) (M_check_not_busy : CalM P w K mg base 1 C "check_not_busy" ps_Shelf_check_not_busy (spCalmS C N)) (M_Trial : Mak P w K mg base 2 "Trial" Ct (spTriInit Ct)) : CalM P w K mg base 4 C "trial" ps_Shelf_trial (spTrial C N Ct) := by
  refine D.cal sc_Shelf_trial (fun vs H Q E h => ?_) (fun f cdv A outer s0 H vs Q E hr h => ?_)
  · obtain ⟨s, S, rfl, _⟩ := h
    rfl
  · obtain ⟨s, S, rfl, hS, bz, k⟩ := h
    obtain ⟨dx, n, a, b, c, e0, _⟩ := id hS.ex
    refine ⟨_, (pss_cons (ps_expr (pe_mth0 M_check_not_busy Z.cl hr (by decide) (pv 0)))
      (pss_one (ps_ret (pe_new M_Trial hr (by decide) (by rfl) (pa_cons (pv 0) pa_nil))))), ?_⟩
    refine ⟨_, rfl, s, dx, _, rfl, e0, rfl, s, S, rfl, hS, bz, ?_⟩
    refine ⟨_, rfl, fun t dt nt nd ne => ⟨t, dt, s, rfl, upd_same, fun G k1 hT => ⟨rfl, ?_⟩⟩⟩
    exact k t G nt (fun b o e2 => k1 b o (same_mk nt nd ne b o e2) fun y => (by rw [List.mem_singleton.mp y, nt] at e2; cases e2)) hT
end
end Gu
namespace Gu
open PySem PySem.Spec PyProof PyProof.Rows L2 LamX
/-! ### within, attempt -/
section
variable {C N Ct Ce p s t : Addr} {l : List Addr} {H G J L : Hp} {S : Sf}
/-- at the places of l stand instances -/
def Ins (l : List Addr) (J : Hp) : Prop := ∀ b ∈ l, ∃ (C dx : Addr) (fs : List (Str × V)), J b = some (.ins C dx fs)
theorem Ins.off (m : Ins l J) {q : Addr} {o : HO} (e : J q = some o) (n : ∀ a b c, o ≠ .ins a b c) : q ∉ l := fun hq => by
  obtain ⟨C, dx, fs, f⟩ := m q hq
  rw [e] at f
  exact n _ _ _ (Option.some.inj f)
theorem Ins.tup (m : Ins l J) (k : Kp l J L) {q : Addr} {xs : List V} (e : J q = some (.tup xs)) : L q = some (.tup xs) := k _ _ e (m.off e fun _ _ _ z => by cases z)
theorem FT.kpI (m : Ins l J) (k : Kp l J L) {q : Addr} {xs : List V} (h : FT J q xs) : FT L q xs := by
  obtain ⟨o, e, r⟩ := h
  exact ⟨o, k _ _ e (m.off e fun _ _ _ z => by cases z), r⟩
theorem PastAt.kpI (m : Ins l J) (k : Kp l J L) {c : Addr} {past : List Prs} (h : PastAt J c past) : PastAt L c past := by
  obtain ⟨qs, e, h1, h2⟩ := h
  refine ⟨qs, m.tup k e, h1, fun q hq => ?_⟩
  obtain ⟨a, b, e1, e2, e3⟩ := h2 q hq
  exact ⟨a, b, m.tup k e1, m.tup k e2, e3.kpI m k⟩
theorem mut_ins (mu : Muts C N l G) {x D dx : Addr} {fs : List (Str × V)} (e : G x = some (.ins D dx fs)) (n : fs.length ≤ 4) : x ∉ l := fun hx => by
  rcases mu x hx with ⟨a, b, c, f⟩ | ⟨S, h⟩
  · rw [e] at f
    cases f
  · obtain ⟨_, _, _, _, _, f, _⟩ := h.ex
    rw [e] at f
    injection f with f
    injection f with _ _ f
    rw [f] at n
    exact absurd n (by show ¬ (5 ≤ 4); decide)
theorem nm_tri {M q : Addr} {so : Str} {w : Int} {o : V} (h : NmAt M J q so w) (ht : TrialAt Ct J t s o) : q ≠ t := fun z => by
  obtain ⟨d, e⟩ := h
  obtain ⟨dt, f⟩ := ht
  rw [z, f] at e
  injection e with e
  injection e with _ _ e
  have a := nflds_rule so w
  rw [← e] at a
  cases a
theorem nm_shelf {M q : Addr} {so : Str} {w : Int} (h : NmAt M J q so w) (hs : ShelfAt C N J s S) : q ∉ [s] := Muts.nm (C := C) (N := N) (l := [s]) (fun b hb => .inr ⟨S, by rw [List.mem_singleton.mp hb]; exact hs⟩) h
/-- the shelf when it is left again -/
def Sf.left (T S : Sf) : Sf := { T with ps := S.ps, past := S.past }
end
section
variable {P : Program} {w : World} {K : PySem.W.Frag} {mg : Str → Option Value} {base : Heap} {C N Ct Ce : Addr} {j k : Nat}
def spWithin (C Ct Ce : Addr) : SpA := fun v R c' q H Q => ∃ (t s ds n a b c : Addr) (z : Bool) (o : V), v = .ref t ∧ TrialAt Ct H t s o ∧ H s = some (.ins C ds (sflds n a b c z)) ∧ ∀ e G, H e = none → Kp [t] H G → TrialAt Ct G t s (.ref e) → EntAt Ce G e a b c o →
  R (.ref s) E0 G (fun w J => spExit C Ct Ce (.ref t :: nons) J (fun _ L => Q w L) E0)
theorem cal_within (B : Bi mg) (D : At K mg "within" s_within ps_within) (h4 : 4 ≤ k) (hjk : j ≤ k) (M_enter : CalM P w K mg base 4 Ct "__enter__" ps_Trial_enter (spEnter C Ct Ce)) (M_exit : CalM P w K mg base 2 Ct "__exit__" ps_Trial_exit (spExit C Ct Ce)) : CalA P w K mg base j (k + 1) "within" ps_within (spWithin C Ct Ce) := by
  refine D.calA sc_within rfl (fun f cdv A outer s0 H v g c' q R Q hr gq act off hc h => ?_)
  obtain ⟨t, s, ds, n, a, b, c, z, o, rfl, hT, hs, k1⟩ := h
  obtain ⟨dt, ht⟩ := id hT
  refine ⟨_, (pss_one (ps_withN M_enter M_exit hr h4 (Nat.le_trans (by decide) h4) sc_within.nd (i := 2) rfl (.inl rfl) rfl (pv 0) (pss_one (ps_ret (pe_act1 (i := 1) act off rfl hr hjk gq rfl (.inl rfl) (pa_cons (pv 2) pa_nil)))) (.inr rfl))), ?_⟩
  refine ⟨_, rfl, t, dt, _, rfl, ht, t, s, ds, n, a, b, c, z, o, rfl, hT, hs, fun e G ne kG hTG hEG => ?_⟩
  have hcG : G c' = some (CodeO c' q) := kG _ _ hc fun y => by
    rw [List.mem_singleton.mp y, ht] at hc
    unfold CodeO at hc
    cases hc
  exact ⟨rfl, _, rfl, _, rfl, hcG, k1 e G ne kG hTG hEG⟩
/-- what leaving asks: all but pots and shelves stands -/
theorem exit_ok {l : List Addr} {G J : Hp} {t s e a b c : Addr} {S S' : Sf} {o : V} {Q : VK} {E : XK} (mu : Muts C N l G) (kJ : KpN l G J) (hT : TrialAt Ct G t s (.ref e)) (hE : EntAt Ce G e a b c o) (ha : G a = some (.tup (txts S.ps))) (hb : FT G b (nms S.ps)) (hp : PastAt G c S.past) (hS : ShelfAt C N J s S')
    (k : ∀ L, Kp [t, s] J L → Ins [t, s] J → TrialAt Ct L t s o → ShelfAt C N L s (S'.left S) → Q .non L) : spExit C Ct Ce (.ref t :: nons) J Q E := by
  obtain ⟨dt, ht⟩ := hT
  obtain ⟨de, he⟩ := hE
  have htJ := kJ _ _ ht (mut_ins mu ht (by show 2 ≤ 4; decide)) fun _ z => by cases z
  have heJ := kJ _ _ he (mut_ins mu he (by show 4 ≤ 4; decide)) fun _ z => by cases z
  obtain ⟨ds, n, a1, b1, c1, e0, e1, e2, e3, e4⟩ := id hS.ex
  have ins : Ins [t, s] J := fun x hx => by
    rcases List.mem_cons.mp hx with rfl | hx
    · exact ⟨_, _, _, htJ⟩
    · rw [List.mem_singleton.mp hx]
      exact ⟨_, _, _, e0⟩
  refine ⟨t, s, e, ds, n, a, b, c, a1, b1, c1, S'.busy, o, .non, .non, .non, rfl, ⟨dt, htJ⟩, ⟨de, heJ⟩, e0, fun L kL hTL hSL => ?_⟩
  have hnL : NmAt N L n S'.so S'.w := by
    obtain ⟨d, ed⟩ := id e1
    refine ⟨d, kL _ _ ed fun z => ?_⟩
    rcases List.mem_cons.mp z with z | z
    · exact nm_tri e1 ⟨dt, htJ⟩ z
    · exact nm_shelf e1 hS z
  exact k L kL ins hTL ⟨ds, n, a, b, c, hSL, hnL, ins.tup kL (kJ.tup mu ha), (hb.kpN mu kJ).kpI ins kL, (hp.kpN mu kJ).kpI ins kL⟩
def spAttempt (C N Ct Ce : Addr) : SpA := fun v R c' q H Q => ∃ (s : Addr) (S : Sf), v = .ref s ∧ ShelfAt C N H s S ∧ S.busy = false ∧ ∀ t e G a b c, Same H G → H t = none → TrialAt Ct G t s (.ref e) → EntAt Ce G e a b c .non → ShelfAt C N G s S → G a = some (.tup (txts S.ps)) → FT G b (nms S.ps) → PastAt G c S.past →
  R (.ref s) E0 G (fun w J => spExit C Ct Ce (.ref t :: nons) J (fun _ L => Q w L) E0)
theorem cal_attempt (B : Bi mg) (Z : ShlC K mg C) (I : ShlI K C) (D : At K mg "attempt" s_attempt ps_attempt) (h4 : 4 ≤ k) (M_trial : CalM P w K mg base 4 C "trial" ps_Shelf_trial (spTrial C N Ct)) (C_within : CalA P w K mg base j (k + 1) "within" ps_within (spWithin C Ct Ce)) : CalA P w K mg base j (k + 2) "attempt" ps_attempt (spAttempt C N Ct Ce) := by
  refine D.calA sc_attempt rfl (fun f cdv A outer s0 H v g c' q R Q hr gq act off hc h => ?_)
  obtain ⟨s, S, rfl, hS, bz, k1⟩ := h
  obtain ⟨ds, n, a, b, c, e0, e1, e2, e3, e4⟩ := id hS.ex
  refine ⟨_, (pss_cons (ps_if (pt_not (pt_val (pe_callB (id := "isinstance") (r := rIsi K) call_isi (by rfl) B.isinstance (by decide +kernel) (pa_cons (pv 0) (pa_cons (pe_glob (v := .ref C) (by rfl) Z.g rfl) pa_nil))))) pss_never pss_nil)
      (pss_one (ps_ret (pe_hand C_within act off rfl hr (Nat.le_refl _) gq (by rfl) rfl (pa_cons (pe_mth0 M_trial Z.cl hr (Nat.le_trans h4 (Nat.le_succ _)) (pv 0)) (pa_cons (pv 1) pa_nil)))))), ?_⟩
  refine ⟨_, rfl, _, _, .ref C, _, true, rfl, I.ow, I.ty e0, I.kk, _, rfl, iteF ?_⟩
  refine ⟨_, rfl, s, ds, _, rfl, e0, rfl, s, S, rfl, hS, bz, fun t G1 nt s1 hT => ?_⟩
  refine ⟨_, rfl, _, rfl, s1 _ _ hc, t, s, ds, n, a, b, c, S.busy, .non, rfl, hT, s1 _ _ e0, fun e G ne kG hTG hEG => ?_⟩
  have s2 : Same H G := fun x o e5 => kG x o (s1 _ _ e5) fun z => (by rw [List.mem_singleton.mp z, nt] at e5; cases e5)
  exact k1 t e G a b c s2 nt hTG hEG (hS.same s2) (s2 _ _ e2) (e3.same s2) (e4.same s2)
end
end Gu
namespace Gu
open PySem PySem.Spec PyProof.Rows L2 LamX
/-! ### what draws leave: the law's pairs, shelves, tables -/
def tMidT (t : TT) : TT := fun σ H Q => ∃ M : Bool → Hp → Prop, t σ H M ∧ ∀ b G, M b G → Q b G
theorem pt_mid {X : Cx} {e : Expr} {t : TT} (d : PT X e t) : PT X e (tMidT t) := ⟨fun pins s σ H Q I ⟨M, m, k⟩ => thn (d.run pins s σ H M I m) fun c s1 ⟨H1, I1, q1⟩ => ⟨H1, I1, k _ _ q1⟩⟩
section
variable {K : PySem.W.Frag} {C N p s : Addr} {l : List Addr} {H G J : Hp} {S : Sf} {T : List (Addr × Str)}
theorem shelf_pot8 (h : ShelfAt C N J s S) (hp : Pot J p) : s ≠ p := fun z => by
  obtain ⟨x, y, d, f⟩ := hp
  obtain ⟨_, _, _, _, _, e, _⟩ := h.ex
  rw [z, f] at e
  cases e
theorem ShelfAt.lad8 (L : Ladled p J G) (hp : Pot J p) (h : ShelfAt C N J s S) : ShelfAt C N G s S := h.kp (fun b hb => .inl (by rw [List.mem_singleton.mp hb]; exact hp)) (Kp.lad L) (off1 (shelf_pot8 h hp))
theorem LW.lad (a : LW T l H G) (hp : Pot G p) (L : Ladled p G J) (m : p ∈ l) : LW T l H J :=
  ⟨a.kp.trans ((KpN.kp (Kp.lad L)).mono fun b hb => by rw [List.mem_singleton.mp hb]; exact m), tabs_kp (C := 0) (N := 0) (fun b hb => .inl (by rw [List.mem_singleton.mp hb]; exact hp)) (Kp.lad L) a.tabs, a.sys.kpN (C := 0) (N := 0) (l := [p]) (fun b hb => .inl (by rw [List.mem_singleton.mp hb]; exact hp)) (KpN.kp (Kp.lad L))⟩
theorem pot_kpN (hp : Pot J p) (k : KpN l J G) (n : p ∉ l) : Pot G p := by
  obtain ⟨a, b, d, f⟩ := hp
  exact ⟨a, b, d, k _ _ f n fun _ z => by cases z⟩
theorem pot_ext (hp : Pot J p) (k : ExtN J G) : Pot G p := by
  obtain ⟨a, b, d, f⟩ := hp
  exact ⟨a, b, d, k _ _ f fun _ z => by cases z⟩
end
end Gu
namespace Gu
open PySem PySem.Spec PyProof PyProof.Rows L2 LamX
/-! ### where instances change -/
section
variable {C N p s : Addr} {l r : List Addr} {H G J : Hp} {S : Sf} {T : List (Addr × Str)}
theorem tabs_ins (m : Ins r H) (k : Kp r H G) (t : Tabs T H) : Tabs T G :=
  t.of (fun _ _ h1 => k _ _ h1 (m.off h1 fun _ _ _ z => by cases z)) (fun _ _ e2 => k _ _ e2 (m.off e2 fun _ _ _ z => by unfold CodeO at z; cases z))
theorem sys_ins (m : Ins r H) (k : Kp r H G) (h : Sys H) : Sys G := by
  obtain ⟨o, u, e⟩ := h
  exact ⟨o, u, k _ _ e (m.off e fun _ _ _ z => by cases z)⟩
/-- at s stood nothing, or a table -/
def Nw (H : Hp) (s : Addr) : Prop := ∀ o, H s = some o → (∀ ps, o ≠ .tbl ps) → False
theorem LW.insN (a : LW T l H G) (m : Ins r G) (k : Kp r G J) (n : ∀ b ∈ r, b ∉ l → Nw H b) : LW T l H J := ⟨fun b o e nb q => k _ _ (a.kp b o e nb q) fun z => n b z nb o e q, tabs_ins m k a.tabs, sys_ins m k a.sys⟩
theorem ins_sh (h : ShelfAt C N H s S) : Ins [s] H := fun b hb => by
  rw [List.mem_singleton.mp hb]
  obtain ⟨dx, _, _, _, _, e, _⟩ := h.ex
  exact ⟨_, _, _, e⟩
theorem LW.sh (a : LW T [p] H G) (h : ShelfAt C N G s S) (k : Kp [s] G J) (n : Nw H s) : LW T [p] H J := a.insN (ins_sh h) k fun b hb _ => by rw [List.mem_singleton.mp hb]; exact n
theorem LW.ladT (a : LW T [p] H G) (hp : Pot G p) : LadT T p H G := ⟨hp, fun c o e n q => a.kp c o e (fun z => n (List.mem_singleton.mp z)) q, a.tabs, a.sys⟩
theorem pot_ins (m : Ins r J) (k : Kp r J G) (hp : Pot J p) : Pot G p := by
  obtain ⟨x, y, d, f⟩ := hp
  exact ⟨x, y, d, k _ _ f (m.off f fun _ _ _ z => by cases z)⟩
theorem LW.nw (a : LW T [p] H G) (e : G s = none) (n : s ≠ p) : Nw H s := fun o f q => by
  have := a.kp s o f (fun z => n (List.mem_singleton.mp z)) q
  rw [e] at this
  cases this
end
end Gu
namespace Gu
open PySem PySem.Spec PyProof PyProof.Rows L2 LamX
/-! ### with, left by an error -/
section
variable {prog : Program} {w : World} {A : Around} {E : Value → Shared → Prop} {s : Shared} {env : Env} {K : PySem.W.Frag} {x C fe fx : Addr} {ox : Obj} {od : Option Obj} {pos : Pos}
/-- what comes behind an error of the block -/
def WithTail (prog : Program) (w : World) (A : Around) (env : Env) (x fx : Addr) (Q : Flow → Shared → Prop) (E : Value → Shared → Prop) (e : Value) (s : Shared) : Prop :=
  some e ≠ some byPass ∧ wpAny (model prog w) A (noteFrame e env) (fun _ s2 => wpAny (model prog w) A (setFlight e none) (fun _ s3 =>
    wpAny (model prog w) A (typeOf e) (fun te s4 => wpAny (model prog w) A (tracebackOf e) (fun tb s5 =>
      codeAny (model prog w) (A.mark (some e)) (.call (.ref fx) ⟨[.ref x, te, e, tb], []⟩) (fun r s6 => match r with
        | .ok (.ret u) => u = .none ∧ wpAny (model prog w) A (passOn "with" e env : Sem Flow) Q E s6
        | .ok _ => False
        | .error e' => E e' s6) s5) E s4) E s3) E s2) E s
theorem kw_coreX {b : Value → Sem Unit} {bdy : Sem Flow} {Q : Flow → Shared → Prop} (X : K.In s.heap) (I : PySem.W.InstAt s.heap x ox C od) (he : PySem.W.findIn K (.ref C) "__enter__" = some (some (.ref fe))) (hfe : PySem.W.isFn K (.ref fe) = true) (hx : PySem.W.findIn K (.ref C) "__exit__" = some (some (.ref fx))) (hfx : PySem.W.isFn K (.ref fx) = true)
    (h : wpAny (model prog w) A (call (.ref fe) [.ref x]) (fun v s₂ => wpAny (model prog w) A (b v) (fun _ s₃ => wpAny (model prog w) A bdy (fun f s₄ => wpAny (model prog w) A (call (.ref fx) [.ref x, .none, .none, .none]) (fun _ s₅ => Q f s₅) E s₄) (WithTail prog w A env x fx Q E) s₃) (fun _ _ => False) s₂) E s) :
    wpAny (model prog w) A (withItem false pos env (pure (.ref x)) (some b) bdy) Q E s := by
  obtain ⟨cd, hcd, ae⟩ := PySem.W.kw_along he
  obtain ⟨cd', hcd', ax⟩ := PySem.W.kw_along hx
  cases hcd.symm.trans hcd'
  obtain ⟨hh, g, d, tt, os⟩ := s
  have L1 : PySem.W.Looks (model prog w) hh (specialOnItsLine (.ref x) "__enter__") (some (.ref fe), cd.mro) := PySem.W.kw_special X I hcd ae
  have L2 : PySem.W.Looks (model prog w) hh (specialOnItsLine (.ref x) "__exit__") (some (.ref fx), cd.mro) := PySem.W.kw_special X I hcd ax
  have L3 : PySem.W.Looks (model prog w) hh (bindSpecial (.ref fe) (.ref x)) (.ref fe, [.ref x]) := PySem.W.bind_fn X _ (beq_iff_eq.mp hfe)
  have L4 : PySem.W.Looks (model prog w) hh (bindSpecial (.ref fx) (.ref x)) (.ref fx, [.ref x]) := PySem.W.bind_fn X _ (beq_iff_eq.mp hfx)
  have L5 : PySem.W.Looks (model prog w) hh (aMethodOfAnotherBuiltinTypeStops (.ref fe) cd.mro) () := PySem.W.Looks.of_pure rfl
  have L6 : PySem.W.Looks (model prog w) hh (aMethodOfAnotherBuiltinTypeStops (.ref fx) cd.mro) () := PySem.W.Looks.of_pure rfl
  unfold withItem
  refine wpAny_bind (wpAny_pure ?_)
  refine wpAny_bind (wpAny_standAt ?_)
  simp only [Bool.false_eq_true, if_false]
  open PySem.W in kw_lk
  refine wpAny_mono h (fun v s₂ h₂ => ?_) fun _ _ z => z
  open PySem.W in kw_lk
  refine wpAny_attempt (PySem.W.kw_held ?_)
  show wpAny _ _ (b v >>= fun _ => bdy) _ _ _
  refine wpAny_bind (wpAny_mono h₂ (fun _ s₃ h₃ => wpAny_mono h₃ (fun f s₄ h₄ => ?_) fun e s₄ h₄ => ?_) fun _ _ z => z.elim)
  · open PySem.W in kw_lk
    refine wpAny_mono h₄ (fun _ s₅ h₅ => ?_) fun _ _ z => z
    open PySem.W in kw_lk
    exact h₅
  · obtain ⟨nb, h4⟩ := h₄
    dsimp only
    refine wpAny_bind (wpAny_mono h4 (fun _ s5 h5 => wpAny_bind (wpAny_mono h5 (fun _ s6 h6 => wpAny_bind (wpAny_standAt (wpAny_holding (wpAny_bind (wpAny_mono h6 (fun te s7 h7 => wpAny_bind (wpAny_mono h7 (fun tb s8 h8 => ?_) fun _ _ z => z)) fun _ _ z => z))))) fun _ _ z => z)) fun _ _ z => z)
    unfold withItem.marked
    refine wpAny_bind (wpAny_bind (wpAny_run (codeAny_mono h8 fun r s9 h9 => ?_) nb))
    cases r with
    | error e' => exact h9
    | ok fl =>
      cases fl with
      | ret u =>
        obtain ⟨rfl, h9⟩ := h9
        refine wpAny_pure (wpAny_bind (wpAny_pure ?_))
        dsimp only
        refine wpAny_bind (wpAny_pure ?_)
        rw [if_neg (by decide)]
        exact h9
      | next => exact (h9 : False).elim
      | brk => exact (h9 : False).elim
      | cont => exact (h9 : False).elim
end
end Gu
namespace Gu
open PySem PySem.Spec PyProof PyProof.Rows L2 LamX
section
variable {X : Cx} {Wout : WX} {x : Addr} {spO : Sp}
/-- what the block's errors have to bring -/
def wExit (x : Addr) (spO : Sp) (Wout : WX) : WX := fun cls d σ H => (∃ c, cls = .ref c) ∧ ∀ x1 x2 x3 : V, spO [.ref x, x1, x2, x3] H (fun v H' => v = .non ∧ Wout cls d σ H') E0
theorem roomM {k : Nat} {A : Around} {o : Option Value} (hr : Room k A) : L2H.RoomH k (A.mark o) :=
  have r := L2H.roomH_of hr
  ⟨r.dp, r.un⟩
theorem with_err {pins : List (Addr × Obj)} {D : Ends} {u : Value} {s1 : Shared} {xe' : Value → Shared → Prop} {fx : Addr} {fd : FuncData} {psO : List Str} {k : Nat} (h1 : X.stack = X.env :: X.outer) (h2 : X.env.frame = some X.env.locals) (h3 : X.ex = []) (ok : X.Ok) (tk : Takes X Wout)
    (FO : FnE X.prog X.w X.K X.mg X.base k fx fd psO fun _ => spO) (bO : Binds X.K fd psO []) (hr : Room k X.A) (xx : XE (X.tr (X.pn ++ pins) xe') (wExit x spO Wout) u s1) : WithTail X.prog X.w X.A X.env x fx (SP X pins D) X.xe u s1 := by
  have fr : X.A.frames = some (X.env :: X.outer) := by rw [ok.frames, h1]
  obtain ⟨a, B, sI, pi, σ1, H1, cls, d, rfl, J0, nb, up, sky0, na, os, ag, ⟨cc, ecls⟩, want⟩ := xx
  have J : Inv X pins σ1 H1 sI := J0.ofTry ok
  have sky : Sky B (X.env :: X.outer) a (Zc cls d) X.env.locals s1.heap := by
    rw [← h1]
    exact sky0
  refine ⟨fun z => ref_ne_byPass a (Option.some.inj z), Sky.land Zc.steady fr h2 sky fun h5 fl up3 => ?_⟩
  have J5 : Inv X pins σ1 H1 { s1 with heap := h5 } := J.landed nb fl.1 (up.trans up3) os ag
  obtain ⟨g1, g2, g3, oe, vs, T, oT, ts, ga, hz, hd, hv, gT0, Ta, gT, hdT, hts⟩ := id fl
  have nT : H1 T = none := (J.inGround nb).gone gT0
  have apart : ∀ {b : Addr} {o : Obj} {fv : Array Value}, h5.get? b = some o → o.data = .fields fv → b ∉ frs (X.env :: X.outer) := fun {b o fv} e dd hm => by
    obtain ⟨_, o2, e2, no⟩ := g3.mem hm
    rw [e] at e2
    cases e2
    exact no _ dd
  have lF : X.env.locals ∈ frs (X.env :: X.outer) := List.mem_filterMap.mpr ⟨X.env, List.mem_cons_self, h2⟩
  have oF : ∀ b, b ∈ X.fs → b ∈ frs (X.env :: X.outer) := fun b hm => by
    obtain ⟨z, hz2, q⟩ := List.mem_filterMap.mp hm
    exact List.mem_filterMap.mpr ⟨z, List.mem_cons_of_mem _ hz2, q⟩
  have fa := apart ga hd
  have fT := apart gT hdT
  have pinOk : ∀ {b : Addr} {o : Obj} {fv : Array Value}, h5.get? b = some o → o.data = .fields fv → H1 b = none → h5.get? b = some o ∧ H1 b = none ∧ b ≠ X.env.locals ∧ b ∉ X.fs ∧ ∀ v, o.data ≠ .cell v := fun {b o fv} e dd nn => by
    have q := apart e dd
    exact ⟨e, nn, fun z => q (by rw [z]; exact lF), fun z => q (oF _ z), fun v z => by rw [dd] at z; cases z⟩
  have S5 : Inv (X.suite a ((a, oe) :: (T, oT) :: (X.pn ++ pins))) [] σ1 H1 { s1 with heap := h5 } := by
    refine ⟨J5.ok.suite _ _, J5.os, J5.bare, J5.base, J5.loc, J5.cell, J5.free, J5.freeC, fun p hp => ?_, J5.hok, J5.len⟩
    rw [List.append_nil] at hp
    rcases List.mem_cons.mp hp with rfl | hp
    · exact pinOk ga hd na
    rcases List.mem_cons.mp hp with rfl | hp
    · exact pinOk gT hdT nT
    · exact J5.pin p hp
  -- the call
  refine wpAny_typeOf_ref ga ?_
  have ec : oe.cls = .ref cc := hz.1.trans ecls
  rw [ec]
  have run : ∀ tb : Value, (∃ v3, RelV v3 tb) → codeAny (model X.prog X.w) (X.A.mark (some (.ref a))) (.call (.ref fx) ⟨[.ref x, .ref cc, .ref a, tb], []⟩) (fun r s6 => match r with
        | .ok (.ret u) => u = .none ∧ wpAny (model X.prog X.w) X.A (PySem.passOn "with" (.ref a) X.env : Sem Flow) (SP X pins D) X.xe s6
        | .ok _ => False
        | .error e' => X.xe e' s6) { s1 with heap := h5 } := fun tb ⟨v3, r3⟩ => by
    have w := want (.ref cc) (.ref a) v3
    have bt := bO { s1 with heap := h5 } [.ref x, .ref cc, .ref a, tb] S5.kIn (FO.len (a, oe) _ _ _ _ w)
    rw [List.append_nil] at bt
    have P1 := S5.pin (a, oe) (List.mem_append_left _ List.mem_cons_self)
    have pin : L2H.PinOk X.stack H1 { s1 with heap := h5 } (a, oe) := ⟨P1.1, P1.2.1, fun hm => (List.mem_cons.mp (S5.stkSub a hm)).elim P1.2.2.1 P1.2.2.2.1, P1.2.2.2.2⟩
    refine codeAny_mono (FO.run (a, oe) (X.A.mark (some (.ref a))) X.stack { s1 with heap := h5 } H1 ⟨[.ref x, .ref cc, .ref a, tb], []⟩ [.ref x, .ref cc, .ref a, tb] [.ref x, .ref cc, .ref a, v3] _ E0 (roomM hr) pin S5.env0 bt (.cons rfl (.cons rfl (.cons rfl (.cons r3 .nil)))) w) fun rr s6 h6 => ?_
    cases rr with
    | error e => exact (h6 : False).elim
    | ok fl2 =>
      cases fl2 with
      | next => exact (h6 : False).elim
      | brk => exact (h6 : False).elim
      | cont => exact (h6 : False).elim
      | ret u =>
        obtain ⟨v, H6, S6, rv, rfl, q⟩ := S5.after h6
        refine ⟨by cases (show u = Value.none from rv); rfl, ?_⟩
        obtain ⟨a1, a2, _⟩ := S6.pin (a, oe) (List.mem_append_left _ List.mem_cons_self)
        obtain ⟨b1, b2, _⟩ := S6.pin (T, oT) (List.mem_append_left _ (List.mem_cons_of_mem _ List.mem_cons_self))
        have J6 : Inv X pins σ1 H6 s6 := ⟨ok, S6.os, S6.bare, S6.base, S6.loc, S6.cell, S6.free, S6.freeC, fun p hp => S6.pin p (List.mem_append_left _ (List.mem_cons_of_mem _ (List.mem_cons_of_mem _ hp))), S6.hok, S6.len⟩
        have far : ∀ b o, sI.heap.get? b = some o → b ≠ a ∧ b ≠ T := fun b o e => by
          by_cases m : b ∈ frs X.stack
          · rw [h1] at m
            exact ⟨fun z => fa (z ▸ m), fun z => fT (z ▸ m)⟩
          · have e2 := nb b o e m
            refine ⟨fun z => ?_, fun z => ?_⟩
            · rw [z, g2] at e2
              cases e2
            · rw [z, gT0] at e2
              cases e2
        have farB : ∀ b o, X.s_0.heap.get? b = some o → b ≠ a ∧ b ≠ T := fun b o e => by
          obtain ⟨o2, e2⟩ := J.base.there b o e (by rw [h3]; simp)
          exact far b o2 e2
        have farP : ∀ p ∈ X.pn ++ pins, p.1 ≠ a ∧ p.1 ≠ T := fun p hp => far p.1 p.2 (J.pin p hp).1
        obtain ⟨G, y1, y2⟩ := restrict s6.heap fun b => !(decide (b = a) || decide (b = T))
        have inG : ∀ b o, G.get? b = some o → s6.heap.get? b = some o ∧ b ≠ a ∧ b ≠ T := fun b o e => by
          cases t : (!(decide (b = a) || decide (b = T))) with
          | false =>
            rw [y2 b t] at e
            cases e
          | true =>
            rw [y1 b t] at e
            simp only [Bool.not_eq_true', Bool.or_eq_false_iff, decide_eq_false_iff_not] at t
            exact ⟨e, t⟩
        have toG : ∀ b o, b ≠ a → b ≠ T → s6.heap.get? b = some o → G.get? b = some o := fun b o n1 n2 e => by
          rw [y1 b (by simp [n1, n2])]
          exact e
        have I6 : Inv X pins σ1 H6 { s6 with heap := G } := J6.less (fun b o e => (inG b o e).1) toG ⟨oe, vs, a1, hd⟩ ⟨oT, ts, b1, hdT⟩ a2 b2 farB farP
        generalize hB : PySem.W.hideAll G (frs X.stack) = B6
        have B6s : ∀ b o, B6.get? b = some o → s6.heap.get? b = some o ∧ b ≠ a ∧ b ≠ T := fun b o e => inG b o (PySem.W.of_hideAll _ (hB ▸ e))
        have B6n : ∀ b, b = a ∨ b = T → B6.get? b = none := fun b m => by
          cases t : B6.get? b with
          | none => rfl
          | some o =>
            obtain ⟨_, n1, n2⟩ := B6s b o t
            exact (m.elim n1 n2).elim
        have fl6 : HandSPX.FlyingZ B6 (X.env :: X.outer) a (Zc cls d) s6.heap := by
          refine ⟨fun b o e => (B6s b o e).1, B6n a (.inl rfl), ?_, oe, vs, T, oT, ts, a1, hz, hd, hv, B6n T (.inr rfl), Ta, b1, hdT, hts⟩
          rw [← h1]
          exact funFrames_none (B := B6) J6.stack fun b m => hB ▸ PySem.W.hideAll_none _ m
        unfold PySem.passOn
        refine wpAny_bind (wpAny_field a1 hd hv ?_)
        rw [if_neg (show ¬ (Value.ref T == Value.none) = true from by simp)]
        have on : wpAny (model X.prog X.w) X.A (setFlight (.ref a) X.env.frame) (fun _ s7 => wpAny (model X.prog X.w) X.A (throw (.ref a) : Sem Flow) (SP X pins D) X.xe s7) X.xe s6 := by
          rw [h2]
          refine HandSPX.setFlight_upZ fl6 fun h7 held7 up7 => wpAny_throw (tk _ _ ⟨a, B6, { s6 with heap := G }, pins, σ1, H6, cls, d, rfl, I6, fun b o e m => ?_, ?_, .inr (.inr ?_), a2, rfl, J6.bare, q⟩)
          · rw [← hB]
            exact PySem.W.hideAll_get _ e m
          · exact Heap.UpToSlots.trans (Heap.UpToSlots.of_keeps fun b o e => (inG b o e).1) up7
          · rw [h1]
            exact held7
        first
          | exact wpAny_bind (wpAny_pure (wpAny_bind on))
          | exact wpAny_bind on
  obtain ⟨f1, hf1⟩ : ∃ f1, ts[1]? = some f1 := by
    have l : 3 < ts.size := (Array.getElem?_eq_some_iff.mp hts).1
    exact ⟨_, Array.getElem?_eq_getElem (by omega)⟩
  unfold PySem.tracebackOf
  refine wpAny_bind (wpAny_field ga hd hv ?_)
  dsimp only
  refine wpAny_bind (wpAny_field gT hdT hf1 ?_)
  split
  · exact wpAny_pure (run .none ⟨.non, rfl⟩)
  · exact wpAny_pure (run (.ref T) ⟨.ref T, rfl⟩)
end
end Gu
namespace Gu
open PySem PySem.Spec PyProof PyProof.Rows L2 LamX
section
variable {prog : Program} {w : World} {A : Around} {E : Value → Shared → Prop} {s : Shared} {env : Env} {K : PySem.W.Frag} {x C fe fx : Addr} {ox : Obj} {od : Option Obj} {pos : Pos} {h₀ : Heap} {L : Addr} {m : Str → Option Value}
theorem kw_inX {y : Str} {py : Pos} {body : List Stmt} {Q : Flow → Shared → Prop} (F : PyProof.Rows.Fr h₀ L s.heap m) (X₀ : K.In h₀) (I : PySem.W.InstAt s.heap x ox C od) (he : PySem.W.findIn K (.ref C) "__enter__" = some (some (.ref fe))) (hfe : PySem.W.isFn K (.ref fe) = true)
    (hx : PySem.W.findIn K (.ref C) "__exit__" = some (some (.ref fx))) (hfx : PySem.W.isFn K (.ref fx) = true)
    (h : wpAny (model prog w) A (call (.ref fe) [.ref x]) (fun v s₂ => wpAny (model prog w) A (storeName env y v) (fun _ s₃ => wpAny (model prog w) A (execs body env) (PySem.W.KwOut prog w A E x fx Q) (WithTail prog w A env x fx Q E) s₃) (fun _ _ => False) s₂) E s) :
    PySem.W.KwIn prog w A E env pos (some y) py body Q (.ref x) s :=
  kw_coreX (b := assign (.Name y py) env) (X₀.keeps F.keep) I he hfe hx hfx (wpAny_mono h (fun _ _ z => wpAny_assign_Name z) fun _ _ z => z)
end
/-- with e as y: body, left by an error too: W what is wished of the block's errors -/
def tWithX (i : Nat) (Ct : Addr) (spI spO : Sp) (Wout : WX) (te : TE) (tb : WX → TS) : TS := fun D σ H => te σ H fun v H1 => ∃ (x dx : Addr) (fs : List (Str × V)), v = .ref x ∧ H1 x = some (.ins Ct dx fs) ∧
  spI [.ref x] H1 (fun u H2 => tb (wExit x spO Wout) { nx := fun σ3 H3 => spO (.ref x :: nons) H3 (fun _ H4 => D.nx σ3 H4) E0, rt := fun v H3 => spO (.ref x :: nons) H3 (fun _ H4 => D.rt v H4) E0, bk := fun σ3 H3 => spO (.ref x :: nons) H3 (fun _ H4 => D.bk σ3 H4) E0, ct := fun σ3 H3 => spO (.ref x :: nons) H3 (fun _ H4 => D.ct σ3 H4) E0 } (σ.set i (some u)) H2) E0
section
variable {X : Cx} {i n kI kO : Nat} {y : Str} {ctx : Expr} {py pos : Pos} {body : List Stmt} {te : TE} {tb : WX → TS} {Ct : Addr} {spI spO : Sp} {psI psO : List Str} {Wout : WX}
theorem ps_withX (mI : CalM X.prog X.w X.K X.mg X.base kI Ct "__enter__" psI spI) {fx : Addr} {fdO : FuncData} (MO : Meth X.K Ct "__exit__" fx) (FO : FnOk X.prog X.w X.K X.mg X.base CX0 kO fx fdO psO spO) (FE : FnE X.prog X.w X.K X.mg X.base kO fx fdO psO fun _ => spO) (bO : Binds X.K fdO psO [])
    (h1 : X.stack = X.env :: X.outer) (h2 : X.env.frame = some X.env.locals) (h3 : X.ex = []) (tk : Takes X Wout) (hr : Room n X.A) (hkI : kI ≤ n) (hkO : kO ≤ n) (nd : X.N.Nodup) (hy : X.N[i]? = some y) (loc : Loc X.env.scope y) (he : PE X ctx te)
    (hb : ∀ (W : WX) (pn : List (Addr × Obj)) (xe : Value → Shared → Prop), Takes (X.tr pn xe) W → PSs (X.tr pn xe) body (tb W)) (hf : X.fn y = true ∨ X.env.scope.names.lookup y = some .local) :
    PS X (.With [⟨ctx, some (.Name y py)⟩] body pos) (tWithX i Ct spI spO Wout te tb) := by
  obtain ⟨fI, fdI, MI, FI, bI⟩ := mI.ex
  refine ⟨fun pins s σ H D I h => ?_⟩
  have ok := I.ok
  refine PySem.W.kw_execN (thn (he.run pins s σ H _ I h) fun u s1 ⟨v, H1, I1, r1, x, dx, fs, ev, ex, want⟩ => ?_)
  subst ev
  cases (show u = Value.ref x from r1)
  obtain ⟨m1, J, _⟩ := ins_get I1.hok ex
  obtain ⟨od, J, _⟩ := J.look
  obtain ⟨m, fr⟩ := I1.fr
  refine kw_inX fr I1.ok.mod.kin J MI.at_ MI.fn MO.at_ MO.fn ?_
  have bt := bI s1 [.ref x] I1.kIn (FI.len _ _ _ _ want)
  rw [List.append_nil] at bt
  refine wpAny_call (codeAny_mono (FI.run X.A X.stack s1 H1 ⟨[.ref x], []⟩ [.ref x] [.ref x] _ E0 (hr.mono hkI) I1.env0 bt (.cons rfl .nil) want) fun rr s2 h2 => ?_)
  have out : ∀ {σ3 : L2.St} {H3 : Hp} {s4 : Shared} {R : Hp → Prop} {Z : Shared → Prop}, Inv X pins σ3 H3 s4 → spO (.ref x :: nons) H3 (fun _ H4 => R H4) E0 → (∀ H4 s5, Inv X pins σ3 H4 s5 → R H4 → Z s5) → wpAny (model X.prog X.w) X.A (call (.ref fx) [.ref x, .none, .none, .none]) (fun _ s' => Z s') X.xe s4 := fun {σ3 H3 s4 R Z} I4 wO k => by
    have bt := bO s4 [.ref x, .none, .none, .none] I4.kIn (FO.len _ _ _ _ wO)
    rw [List.append_nil] at bt
    refine wpAny_call (codeAny_mono (FO.run X.A X.stack s4 H3 ⟨[.ref x, .none, .none, .none], []⟩ [.ref x, .none, .none, .none] (.ref x :: nons) _ E0 (hr.mono hkO) I4.env0 bt (.cons rfl (.cons rfl (.cons rfl (.cons rfl .nil)))) wO) fun rr s5 h5 => ?_)
    cases rr with
    | error e => exact (h5 : False).elim
    | ok fl =>
      cases fl with
      | ret u3 =>
        obtain ⟨v, H4, I5, _, q⟩ := I4.after h5
        exact k H4 s5 I5 q
      | next => exact (h5 : False).elim
      | brk => exact (h5 : False).elim
      | cont => exact (h5 : False).elim
  cases rr with
  | error e => exact (h2 : False).elim
  | ok fl =>
    cases fl with
    | next => exact (h2 : False).elim
    | brk => exact (h2 : False).elim
    | cont => exact (h2 : False).elim
    | ret u2 =>
      obtain ⟨v2, H2, I2, ru, hq⟩ := I1.after h2
      refine store_ok I2 nd hy loc ru (fun s3 I3 => ?_) hf
      have run := (hb (wExit x spO Wout) (X.pn ++ pins) (WithTail X.prog X.w X.A X.env x fx (SP X pins D) X.xe) fun u s' xx => with_err h1 ‹X.env.frame = some X.env.locals› h3 ok tk FE bO (hr.mono hkO) xx).run [] s3 _ H2 _ (I3.toTry _) hq
      refine wpAny_mono run (fun fl s4 h4 => ?_) fun e s' z => z
      show wpAny _ _ _ _ _ s4
      cases fl with
      | next =>
        obtain ⟨σ3, H3, I4, w4⟩ := h4
        exact out (I4.ofTry ok) w4 fun H4 s5 I5 q => ⟨σ3, H4, I5, q⟩
      | brk =>
        obtain ⟨σ3, H3, I4, w4⟩ := h4
        exact out (I4.ofTry ok) w4 fun H4 s5 I5 q => ⟨σ3, H4, I5, q⟩
      | cont =>
        obtain ⟨σ3, H3, I4, w4⟩ := h4
        exact out (I4.ofTry ok) w4 fun H4 s5 I5 q => ⟨σ3, H4, I5, q⟩
      | ret u5 =>
        obtain ⟨v5, σ3, H3, I4, rv, w4⟩ := h4
        exact out (I4.ofTry ok) w4 fun H4 s5 I5 q => ⟨v5, σ3, H4, I5, rv, q⟩
end
end Gu
namespace Gu
open PySem PySem.Spec PyProof PyProof.Rows L2 LamX
/-! ### a(e) and x(e, a), where a may raise -/
def tActX (i : Nat) (f c' : Addr) (q : QN) (R : V → XK → Hp → VK → Prop) (W : WX) (t : TA) : TE := fun σ H Q => σ[i]? = some (some (.ref f)) ∧ t σ H fun vs H1 => ∃ v, vs = [v] ∧ H1 c' = some (CodeO c' q) ∧ R v (WE W σ) H1 Q
section
variable {X : Cx} {k j i : Nat} {f c' : Addr} {q : QN} {R : V → XK → Hp → VK → Prop} {x : Str} {p pos : Pos} {e : Expr} {t : TA} {W : WX}
theorem pe_actX (a : ActAt X.prog X.w X.K X.mg X.base k X.s_0.heap X.H_0 f c' q R) (hf : f ∉ X.fs) (hx : X.ex = []) (hr : Room j X.A) (hk : k ≤ j) (gq : X.A.guards = some []) (tk : Takes X W) (hN : X.N[i]? = some x) (hv : Vis X.env.scope x) (ha : PA X [e] t)
    (hdb : (x == ("__debug__" : Str)) = false := by decide) (hcd : (x == ("__classdict__" : Str)) = false := by decide)
    (hs : starEach [e] X.env = (false, eval e X.env) :: starEach [] X.env := by rfl) (hpl : (backTo pos (starEach [] X.env)).any (·.1) = false := by rfl) : PE X (.Call (.Name x p) [e] [] pos) (tActX i f c' q R W t) := by
  refine ⟨fun pins s σ H Q I h => ?_⟩
  obtain ⟨hi, ht⟩ := h
  refine wpAny_Call_Name_kw (thn ((pe_var (pos := p) hN hv hdb hcd).run pins s σ H (fun v H1 => v = .ref f ∧ H1 = H) I ⟨.ref f, hi, rfl, rfl⟩) fun u s1 ⟨v, H1, I1, r1, q1⟩ => ?_)
  obtain ⟨rfl, rfl⟩ := q1
  cases r1
  have a1 := fn_later a hf hx I1
  refine PySem.W.callWith_F (first := []) a1.fn (thn (ha.run pos pins s1 σ _ _ I1 ht) fun us s2 ⟨vs, H2, I2, r, v, ev, hc, hR⟩ => ⟨(fn_later a hf hx I2).fn, ?_⟩) hs hpl
  subst ev
  obtain ⟨u2, rfl, ru⟩ := r.one
  have u := I2.base
  rw [hx] at u
  refine wpAny_call (codeAny_mono (a.run X.A X.stack s2 H2 X.fs u2 v Q (WE W σ) (hr.mono hk) gq I2.env0 u hf hc ru hR) fun rr s3 h3 => ?_)
  cases rr with
  | error e => exact passAt tk σ pins H2 s2 e s3 I2 h3
  | ok fl =>
    cases fl with
    | ret u3 => exact I2.after h3
    | next => exact (h3 : False).elim
    | brk => exact (h3 : False).elim
    | cont => exact (h3 : False).elim
end
/-! ### defs that are handed such a value and may raise -/
abbrev SpAX := V → (V → XK → Hp → VK → Prop) → Addr → QN → Hp → VK → XK → Prop
structure FnAX (P : Program) (w : World) (K : PySem.W.Frag) (mg : Str → Option Value) (base : Heap) (j k : Nat) (f : Addr) (fd : FuncData) (ps : List Str) (sp : SpAX) : Prop where
  run : ∀ (A : Around) (outer : List Env) (s : Shared) (H : Hp) (args : Args) (u : Value) (v : V) (g c' : Addr) (q : QN) (R : V → XK → Hp → VK → Prop) (Q : VK) (E : XK), Room k A → A.guards = some [] → Env0 P w K mg base A outer s H → BindsTo s fd args (ps.zip [u, .ref g]) → RelV v u → ActAt P w K mg base j s.heap H g c' q R → g ∉ frs outer → H c' = some (CodeO c' q) → sp v R c' q H Q E →
    codeAny (model P w) A (.call (.ref f) args) (CR (L2.CX P w) outer P w H s Q E) s
theorem okAX {P : Program} {w : World} {K : PySem.W.Frag} {mg : Str → Option Value} {base : Heap} {x qual : Str} {st : Stmt} {f : Addr} {fd : FuncData} {N ps : List Str} {j k : Nat} {sp : SpAX} (F : Fun K x qual st f fd) (S : FnScope N ps (defScope st)) (two : ps.length = 2)
    (body : ∀ (cdv : Value) (A : Around) (outer : List Env) (s : Shared) (H : Hp) (v : V) (g c' : Addr) (q : QN) (R : V → XK → Hp → VK → Prop) (Q : VK) (E : XK), Room k (A.deeper (envOfC qual (defScope st) s.heap.objs.size f cdv)) → A.guards = some [] → ActAt P w K mg base j s.heap H g c' q R → g ∉ frs outer → H c' = some (CodeO c' q) → sp v R c' q H Q E →
      ∃ t, PSs (cxOf (L2.CX P w) P w K mg base N qual (defScope st) f cdv A outer s H E) (defBody st) t ∧ t { nx := fun _ G => Q .non G, rt := Q } (start N [v, .ref g]) H) : FnAX P w K mg base j (k + 1) f fd ps sp := by
  obtain ⟨oc, od, kV, doc, pm, an, cdv, ct, osl, rfl, lk, hcd⟩ := F.ex
  refine ⟨fun A outer s H args u v g c' q R Q E room gq env binds rv act off hc want => ?_⟩
  have stays : ∀ b o, base.get? b = some o → s.heap.get? b = some o := fun b o e => (env.bs b o e).1
  have inK : K.In s.heap := env.mod.kin.keeps stays
  have free : s.heap.NoLimit := env.mod.nolimit.keeps stays
  refine codeAny_call_function room.depth (inK _ _ lk) rfl S.co S.gen rfl (PySem.W.codeRec_of inK hcd) (binds _ _ _ _ ?_)
  refine wpAny_newFunctionEnv_cells S.kind (fun ⟨n, v⟩ hy => (S.par n (List.of_mem_zip hy).1).imp id fun q => ⟨q, PySem.W.cellsFrom_some _ _ _ (.inl q)⟩) fun env1 e1 s1 c1 => ?_
  subst e1
  refine ⟨free.keeps c1.toInCall.keep, codeAny_func ?_⟩
  obtain ⟨t, d, q⟩ := body cdv A outer s H v g c' q R Q E (room.deeper _) gq act off hc want
  have rel : Vals [v, .ref g] [u, .ref g] := .cons rv (.cons rfl .nil)
  refine wpAny_mono (d.run [] s1 (start N [v, .ref g]) H _ (inv_start S room.hd env (by rw [two]; rfl) rel c1) q) (fun fl s2 h2 => ?_) fun e s2 h2 => h2
  cases fl with
  | ret u =>
    obtain ⟨v, σ2, G, J, rv, r⟩ := h2
    exact ⟨v, G, J.os, J.bare, J.base, J.hok, rv, r⟩
  | next =>
    obtain ⟨σ2, G, J, r⟩ := h2
    exact ⟨V.non, G, J.os, J.bare, J.base, J.hok, rfl, r⟩
  | brk => exact (h2.choose_spec.choose_spec.2 : False).elim
  | cont => exact (h2.choose_spec.choose_spec.2 : False).elim
structure CalAX (P : Program) (w : World) (K : PySem.W.Frag) (mg : Str → Option Value) (base : Heap) (j k : Nat) (x : Str) (ps : List Str) (sp : SpAX) : Prop where
  ex : ∃ (f : Addr) (fd : FuncData), FnAX P w K mg base j k f fd ps sp ∧ mg x = some (.ref f) ∧ PySem.W.keepIn K (.ref f) = true ∧ Binds K fd ps []
theorem At.calAX {P : Program} {w : World} {K : PySem.W.Frag} {mg : Str → Option Value} {base : Heap} {x : Str} {st : Stmt} {N ps : List Str} {j k : Nat} {sp : SpAX} (D : At K mg x st ps) (S : FnScope N ps (defScope st)) (two : ps.length = 2)
    (body : ∀ (f : Addr) (cdv : Value) (A : Around) (outer : List Env) (s : Shared) (H : Hp) (v : V) (g c' : Addr) (q : QN) (R : V → XK → Hp → VK → Prop) (Q : VK) (E : XK), Room k (A.deeper (envOfC x (defScope st) s.heap.objs.size f cdv)) → A.guards = some [] → ActAt P w K mg base j s.heap H g c' q R → g ∉ frs outer → H c' = some (CodeO c' q) → sp v R c' q H Q E →
      ∃ t, PSs (cxOf (L2.CX P w) P w K mg base N x (defScope st) f cdv A outer s H E) (defBody st) t ∧ t { nx := fun _ G => Q .non G, rt := Q } (start N [v, .ref g]) H) : CalAX P w K mg base j (k + 1) x ps sp := by
  obtain ⟨f, fd, F, b, g⟩ := D.ex
  exact ⟨f, fd, okAX F S two (body f), g, F.kp, b⟩
def tHandX (f c' : Addr) (q : QN) (R : V → XK → Hp → VK → Prop) (sp : SpAX) (W : WX) (t : TA) : TE := fun σ H Q => t σ H fun vs H1 => ∃ v, vs = [v, .ref f] ∧ H1 c' = some (CodeO c' q) ∧ sp v R c' q H1 Q (WE W σ)
section
variable {X : Cx} {j k n : Nat} {x : Str} {ps : List Str} {sp : SpAX} {f c' : Addr} {q : QN} {R : V → XK → Hp → VK → Prop} {p pos : Pos} {e : Expr} {es : List Expr} {t : TA} {W : WX}
theorem run_handX {g : Addr} {fd : FuncData} {pins : List (Addr × Obj)} {σ : L2.St} {H1 : Hp} {s1 : Shared} {us : List Value} {vs : List V} {Q : VK} (F : FnAX X.prog X.w X.K X.mg X.base j k g fd ps sp) (b : Binds X.K fd ps []) (hl : ps.length = 2) (hr : Room k X.A) (gq : X.A.guards = some []) (tk : Takes X W) (I1 : Inv X pins σ H1 s1) (r : Vals vs us) {v : V} (ev : vs = [v, .ref f]) (act : ActAt X.prog X.w X.K X.mg X.base j s1.heap H1 f c' q R) (off : f ∉ frs X.stack) (hc : H1 c' = some (CodeO c' q)) (want : sp v R c' q H1 Q (WE W σ)) :
    wpAny (model X.prog X.w) X.A (call (.ref g) us) (EP X pins σ Q) X.xe s1 := by
  subst ev
  cases r with
  | cons r1 r2 =>
    cases r2 with
    | cons r2 r3 =>
      cases r3
      rename_i u1 u2
      cases (show u2 = Value.ref f from r2)
      have bt := b s1 [u1, .ref f] I1.kIn (by rw [hl]; rfl)
      rw [List.append_nil] at bt
      refine wpAny_call (codeAny_mono (F.run X.A X.stack s1 H1 ⟨[u1, .ref f], []⟩ u1 v f c' q R Q (WE W σ) hr gq I1.env0 bt r1 act off hc want) fun rr s2 h2 => ?_)
      cases rr with
      | error e => exact passAt tk σ pins H1 s1 e s2 I1 h2
      | ok fl =>
        cases fl with
        | ret u => exact I1.after h2
        | next => exact (h2 : False).elim
        | brk => exact (h2 : False).elim
        | cont => exact (h2 : False).elim
theorem pe_handX (c : CalAX X.prog X.w X.K X.mg X.base j k x ps sp) (act : ActAt X.prog X.w X.K X.mg X.base j X.s_0.heap X.H_0 f c' q R) (hf : f ∉ X.fs) (hx : X.ex = []) (hr : Room n X.A) (hk : k ≤ n) (gq : X.A.guards = some []) (tk : Takes X W) (hg : Gl X x) (hl : ps.length = 2) (ha : PA X (e :: es) t) (hdb : (x == ("__debug__" : Str)) = false := by decide)
    (hs : starEach (e :: es) X.env = (false, eval e X.env) :: starEach es X.env := by rfl) (hpl : (backTo pos (starEach es X.env)).any (·.1) = false := by rfl) : PE X (.Call (.Name x p) (e :: es) [] pos) (tHandX f c' q R sp W t) := by
  obtain ⟨g, fd, F, hm, kp, b⟩ := c.ex
  refine ⟨fun pins s σ H Q I h => ?_⟩
  refine wpAny_Call_Name_kw (ld_glob I hg hm ?_ hdb)
  refine PySem.W.callWith_K (h₀ := X.base) I.ok.mod.kin kp (thn (ha.run pos pins s σ H _ I h) fun us s1 ⟨vs, H1, I1, r, v, ev, hc, want⟩ => ⟨I1.kIn, ?_⟩) hs hpl
  exact run_handX F b hl (hr.mono hk) gq tk I1 r ev (fn_later act hf hx I1) (f_off act hf I1) hc want
end
/-! ### a method that is called both quietly and with an error that is handled -/
structure CalME (P : Program) (w : World) (K : PySem.W.Frag) (mg : Str → Option Value) (base : Heap) (k : Nat) (C : Addr) (m : Str) (ps : List Str) (sp : Sp) : Prop where
  ex : ∃ (f : Addr) (fd : FuncData), Meth K C m f ∧ FnOk P w K mg base CX0 k f fd ps sp ∧ FnE P w K mg base k f fd ps (fun _ => sp) ∧ Binds K fd ps []
theorem CalME.calM {P : Program} {w : World} {K : PySem.W.Frag} {mg : Str → Option Value} {base : Heap} {k : Nat} {C : Addr} {m : Str} {ps : List Str} {sp : Sp} (c : CalME P w K mg base k C m ps sp) : CalM P w K mg base k C m ps sp := by
  obtain ⟨f, fd, M, F, _, b⟩ := c.ex
  exact ⟨f, fd, M, F, b⟩
theorem MethAt.calME {P : Program} {w : World} {K : PySem.W.Frag} {mg : Str → Option Value} {base : Heap} {C : Addr} {m q : Str} {st : Stmt} {N ps : List Str} {k : Nat} {sp : Sp} (D : MethAt K C m q st ps) (S : FnScope N ps (defScope st)) (len : ∀ vs H Q E, sp vs H Q E → vs.length = ps.length)
    (body : ∀ (f : Addr) (cdv : Value) (A : Around) (outer : List Env) (s : Shared) (H : Hp) (vs : List V) (Q : VK) (E : XK), Room k (A.deeper (envOfC q (defScope st) s.heap.objs.size f cdv)) → sp vs H Q E →
      ∃ t, PSs (cxOf CX0 P w K mg base N q (defScope st) f cdv A outer s H E).nox (defBody st) t ∧ t { nx := fun _ G => Q .non G, rt := Q } (start N vs) H)
    (bodyE : ∀ (f : Addr) (e : Addr × Obj) (cdv : Value) (A : Around) (outer : List Env) (s : Shared) (H : Hp) (vs : List V) (Q : VK) (E : XK), L2H.RoomH k (A.deeper (envOfC q (defScope st) s.heap.objs.size f cdv)) → sp vs H Q E →
      ∃ t, PSs (cxE P w K mg base N q (defScope st) f cdv A outer s H E e) (defBody st) t ∧ t { nx := fun _ G => Q .non G, rt := Q } (start N vs) H) : CalME P w K mg base (k + 1) C m ps sp := by
  obtain ⟨f, fd, M, F, b⟩ := D.ex
  exact ⟨f, fd, M, F.ok S len (body f), okE F S (fun _ => len) (bodyE f), b⟩
section
variable {X : Cx} {i n kI kO : Nat} {y : Str} {ctx : Expr} {py pos : Pos} {body : List Stmt} {te : TE} {tb : WX → TS} {Ct : Addr} {spI spO : Sp} {psI psO : List Str} {Wout : WX}
theorem ps_withXE (mI : CalM X.prog X.w X.K X.mg X.base kI Ct "__enter__" psI spI) (mO : CalME X.prog X.w X.K X.mg X.base kO Ct "__exit__" psO spO)
    (h1 : X.stack = X.env :: X.outer) (h2 : X.env.frame = some X.env.locals) (h3 : X.ex = []) (tk : Takes X Wout) (hr : Room n X.A) (hkI : kI ≤ n) (hkO : kO ≤ n) (nd : X.N.Nodup) (hy : X.N[i]? = some y) (loc : Loc X.env.scope y) (he : PE X ctx te)
    (hb : ∀ (W : WX) (pn : List (Addr × Obj)) (xe : Value → Shared → Prop), Takes (X.tr pn xe) W → PSs (X.tr pn xe) body (tb W)) (hf : X.fn y = true ∨ X.env.scope.names.lookup y = some .local) :
    PS X (.With [⟨ctx, some (.Name y py)⟩] body pos) (tWithX i Ct spI spO Wout te tb) := by
  obtain ⟨f, fd, M, F, FE, b⟩ := mO.ex
  exact ps_withX mI M F FE b h1 h2 h3 tk hr hkI hkO nd hy loc he hb hf
end
end Gu
namespace Gu
open PySem PySem.Spec PyProof PyProof.Rows L2 LamX
section
variable {P : Program} {w : World} {K : PySem.W.Frag} {mg : Str → Option Value} {base : Heap} {C Ct Ce N : Addr} {j k : Nat}
/-! Trial.__exit__, an error handled too -/
theorem cal_exitE (B : Bi mg) (Z : ShlC K mg C) (Y : TriC K mg Ct) (X : EntC K mg Ce) (D : MethAt K Ct "__exit__" "Trial.__exit__" s_Trial_exit ps_Trial_exit) : CalME P w K mg base 2 Ct "__exit__" ps_Trial_exit (spExit C Ct Ce) := by
  refine D.calME sc_Trial_exit (fun vs H Q E h => ?_) (fun f cdv A outer s0 H vs Q E hr h => ?_) (fun f oe cdv A outer s0 H vs Q E hr h => ?_)
  · obtain ⟨t, s, e, ds, n, a, b, c, a1, b1, c1, z, o, x1, x2, x3, rfl, _⟩ := h
    rfl
  · obtain ⟨t, s, e, ds, n, a, b, c, a1, b1, c1, z, o, x1, x2, x3, rfl, ⟨dt, ht⟩, ⟨de, he⟩, hs, k⟩ := h
    have ns : ∀ {dx : Addr} {fs : List (Str × V)} {x D : Addr}, H x = some (.ins D dx fs) → fs.length ≤ 4 → x ≠ s := fun hx l y => by
      rw [y, hs] at hx
      injection hx with hx
      injection hx with _ _ hx
      rw [← hx] at l
      exact absurd l (by show ¬ (5 ≤ 4); decide)
    have nts := ns ht (by show 2 ≤ 4; decide)
    have nes := ns he (by show 4 ≤ 4; decide)
    refine ⟨_, (pss_cons (ps_fld (pe_fld (pv 0) rfl) (pe_fld (pe_fld (pv 0) rfl) rfl) rfl)
      (pss_cons (ps_fld (pe_fld (pv 0) rfl) (pe_fld (pe_fld (pv 0) rfl) rfl) rfl)
      (pss_cons (ps_fld (pe_fld (pv 0) rfl) (pe_fld (pe_fld (pv 0) rfl) rfl) rfl)
      (pss_one (ps_fld (pv 0) (pe_fld (pe_fld (pv 0) rfl) rfl) rfl))))), ?_⟩
    refine ⟨_, rfl, t, Ct, dt, _, _, rfl, ht, Y.cl, Y.nE, rfl, e, Ce, de, _, _, rfl, he, X.cl, X.nT, rfl, _, rfl, t, Ct, dt, _, _, rfl, ht, Y.cl, Y.nS, rfl, s, C, ds, _, rfl, hs, Z.cl, Z.nT, by show 5 < 1000; decide, ?_⟩
    rw [put_texts]
    generalize hG : upd H s _ = G1
    have k1 : Kp [s] H G1 := hG ▸ kp_upd
    have g1 : G1 s = some (.ins C ds (sflds n a b1 c1 z)) := by rw [← hG]; exact upd_same
    clear hG
    have no : ∀ {x : Addr}, x ≠ s → x ∉ [s] := fun h y => h (List.mem_singleton.mp y)
    have ht1 := k1 _ _ ht (no nts)
    have he1 := k1 _ _ he (no nes)
    refine ⟨_, rfl, t, Ct, dt, _, _, rfl, ht1, Y.cl, Y.nE, rfl, e, Ce, de, _, _, rfl, he1, X.cl, X.nM, rfl, _, rfl, t, Ct, dt, _, _, rfl, ht1, Y.cl, Y.nS, rfl, s, C, ds, _, rfl, g1, Z.cl, Z.nM, by show 5 < 1000; decide, ?_⟩
    rw [put_names]
    generalize hG : upd G1 s _ = G2
    have k2 : Kp [s] G1 G2 := hG ▸ kp_upd
    have g2 : G2 s = some (.ins C ds (sflds n a b c1 z)) := by rw [← hG]; exact upd_same
    clear hG
    have ht2 := k2 _ _ ht1 (no nts)
    have he2 := k2 _ _ he1 (no nes)
    refine ⟨_, rfl, t, Ct, dt, _, _, rfl, ht2, Y.cl, Y.nE, rfl, e, Ce, de, _, _, rfl, he2, X.cl, X.nP, rfl, _, rfl, t, Ct, dt, _, _, rfl, ht2, Y.cl, Y.nS, rfl, s, C, ds, _, rfl, g2, Z.cl, Z.nP, by show 5 < 1000; decide, ?_⟩
    rw [put_past]
    generalize hG : upd G2 s _ = G3
    have k3 : Kp [s] G2 G3 := hG ▸ kp_upd
    have g3 : G3 s = some (.ins C ds (sflds n a b c z)) := by rw [← hG]; exact upd_same
    clear hG
    have ht3 := k3 _ _ ht2 (no nts)
    have he3 := k3 _ _ he2 (no nes)
    refine ⟨_, rfl, t, Ct, dt, _, _, rfl, ht3, Y.cl, Y.nE, rfl, e, Ce, de, _, _, rfl, he3, X.cl, X.nO, rfl, _, rfl, t, Ct, dt, _, rfl, ht3, Y.cl, Y.nE, by show 2 < 1000; decide, ?_⟩
    generalize hG : upd G3 t _ = G4
    have k4 : Kp [t] G3 G4 := hG ▸ kp_upd
    have g4 : G4 t = some (.ins Ct dt (triF s o)) := by rw [← hG]; exact upd_same
    clear hG
    refine k G4 (((k1.trans (k2.trans k3)).mono fun b hb => List.mem_cons_of_mem _ hb).trans (k4.mono fun b hb => by rw [List.mem_singleton.mp hb]; exact List.mem_cons_self ..)) ⟨dt, g4⟩ (k4 _ _ g3 fun y => nts (List.mem_singleton.mp y).symm)
  · obtain ⟨t, s, e, ds, n, a, b, c, a1, b1, c1, z, o, x1, x2, x3, rfl, ⟨dt, ht⟩, ⟨de, he⟩, hs, k⟩ := h
    have ns : ∀ {dx : Addr} {fs : List (Str × V)} {x D : Addr}, H x = some (.ins D dx fs) → fs.length ≤ 4 → x ≠ s := fun hx l y => by
      rw [y, hs] at hx
      injection hx with hx
      injection hx with _ _ hx
      rw [← hx] at l
      exact absurd l (by show ¬ (5 ≤ 4); decide)
    have nts := ns ht (by show 2 ≤ 4; decide)
    have nes := ns he (by show 4 ≤ 4; decide)
    refine ⟨_, (pss_cons (ps_fld (pe_fld (pv 0) rfl) (pe_fld (pe_fld (pv 0) rfl) rfl) rfl)
      (pss_cons (ps_fld (pe_fld (pv 0) rfl) (pe_fld (pe_fld (pv 0) rfl) rfl) rfl)
      (pss_cons (ps_fld (pe_fld (pv 0) rfl) (pe_fld (pe_fld (pv 0) rfl) rfl) rfl)
      (pss_one (ps_fld (pv 0) (pe_fld (pe_fld (pv 0) rfl) rfl) rfl))))), ?_⟩
    refine ⟨_, rfl, t, Ct, dt, _, _, rfl, ht, Y.cl, Y.nE, rfl, e, Ce, de, _, _, rfl, he, X.cl, X.nT, rfl, _, rfl, t, Ct, dt, _, _, rfl, ht, Y.cl, Y.nS, rfl, s, C, ds, _, rfl, hs, Z.cl, Z.nT, by show 5 < 1000; decide, ?_⟩
    rw [put_texts]
    generalize hG : upd H s _ = G1
    have k1 : Kp [s] H G1 := hG ▸ kp_upd
    have g1 : G1 s = some (.ins C ds (sflds n a b1 c1 z)) := by rw [← hG]; exact upd_same
    clear hG
    have no : ∀ {x : Addr}, x ≠ s → x ∉ [s] := fun h y => h (List.mem_singleton.mp y)
    have ht1 := k1 _ _ ht (no nts)
    have he1 := k1 _ _ he (no nes)
    refine ⟨_, rfl, t, Ct, dt, _, _, rfl, ht1, Y.cl, Y.nE, rfl, e, Ce, de, _, _, rfl, he1, X.cl, X.nM, rfl, _, rfl, t, Ct, dt, _, _, rfl, ht1, Y.cl, Y.nS, rfl, s, C, ds, _, rfl, g1, Z.cl, Z.nM, by show 5 < 1000; decide, ?_⟩
    rw [put_names]
    generalize hG : upd G1 s _ = G2
    have k2 : Kp [s] G1 G2 := hG ▸ kp_upd
    have g2 : G2 s = some (.ins C ds (sflds n a b c1 z)) := by rw [← hG]; exact upd_same
    clear hG
    have ht2 := k2 _ _ ht1 (no nts)
    have he2 := k2 _ _ he1 (no nes)
    refine ⟨_, rfl, t, Ct, dt, _, _, rfl, ht2, Y.cl, Y.nE, rfl, e, Ce, de, _, _, rfl, he2, X.cl, X.nP, rfl, _, rfl, t, Ct, dt, _, _, rfl, ht2, Y.cl, Y.nS, rfl, s, C, ds, _, rfl, g2, Z.cl, Z.nP, by show 5 < 1000; decide, ?_⟩
    rw [put_past]
    generalize hG : upd G2 s _ = G3
    have k3 : Kp [s] G2 G3 := hG ▸ kp_upd
    have g3 : G3 s = some (.ins C ds (sflds n a b c z)) := by rw [← hG]; exact upd_same
    clear hG
    have ht3 := k3 _ _ ht2 (no nts)
    have he3 := k3 _ _ he2 (no nes)
    refine ⟨_, rfl, t, Ct, dt, _, _, rfl, ht3, Y.cl, Y.nE, rfl, e, Ce, de, _, _, rfl, he3, X.cl, X.nO, rfl, _, rfl, t, Ct, dt, _, rfl, ht3, Y.cl, Y.nE, by show 2 < 1000; decide, ?_⟩
    generalize hG : upd G3 t _ = G4
    have k4 : Kp [t] G3 G4 := hG ▸ kp_upd
    have g4 : G4 t = some (.ins Ct dt (triF s o)) := by rw [← hG]; exact upd_same
    clear hG
    refine k G4 (((k1.trans (k2.trans k3)).mono fun b hb => List.mem_cons_of_mem _ hb).trans (k4.mono fun b hb => by rw [List.mem_singleton.mp hb]; exact List.mem_cons_self ..)) ⟨dt, g4⟩ (k4 _ _ g3 fun y => nts (List.mem_singleton.mp y).symm)
def spWithinX (C Ct Ce : Addr) : SpAX := fun v R c' q H Q E => ∃ (t s ds n a b c : Addr) (z : Bool) (o : V), v = .ref t ∧ TrialAt Ct H t s o ∧ H s = some (.ins C ds (sflds n a b c z)) ∧ ∀ e G, H e = none → Kp [t] H G → TrialAt Ct G t s (.ref e) → EntAt Ce G e a b c o →
  R (.ref s) (fun cls d J => (∃ c, cls = .ref c) ∧ ∀ x1 x2 x3 : V, spExit C Ct Ce [.ref t, x1, x2, x3] J (fun v L => v = .non ∧ E cls d L) E0) G (fun w J => spExit C Ct Ce (.ref t :: nons) J (fun _ L => Q w L) E0)
theorem cal_withinX (B : Bi mg) (D : At K mg "within" s_within ps_within) (h4 : 4 ≤ k) (hjk : j ≤ k) (M_enter : CalM P w K mg base 4 Ct "__enter__" ps_Trial_enter (spEnter C Ct Ce)) (M_exit : CalME P w K mg base 2 Ct "__exit__" ps_Trial_exit (spExit C Ct Ce)) : CalAX P w K mg base j (k + 1) "within" ps_within (spWithinX C Ct Ce) := by
  refine D.calAX sc_within rfl (fun f cdv A outer s0 H v g c' q R Q E hr gq act off hc h => ?_)
  obtain ⟨t, s, ds, n, a, b, c, z, o, rfl, hT, hs, k1⟩ := h
  obtain ⟨dt, ht⟩ := id hT
  refine ⟨_, (pss_one (ps_withXE M_enter M_exit rfl rfl rfl (takes_of rfl rfl rfl rfl) hr h4 (Nat.le_trans (by decide) h4) sc_within.nd (i := 2) rfl (.inl rfl) (pv 0) (fun W pn xe tk => (pss_one (ps_ret (pe_actX (i := 1) act off rfl hr hjk gq tk rfl (.inl rfl) (pa_cons (pv 2) pa_nil))))) (.inr rfl))), ?_⟩
  refine ⟨_, rfl, t, dt, _, rfl, ht, t, s, ds, n, a, b, c, z, o, rfl, hT, hs, fun e G ne kG hTG hEG => ?_⟩
  have hcG : G c' = some (CodeO c' q) := kG _ _ hc fun y => by
    rw [List.mem_singleton.mp y, ht] at hc
    unfold CodeO at hc
    cases hc
  exact ⟨rfl, _, rfl, _, rfl, hcG, k1 e G ne kG hTG hEG⟩
def spAttemptX (C N Ct Ce : Addr) : SpAX := fun v R c' q H Q E => ∃ (s : Addr) (S : Sf), v = .ref s ∧ ShelfAt C N H s S ∧ S.busy = false ∧ ∀ t e G a b c, Same H G → H t = none → TrialAt Ct G t s (.ref e) → EntAt Ce G e a b c .non → ShelfAt C N G s S → G a = some (.tup (txts S.ps)) → FT G b (nms S.ps) → PastAt G c S.past →
  R (.ref s) (fun cls d J => (∃ c, cls = .ref c) ∧ ∀ x1 x2 x3 : V, spExit C Ct Ce [.ref t, x1, x2, x3] J (fun v L => v = .non ∧ E cls d L) E0) G (fun w J => spExit C Ct Ce (.ref t :: nons) J (fun _ L => Q w L) E0)
theorem cal_attemptX (B : Bi mg) (Z : ShlC K mg C) (I : ShlI K C) (D : At K mg "attempt" s_attempt ps_attempt) (h4 : 4 ≤ k) (M_trial : CalM P w K mg base 4 C "trial" ps_Shelf_trial (spTrial C N Ct)) (C_within : CalAX P w K mg base j (k + 1) "within" ps_within (spWithinX C Ct Ce)) : CalAX P w K mg base j (k + 2) "attempt" ps_attempt (spAttemptX C N Ct Ce) := by
  refine D.calAX sc_attempt rfl (fun f cdv A outer s0 H v g c' q R Q E hr gq act off hc h => ?_)
  obtain ⟨s, S, rfl, hS, bz, k1⟩ := h
  obtain ⟨ds, n, a, b, c, e0, e1, e2, e3, e4⟩ := id hS.ex
  refine ⟨_, (pss_cons (ps_if (pt_not (pt_val (pe_callB (id := "isinstance") (r := rIsi K) call_isi (by rfl) B.isinstance (by decide +kernel) (pa_cons (pv 0) (pa_cons (pe_glob (v := .ref C) (by rfl) Z.g rfl) pa_nil))))) pss_never pss_nil)
      (pss_one (ps_ret (pe_handX C_within act off rfl hr (Nat.le_refl _) gq (takes_of rfl rfl rfl rfl) (by rfl) rfl (pa_cons (pe_mth0 M_trial Z.cl hr (Nat.le_trans h4 (Nat.le_succ _)) (pv 0)) (pa_cons (pv 1) pa_nil)))))), ?_⟩
  refine ⟨_, rfl, _, _, .ref C, _, true, rfl, I.ow, I.ty e0, I.kk, _, rfl, iteF ?_⟩
  refine ⟨_, rfl, s, ds, _, rfl, e0, rfl, s, S, rfl, hS, bz, fun t G1 nt s1 hT => ?_⟩
  refine ⟨_, rfl, _, rfl, s1 _ _ hc, t, s, ds, n, a, b, c, S.busy, .non, rfl, hT, s1 _ _ e0, fun e G ne kG hTG hEG => ?_⟩
  have s2 : Same H G := fun x o e5 => kG x o (s1 _ _ e5) fun z => (by rw [List.mem_singleton.mp z, nt] at e5; cases e5)
  exact k1 t e G a b c s2 nt hTG hEG (hS.same s2) (s2 _ _ e2) (e3.same s2) (e4.same s2)
end
end Gu
namespace Gu
open PySem PySem.Spec PyProof PyProof.Rows L2 LamX
/-! ### x(e, lambda y: body), made within a lambda whose code object stands at c0 -/
def tHandLamN (T : List (Addr × Str)) (c0 : Addr) (q2 : Str) (sp : SpAX) (W : WX) (tb : XK → TE) (te : TE) : TE := fun σ H Q => te σ H fun v H1 => ∃ (q0 : Str) (P0 : Addr), H1 c0 = some (CodeO c0 (q0, P0)) ∧ TabP T H1 P0 q2 ∧ Tabs T H1 ∧
  ∀ c' P' H2, ExtN H1 H2 → Tabs T H2 → H2 c' = some (CodeO c' (q2, P')) → sp v (fun v E H Q => tb E (σ ++ [some v]) H Q) c' (q2, P') H2 Q (WE W σ)
section
variable {X : Cx} {j k n : Nat} {x : Str} {ps : List Str} {sp : SpAX} {p pos : Pos} {e : Expr} {W : WX}
theorem pe_handLamN {T : List (Addr × Str)} {cB PB c0 : Addr} {params : Arguments} {body : Expr} {scope : Scope} {lpos : Pos} {y : Str} {te : TE} {tb : XK → TE} (ca : CalAX X.prog X.w X.K X.mg X.base (j + 1) k x ps sp) (TB : TabB X.base X.mg cB PB) (hcode : X.env.code = .ref c0) (hq : ∀ p, T.head? = some p → nq p.2 = X.env.qual ++ "<lambda>")
    (L : LamS1 X.env.scope scope y) (ny : y ∉ X.N) (hdef : defaultsOf params X.env = ([], []))
    (hbind : ∀ (q : Str) (cl : List (Str × Addr)) (pm cv ctv u : Value), bindArgs (PySem.W.kla_fn "<lambda>" q params body scope cl pm cv ctv) ⟨[u], []⟩ = pure [(y, u)])
    (hbody : ∀ (A : Around) (outer : List Env) (s : Shared) (H : Hp) (E : XK) (f c' : Addr), Room j (A.deeper (lamEnv X scope s.heap.objs.size f c')) → A.guards = some [] → PE (lamCx1 X A outer s H E scope f c' y) body (tb E))
    (hr : Room n X.A) (hk : k ≤ n) (gq : X.A.guards = some []) (tk : Takes X W) (hg : Gl X x) (hl : ps.length = 2) (he : PE X e te) (hdb : (x == ("__debug__" : Str)) = false := by decide)
    (hs : starEach [e, .Lambda params body scope lpos] X.env = (false, eval e X.env) :: starEach [.Lambda params body scope lpos] X.env := by rfl) (hs2 : starEach [.Lambda params body scope lpos] X.env = (false, eval (.Lambda params body scope lpos) X.env) :: starEach [] X.env := by rfl) (hpl : (backTo pos (starEach [.Lambda params body scope lpos] X.env)).any (·.1) = false := by rfl) :
    PE X (.Call (.Name x p) [e, .Lambda params body scope lpos] [] pos) (tHandLamN T c0 (X.env.qual ++ "<lambda>") sp W tb te) := by
  obtain ⟨g, fd, F, hm, kp, b⟩ := ca.ex
  refine ⟨fun pins s σ H Q I h => ?_⟩
  refine wpAny_Call_Name_kw (ld_glob I hg hm ?_ hdb)
  refine PySem.W.callWith_K (h₀ := X.base) I.ok.mod.kin kp ?_ hs hpl
  rw [hs]
  show wpAny _ _ (spliced ((false, eval e X.env) :: backTo pos (starEach [.Lambda params body scope lpos] X.env))) _ _ s
  refine Calls.spliced_cons (thn (he.run pins s σ H _ I h) fun u s1 ⟨v, H1, I1, r1, q0, P0, hc0, hp0, hT, h1⟩ => ?_)
  rw [hs2]
  show wpAny _ _ (spliced ((false, eval (.Lambda params body scope lpos) X.env) :: backTo pos (starEach [] X.env))) _ _ s1
  refine Calls.spliced_cons (lam_make3 I1 TB hcode hc0 hp0 hq hT hdef (L.has I.ok) fun f c' P' pm' ctv H2 s2 I2 eN T2 hf hfn hfr hco => ?_)
  refine Calls.spliced_nil ⟨I2.kIn, ?_⟩
  have act := act_made (k := j) (tb := tb) (P' := P') I2 L ny hf hfn (fun u => hbind _ _ _ _ _ u) (fun A outer s H E hr2 gq2 => hbody A outer s H E f c' hr2 gq2)
  exact run_handX (us := [u, .ref f]) (vs := [v, .ref f]) F b hl (hr.mono hk) gq tk I2 (.cons r1 (.cons rfl .nil)) rfl act hfr hco (h1 c' P' H2 eN T2 hco)
end
section
variable {j k n : Nat} {x : Str} {ps : List Str} {sp : SpAX} {p pos : Pos} {e : Expr} {W : WX}
theorem pe_handLamL {Y : Cx} {A : Around} {outer : List Env} {s0 : Shared} {H0 : Hp} {E0' : XK} {sc : Scope} {f0 : Addr} {T : List (Addr × Str)} {cB PB c0 : Addr} {params : Arguments} {body : Expr} {scope : Scope} {lpos : Pos} {y : Str} {te : TE} {tb : XK → TE} (ca : CalAX (lamCx Y A outer s0 H0 E0' sc f0 c0).prog (lamCx Y A outer s0 H0 E0' sc f0 c0).w (lamCx Y A outer s0 H0 E0' sc f0 c0).K (lamCx Y A outer s0 H0 E0' sc f0 c0).mg (lamCx Y A outer s0 H0 E0' sc f0 c0).base (j + 1) k x ps sp) (TB : TabB (lamCx Y A outer s0 H0 E0' sc f0 c0).base (lamCx Y A outer s0 H0 E0' sc f0 c0).mg cB PB) (hq : ∀ p, T.head? = some p → p.2 = Y.env.qual ++ "<lambda>")
    (L : LamS1 sc scope y) (ny : y ∉ Y.N) (hdef : defaultsOf params (lamCx Y A outer s0 H0 E0' sc f0 c0).env = ([], []))
    (hbind : ∀ (q : Str) (cl : List (Str × Addr)) (pm cv ctv u : Value), bindArgs (PySem.W.kla_fn "<lambda>" q params body scope cl pm cv ctv) ⟨[u], []⟩ = pure [(y, u)])
    (hbody : ∀ (A' : Around) (outer' : List Env) (s : Shared) (H : Hp) (E : XK) (f c' : Addr), Room j (A'.deeper (lamEnv (lamCx Y A outer s0 H0 E0' sc f0 c0) scope s.heap.objs.size f c')) → A'.guards = some [] → PE (lamCx1 (lamCx Y A outer s0 H0 E0' sc f0 c0) A' outer' s H E scope f c' y) body (tb E))
    (hr : Room n (lamCx Y A outer s0 H0 E0' sc f0 c0).A) (hk : k ≤ n) (gq : (lamCx Y A outer s0 H0 E0' sc f0 c0).A.guards = some []) (tk : Takes (lamCx Y A outer s0 H0 E0' sc f0 c0) W) (hg : Gl (lamCx Y A outer s0 H0 E0' sc f0 c0) x) (hl : ps.length = 2) (he : PE (lamCx Y A outer s0 H0 E0' sc f0 c0) e te) (hdb : (x == ("__debug__" : Str)) = false := by decide)
    (hs : starEach [e, .Lambda params body scope lpos] (lamCx Y A outer s0 H0 E0' sc f0 c0).env = (false, eval e (lamCx Y A outer s0 H0 E0' sc f0 c0).env) :: starEach [.Lambda params body scope lpos] (lamCx Y A outer s0 H0 E0' sc f0 c0).env := by rfl) (hs2 : starEach [.Lambda params body scope lpos] (lamCx Y A outer s0 H0 E0' sc f0 c0).env = (false, eval (.Lambda params body scope lpos) (lamCx Y A outer s0 H0 E0' sc f0 c0).env) :: starEach [] (lamCx Y A outer s0 H0 E0' sc f0 c0).env := by rfl) (hpl : (backTo pos (starEach [.Lambda params body scope lpos] (lamCx Y A outer s0 H0 E0' sc f0 c0).env)).any (·.1) = false := by rfl) :
    PE (lamCx Y A outer s0 H0 E0' sc f0 c0) (.Call (.Name x p) [e, .Lambda params body scope lpos] [] pos) (tHandLamN T c0 (nq (Y.env.qual ++ "<lambda>")) sp W tb te) :=
  pe_handLamN (X := (lamCx Y A outer s0 H0 E0' sc f0 c0)) ca TB rfl (fun p hp => by rw [hq p hp]; rfl) L ny hdef hbind hbody hr hk gq tk hg hl he hdb hs hs2 hpl
end
end Gu
namespace Gu
open PySem PySem.Spec PyProof PyProof.Rows L2 LamX
section
variable {C N p q s : Addr} {J G : Hp} {S : Sf} {xs : List V}
/-- where a list changes, what stands elsewhere stands -/
theorem kpL (k : Kp [q] J G) (e : J q = some (.lst xs)) {b : Addr} {o : HO} (f : J b = some o) (n : ∀ ys, o ≠ .lst ys) : G b = some o := k b o f fun z => n xs (by
  rw [List.mem_singleton.mp z, e] at f
  exact (Option.some.inj f).symm)
theorem NmAt.kpL (k : Kp [q] J G) (e : J q = some (.lst xs)) {b : Addr} {so : Str} {w : Int} (h : NmAt N J b so w) : NmAt N G b so w := by
  obtain ⟨dx, f⟩ := h
  exact ⟨dx, Gu.kpL k e f fun ys z => by cases z⟩
theorem FT.kpL (k : Kp [q] J G) (e : J q = some (.lst xs)) {b : Addr} {ys : List V} (h : FT J b ys) : FT G b ys := by
  obtain ⟨o, f, r⟩ := h
  exact ⟨o, Gu.kpL k e f (fun ys z => by cases z), r⟩
theorem ShelfAt.kpL (k : Kp [q] J G) (e : J q = some (.lst xs)) (h : ShelfAt C N J s S) : ShelfAt C N G s S := by
  have t : ∀ {b : Addr} {ys : List V}, J b = some (.tup ys) → G b = some (.tup ys) := fun f => Gu.kpL k e f fun ys z => by cases z
  obtain ⟨dx, n1, a, b, c, e0, e1, e2, e3, qs, e4, e5, e6⟩ := h.ex
  refine ⟨dx, n1, a, b, c, Gu.kpL k e e0 (fun ys z => by cases z), e1.kpL k e, t e2, e3.kpL k e, qs, t e4, e5, fun x hx => ?_⟩
  obtain ⟨u, v, g1, g2, g3⟩ := e6 x hx
  exact ⟨u, v, t g1, t g2, g3.kpL k e⟩
end
theorem shaped_tup60 {ds : List PyData} (h : ∀ d ∈ ds, d.canLay0 = true ∧ d.depth ≤ 10) : SeqAt.shaped (.tuple ds) = true := by
  have a := shaped_of h
  unfold SeqAt.shaped at a ⊢
  rw [Bool.and_eq_true] at a ⊢
  exact ⟨a.1, a.2⟩
/-- two tuples of the same texts differ not -/
theorem ne_same60 {K : PySem.W.Frag} {G : Hp} {a b : Addr} {ss : List Str} {Q : VK} (ha : SqT K G a (ss.map V.str)) (hb : SqT K G b (ss.map V.str)) (h : ∀ s ∈ ss, Wd 203 s) (q : Q (.bl false) G) : rNeD K (.ref a) (.ref b) G Q := by
  have sh : SeqAt.shaped (.tuple (ss.map PyData.str)) = true := shaped_tup60 fun d hd => by
    obtain ⟨y, hy, rfl⟩ := List.mem_map.mp hd
    exact ⟨wd_lay (h y hy), Nat.zero_le _⟩
  refine ⟨_, _, .tup ha (dp_strs ss), .tup hb (dp_strs ss), sh, sh, ?_⟩
  have e : PyData.eqv (.tuple (ss.map PyData.str)) (.tuple (ss.map PyData.str)) = true := eqv_self _ (by
    unfold SeqAt.shaped at sh
    rw [Bool.and_eq_true] at sh
    exact sh.1)
  rw [e]
  exact q
section
variable {P : Program} {w : World} {K : PySem.W.Frag} {mg : Str → Option Value} {base : Heap} {C N cc PT : Addr} {c u : Nat → Addr} {T : List (Addr × Str)}
structure ShlN (P : Program) (w : World) (K : PySem.W.Frag) (mg : Str → Option Value) (base : Heap) (C N : Addr) : Prop where
  len : ∃ (f : Addr) (fd : FuncData), FnOk P w K mg base CX0 1 f fd ps_Shelf_len (spLenS C N) ∧ Binds K fd ps_Shelf_len [] ∧ PySem.W.findIn K (.ref C) "__len__" = some (some (.ref f)) ∧ PySem.W.isFn K (.ref f) = true
theorem pot_kp64 {J G : Hp} {p s : Addr} (hp : Pot J p) (k : Kp [s] J G) (n : p ≠ s) : Pot G p := by
  obtain ⟨a, b, d, f⟩ := hp
  exact ⟨a, b, d, k _ _ f fun z => n (List.mem_singleton.mp z)⟩
structure Blk (C N : Addr) (T : List (Addr × Str)) (H J : Hp) (p s : Addr) (S0 S : Sf) (n m : Nat) : Prop where
  lw : LW T [p, s] H J
  pot : Pot J p
  hs : ShelfAt C N J s S
  ok : S.ok
  bz : S.busy = false
  so : S.so = S0.so
  w : S.w = S0.w
  len : S.ps.length = n
  past : S.past.length ≤ m
theorem Blk.same {H J G : Hp} {p s : Addr} {S0 S : Sf} {n m : Nat} (b : Blk C N T H J p s S0 S n m) (k : Same J G) : Blk C N T H G p s S0 S n m := ⟨b.lw.same k, b.pot.same k, b.hs.same k, b.ok, b.bz, b.so, b.w, b.len, b.past⟩
theorem Blk.lad {H J G : Hp} {p s : Addr} {S0 S : Sf} {n m : Nat} (b : Blk C N T H J p s S0 S n m) (L : Ladled p J G) : Blk C N T H G p s S0 S n m := ⟨b.lw.lad b.pot L (List.mem_cons_self ..), L.pot, b.hs.lad8 L b.pot, b.ok, b.bz, b.so, b.w, b.len, b.past⟩
theorem Blk.step {H J G : Hp} {p s : Addr} {S0 S S2 : Sf} {n m n2 m2 : Nat} (b : Blk C N T H J p s S0 S n m) (k : Kp [s] J G) (h : ShelfAt C N G s S2) (ok : S2.ok) (bz : S2.busy = S.busy) (so : S2.so = S.so) (w : S2.w = S.w) (l : S2.ps.length = n2) (q : S2.past.length ≤ m2) : Blk C N T H G p s S0 S2 n2 m2 :=
  ⟨b.lw.step (muts_two b.pot b.hs) (k.mono fun x hx => List.mem_cons_of_mem _ hx), pot_kp64 b.pot k (shelf_pot8 b.hs b.pot).symm, h, ok, by rw [bz, b.bz], by rw [so, b.so], by rw [w, b.w], l, q⟩
theorem Blk.lst {H J : Hp} {p s D : Addr} {S0 S : Sf} {n m : Nat} {xs ys : List V} (b : Blk C N T H J p s S0 S n m) (e : J D = some (.lst xs)) (nH : H D = none) (np : D ≠ p) : Blk C N T H (upd J D (.lst ys)) p s S0 S n m := by
  have k : Kp [D] J (upd J D (.lst ys)) := fun x o f z => by
    rw [upd_ne fun y => z (List.mem_singleton.mpr y)]
    exact f
  refine ⟨⟨fun x o f z t => ?_, tabs_upd b.lw.tabs e, ?_⟩, ?_, b.hs.kpL k e, b.ok, b.bz, b.so, b.w, b.len, b.past⟩
  · rw [upd_ne (ne_of_none f nH)]
    exact b.lw.kp x o f z t
  · obtain ⟨o, u, f⟩ := b.lw.sys
    exact ⟨o, u, Gu.kpL k e f fun ys z => by cases z⟩
  · obtain ⟨x, y, z, f⟩ := b.pot
    exact ⟨x, y, z, by rw [upd_ne (Ne.symm np)]; exact f⟩
theorem PairAt.lst {J : Hp} {q D : Addr} {ps : Prs} {xs ys : List V} (e : J D = some (.lst xs)) (h : PairAt J q ps) : PairAt (upd J D (.lst ys)) q ps := by
  have k : Kp [D] J (upd J D (.lst ys)) := fun x o f z => by
    rw [upd_ne fun y => z (List.mem_singleton.mpr y)]
    exact f
  obtain ⟨a, b, e1, e2, e3⟩ := h
  exact ⟨a, b, Gu.kpL k e e1 (fun ys z => by cases z), Gu.kpL k e e2 (fun ys z => by cases z), e3.kpL k e⟩
/-- what was seen: the states of the shelf, one after another -/
structure SeenL (J : Hp) (D : Addr) (ts : List (Addr × Prs)) : Prop where
  at_ : J D = some (.lst (ts.map fun t => V.ref t.1))
  pr : ∀ t ∈ ts, PairAt J t.1 t.2
def spAllGone (T : List (Addr × Str)) (C N : Addr) : Sp := fun vs H Q _ => ∃ (p s : Addr) (S : Sf), vs = [.ref p, .ref s] ∧ Pot H p ∧ ShelfAt C N H s S ∧ S.ok ∧ S.busy = false ∧ S.past.length ≤ 400 ∧ Tabs T H ∧ Sys H ∧
  ∀ D G S' ts, H D = none → Blk C N T H G p s S S' 0 420 → SeenL G D ts → S'.past = S.past ++ ts.map (·.2) → ts.length = S.ps.length → (∀ t, ts[0]? = some t → t.2 = S.ps) → Q (.ref D) G
set_option maxHeartbeats 4000000 in
theorem cal_allGone (B : Bi mg) (Z : ShlC K mg C) (W : ShlN P w K mg base C N) (D : At K mg "_law_all_gone" s_law_all_gone ps_law_all_gone) (C_law_draw : Cal P w K mg base 1 "_law_draw" ps_law_draw spLadle) (M_remove : CalM P w K mg base 3 C "remove" ps_Shelf_remove (spRemove C N)) : Cal P w K mg base 5 "_law_all_gone" ps_law_all_gone (spAllGone T C N) := by
  obtain ⟨fL, fdL, FL, bL, sL, iL⟩ := W.len
  refine D.cal sc_law_all_gone (fun vs H Q E h => ?_) (fun f cdv A outer s0 H vs Q E hr h => ?_)
  · obtain ⟨_, _, _, rfl, _⟩ := h
    rfl
  · obtain ⟨p, s, S, rfl, hp, hS, ok, bz, past, hT, hY, k⟩ := h
    have hr1 := hr.mono (show 2 ≤ 4 by decide)
    have l20 := ok.ps.len
    refine ⟨_, (pss_cons (ps_set (i := 2) sc_law_all_gone.nd rfl (.inl rfl) (pe_lst pa_nil))
      (pss_cons (ps_for PassesOwn.never rfl (pi_range1 (by rfl) B.range (pa_cons (pe_callB (call_lenOwn (C := C) FL bL hr1 sL iL) (by rfl) B.len (by decide +kernel) (pa_cons (pv 1) pa_nil)) pa_nil)) (pg_name (i := 3) sc_law_all_gone.nd rfl (.inl rfl))
      (pss_cons (ps_expr (pe_bm PySem.F.plainAttrs_list PySem.F.slot_list_append PySem.F.type_list_append mt_append (pv 2) (pa_cons (pe_tup (pa_cons (pe_fld (pv 1) rfl) (pa_cons (pe_fld (pv 1) rfl) pa_nil))) pa_nil)))
      (pss_cons (ps_set (i := 4) sc_law_all_gone.nd rfl (.inl rfl) (pe_bmF PySem.F.plainAttrs_tuple PySem.F.slot_tuple_index PySem.F.type_tuple_index L2.mt_tup_index (pe_fld (pv 1) rfl) (pa_cons (pe_ix (r := rIxT K) ix_tup (pe_fld (pv 1) rfl) (pe_own C_law_draw hr (by decide) (by rfl) (pa_cons (pv 0) (pa_cons (pe_callB (call_lenOwn (C := C) FL bL hr1 sL iL) (by rfl) B.len (by decide +kernel) (pa_cons (pv 1) pa_nil)) pa_nil))) (fun _ _ => rfl)) pa_nil)))
      (pss_cons (ps_set (i := 5) sc_law_all_gone.nd rfl (.inl rfl) (pe_ix ix_tup (pe_fld (pv 1) rfl) (pv 4) (fun _ _ => rfl)))
      (pss_one (ps_if (PW.pt (pw_or (pt_cmpR op_ne (pe_mth M_remove Z.cl hr (by decide) (pv 1) (pa_cons (pe_ix ix_tup (pe_fld (pv 1) rfl) (pv 4) (fun _ _ => rfl)) pa_nil)) (pv 5) (nomark _)) (pw_or1 (pt_cmpR (op_neD hr.units) (pe_fld (pv 1) rfl) (pe_op op_catA (pe_slice sl_tupA (pe_ix ix_tup (pe_ix ix_list (pv 2) (pe_un un_neg pe_int) (fun _ _ => rfl)) pe_int (fun _ _ => rfl)) po_none (po_some (pv 4))) (pe_slice sl_tupA (pe_ix ix_tup (pe_ix ix_list (pv 2) (pe_un un_neg pe_int) (fun _ _ => rfl)) pe_int (fun _ _ => rfl)) (po_some (pe_op op_add (pv 4) pe_int)) po_none)) (nomark _))))) (pss_one (ps_ret pe_non)) pss_nil))))))
      (pss_one (ps_ret (pe_mid (pe_ifExp (pt_cmpR op_eq (pe_callB (call_lenOwn (C := C) FL bL hr1 sL iL) (by rfl) B.len (by decide +kernel) (pa_cons (pv 1) pa_nil)) pe_int (nomark _)) (pv 2) pe_non)))))), ?_⟩
    refine ⟨by decide, fun D nD => ?_⟩
    have sD : Same H (upd H D (.lst [])) := same_new nD
    have eD : upd H D (.lst []) D = some (.lst []) := upd_same
    have npD : D ≠ p := hp.ne nD
    generalize upd H D (.lst []) = J0 at sD eD
    have b0 : Blk C N T H J0 p s S S S.ps.length S.past.length := ⟨(LW.refl hT hY).same sD, hp.same sD, hS.same sD, ok, bz, rfl, rfl, rfl, Nat.le_refl _⟩
    obtain ⟨dx, _, _, _, _, e0, _⟩ := id b0.hs.ex
    refine ⟨_, rfl, s, dx, _, rfl, e0, s, S, rfl, b0.hs, ok, _, rfl, ⟨by omega, by omega⟩, ?_⟩
    refine ⟨_, rfl, by omega, by omega, for_range (lo := 0) (n := (S.ps.length : Int).toNat) (fun i σ J => ∃ (S2 : Sf) (ts : List (Addr × Prs)) (o3 o4 o5 : Option V), σ = [some (.ref p), some (.ref s), some (.ref D), o3, o4, o5] ∧ Blk C N T H J p s S S2 (S.ps.length - i) (S.past.length + i) ∧ SeenL J D ts ∧ ts.length = i ∧ S2.past = S.past ++ ts.map (·.2) ∧ (ts = [] → S2.ps = S.ps) ∧ ∀ t, ts[0]? = some t → t.2 = S.ps)
      ⟨S, [], none, none, none, rfl, b0, ⟨eD, fun t ht => by cases ht⟩, rfl, by simp, (fun _ => rfl), (fun t ht => by cases ht)⟩ ?_ ?_⟩
    · rintro i σ J hi ⟨S2, ts, o3, o4, o5, rfl, b, hD, lt, ep, hn, hh⟩
      rw [Int.toNat_natCast] at hi
      have bl := b.len
      have bp := b.past
      obtain ⟨dx, n, a, e, c1, e0, e1, e2, e3, e4⟩ := id b.hs.ex
      refine ⟨_, rfl, .inl ⟨rfl, _, .inl (.inl hD.at_)⟩, _, rfl, s, C, dx, _, _, rfl, e0, Z.cl, Z.nT, sf_texts, _, rfl, s, C, dx, _, _, rfl, e0, Z.cl, Z.nM, sf_names, by show 2 ≤ sizeLine; decide, fun t nt => ?_⟩
      have st : Same J (upd J t (.tup [.ref a, .ref e])) := same_new nt
      have et : upd J t (.tup [.ref a, .ref e]) t = some (.tup [.ref a, .ref e]) := upd_same
      generalize upd J t (.tup [.ref a, .ref e]) = J1 at st et
      have eD1 := st _ _ hD.at_
      have b1 := b.same st
      have pt1 : PairAt J1 t S2.ps := ⟨a, e, et, st _ _ e2, e3.same st⟩
      have pr1 : ∀ x ∈ ts, PairAt J1 x.1 x.2 := fun x hx => (hD.pr x hx).same st
      refine ⟨D, _, _, rfl, rfl, eD1, small1000 (by rw [List.length_map]; omega), ?_⟩
      have b2 := b1.lst (ys := ts.map (fun t => V.ref t.1) ++ [.ref t]) eD1 nD npD
      have hD2 : SeenL (upd J1 D (.lst (ts.map (fun t => V.ref t.1) ++ [.ref t]))) D (ts ++ [(t, S2.ps)]) := ⟨by rw [upd_same, List.map_append]; rfl, fun x hx => by
        rcases List.mem_append.mp hx with hx | hx
        · exact (pr1 x hx).lst eD1
        · rw [List.mem_singleton.mp hx]
          exact pt1.lst eD1⟩
      have kD : Kp [D] J1 (upd J1 D (.lst (ts.map (fun t => V.ref t.1) ++ [.ref t]))) := fun x o f z => by
        rw [upd_ne fun y => z (List.mem_singleton.mpr y)]
        exact f
      have f0 := Gu.kpL kD eD1 (st _ _ e0) fun ys z => by cases z
      have f2 := Gu.kpL kD eD1 (st _ _ e2) fun ys z => by cases z
      have f3 := (e3.same st).kpL kD eD1
      have ft := Gu.kpL kD eD1 et fun ys z => by cases z
      generalize upd J1 D (.lst (ts.map (fun t => V.ref t.1) ++ [.ref t])) = J2 at b2 hD2 f0 f2 f3 ft
      clear kD eD1 b1 pt1 pr1 st et b hD e0 e1 e2 e3 e4
      refine ⟨_, rfl, s, C, dx, _, _, rfl, f0, Z.cl, Z.nM, sf_names, ⟨e, _, rfl, f3⟩, _, rfl, s, C, dx, _, _, rfl, f0, Z.cl, Z.nM, sf_names, _, rfl, _, rfl, s, dx, _, rfl, f0, s, S2, rfl, b2.hs, b2.ok, _, rfl, ⟨by omega, by omega⟩, p, (S2.ps.length : Nat), rfl, b2.pot, by omega, by omega, fun x G3 x0 x1 L3 => ?_⟩
      obtain ⟨j, rfl⟩ := Int.eq_ofNat_of_zero_le x0
      have jl : j < S2.ps.length := by omega
      obtain ⟨y, hy⟩ : ∃ y, (S2.ps.map (·.2))[j]? = some y := ⟨_, List.getElem?_eq_getElem (by rw [List.length_map]; exact jl)⟩
      obtain ⟨m, t2, hm, first⟩ := first_of_name hy
      have ml : m < S2.ps.length := (List.getElem?_eq_some_iff.mp hm).1
      have b3 := b2.lad L3
      have mu : Muts C N [p] J2 := fun b hb => .inl (by rw [List.mem_singleton.mp hb]; exact b2.pot)
      have kp := Kp.lad L3
      have g0 : G3 s = some (.ins C dx (sflds n a e c1 S2.busy)) := L3.keep _ _ f0 (shelf_pot8 b2.hs b2.pot)
      have g2 := kp _ _ f2 (mu.tup f2)
      have g3 : FT G3 e (nms S2.ps) := f3.kpN mu (.kp kp)
      have gt := kp _ _ ft (mu.tup ft)
      have gD : SeenL G3 D (ts ++ [(t, S2.ps)]) := ⟨L3.keep _ _ hD2.at_ npD, fun x hx => (hD2.pr x hx).kpN mu (.kp kp)⟩
      have ym : (S2.ps.map (·.2))[m]? = some y := by rw [List.getElem?_map, hm]; rfl
      refine ⟨e, _, _, .str y, rfl, rfl, g3.sq, atI_nat (j := j) (by unfold nms; rw [List.getElem?_map, hy]; rfl), e, S2.ps.map (·.2), y, m, rfl, rfl, g3.sq, ym, first, ?_⟩
      refine ⟨_, rfl, s, C, dx, _, _, rfl, g0, Z.cl, Z.nT, sf_texts, _, rfl, a, _, _, .str t2, rfl, rfl, .inl (.inl g2), atI_nat (j := m) (by unfold txts; rw [List.getElem?_map, List.getElem?_map, hm]; rfl), ?_⟩
      clear mu kp f0 f2 f3 ft hD2 L3
      refine ⟨_, rfl, s, dx, _, rfl, g0, rfl, _, rfl, s, C, dx, _, _, rfl, g0, Z.cl, Z.nM, sf_names, _, rfl, e, _, _, .str y, rfl, rfl, g3.sq, atI_nat (j := m) (by unfold nms; rw [List.getElem?_map, ym]; rfl), s, y, t2, S2, m, rfl, b3.hs, b3.ok, b3.bz, hm, first, fun G4 k4 h4 => ?_⟩
      refine ⟨_, rfl, rfl, _, rfl, iteNS rfl ?_⟩
      have b4 := b3.step k4 h4 (Sf.go_ok b3.ok ml (by omega)) rfl rfl rfl (n2 := S.ps.length - (i + 1)) (m2 := S.past.length + (i + 1)) (by
        have := go_len ml
        show (S2.ps.take m ++ S2.ps.drop (m + 1)).length = _
        omega) (by
        show (S2.past ++ [S2.ps]).length ≤ _
        rw [List.length_append, List.length_singleton]
        omega)
      have mu : Muts C N [s] G3 := fun b hb => .inr ⟨S2, by rw [List.mem_singleton.mp hb]; exact b3.hs⟩
      have nDs : D ≠ s := fun z => by
        have := gD.at_
        rw [z, g0] at this
        cases this
      have hD4 : SeenL G4 D (ts ++ [(t, S2.ps)]) := ⟨k4 _ _ gD.at_ (fun z => nDs (List.mem_singleton.mp z)), fun x hx => (gD.pr x hx).kpN mu (.kp k4)⟩
      have q2 := k4 _ _ g2 (mu.tup g2)
      have qt := k4 _ _ gt (mu.tup gt)
      obtain ⟨dx4, n4, a4, e4, c4, h0, h1, h2, h3, h5⟩ := id b4.hs.ex
      refine ⟨_, rfl, s, C, dx4, _, _, rfl, h0, Z.cl, Z.nT, sf_texts, ?_⟩
      have la : atI ((ts ++ [(t, S2.ps)]).map fun t => V.ref t.1) (-1) = some (.ref t) := by
        rw [List.map_append]
        exact atI_last _ _
      refine ⟨_, rfl, 1, rfl, D, _, _, _, rfl, rfl, .inl (.inl hD4.at_), la, t, _, _, .ref a, rfl, rfl, .inl (.inl qt), rfl, _, rfl, _, rfl, sl_okU q2 fun U1 G5 s5 f1 => ?_⟩
      rw [cutV_hd] at f1
      refine ⟨_, rfl, 1, rfl, D, _, _, _, rfl, rfl, .inl (.inl (s5 _ _ hD4.at_)), la, t, _, _, .ref a, rfl, rfl, .inl (.inl (s5 _ _ qt)), rfl, _, rfl, _, _, rfl, rfl, _, rfl, noPartS (sl_okU (s5 _ _ q2) fun U2 G6 s6 f2 => ?_)⟩
      have f2 : G6 U2 = some (.tup (cutV (txts S2.ps) (some ((m + 1 : Nat) : Int)) none)) := f2
      rw [cutV_bk] at f2
      refine catU (s6 _ _ f1) f2 ?_ fun U3 G7 s7 f3 => ?_
      · rw [List.length_take, List.length_drop, txts_len, sizeLine_eq]
        omega
      rw [txts_go] at f3
      have s47 := s5.trans (s6.trans s7)
      have e7 : G7 a4 = some (.tup (txts (S2.go m).ps)) := s47 _ _ h2
      refine ne_same60 (ss := (S2.go m).ps.map fun q : Str × Str => q.1) (.inl (.inl e7)) (.inl (.inl f3)) (fun z hz => ?_) ⟨_, rfl, iteF ⟨S2.go m, ts ++ [(t, S2.ps)], _, _, _, rfl, b4.same s47, ⟨s47 _ _ hD4.at_, fun x hx => (hD4.pr x hx).same s47⟩, by rw [List.length_append, lt]; rfl, ?_, (fun z => by simp at z), fun z hz => ?_⟩⟩
      · obtain ⟨q, hq, rfl⟩ := List.mem_map.mp hz
        exact ((b4.ok.ps.wd q hq).1).mono (by decide)
      · show S2.past ++ [S2.ps] = _
        rw [ep, List.map_append, List.append_assoc]
        rfl
      · cases ts with
        | nil =>
          cases hz
          exact hn rfl
        | cons x xs =>
          cases hz
          exact hh _ rfl
    · rintro σ J ⟨S2, ts, o3, o4, o5, rfl, b, hD, lt, ep, hn, hh⟩
      rw [Int.toNat_natCast] at lt b
      obtain ⟨dx, _, _, _, _, e0, _⟩ := id b.hs.ex
      have bl := b.len
      refine ⟨_, ⟨_, rfl, s, dx, _, rfl, e0, s, S2, rfl, b.hs, b.ok, _, rfl, ⟨by omega, by omega⟩, rfl, _, rfl, ?_⟩, fun v G h => h⟩
      rw [decide_eq_true (show V.int ((S2.ps.length : Nat) : Int) = V.int 0 by rw [bl, Nat.sub_self]; rfl)]
      refine iteT ⟨_, rfl, k D _ S2 ts nD ⟨b.lw, b.pot, b.hs, b.ok, b.bz, b.so, b.w, by omega, ?_⟩ hD ep lt hh⟩
      have := b.past
      omega
end
end Gu
namespace Gu
open PySem PySem.Spec PyProof PyProof.Rows L2 LamX
section
variable {P : Program} {w : World} {K : PySem.W.Frag} {mg : Str → Option Value} {base : Heap} {C N : Addr} {T : List (Addr × Str)}
def pairD (ps : Prs) : PyData := .tuple [.tuple ((ps.map fun q : Str × Str => q.1).map PyData.str), .tuple ((ps.map fun q : Str × Str => q.2).map PyData.str)]
theorem pairD_dp {H : Hp} {q : Addr} {ps : Prs} (h : PairAt H q ps) : Dp K H (.ref q) (pairD ps) := by
  obtain ⟨a, b, e1, e2, e3⟩ := h
  exact .tup (.inl (.inl e1)) (.cons (.tup (.inl (.inl e2)) (dp_strs _)) (.cons (.tup e3.sq (dp_strs _)) .nil))
theorem pairD_shaped {ps : Prs} (ok : PrsOk ps) : SeqAt.shaped (pairD ps) = true := by
  have t : ∀ (ss : List Str), (∀ s ∈ ss, Wd 203 s) → (PyData.tuple (ss.map PyData.str)).canLay0 = true ∧ (PyData.tuple (ss.map PyData.str)).depth ≤ 10 := fun ss h => by
    have sh : SeqAt.shaped (.tuple (ss.map PyData.str)) = true := shaped_tup60 fun d hd => by
      obtain ⟨y, hy, rfl⟩ := List.mem_map.mp hd
      exact ⟨wd_lay (h y hy), Nat.zero_le _⟩
    unfold SeqAt.shaped at sh
    rw [Bool.and_eq_true] at sh
    refine ⟨sh.1, ?_⟩
    have z : ∀ ss : List Str, PyData.depthAll (ss.map PyData.str) = 0 := fun ss => by
      induction ss with
      | nil => simp [PyData.depthAll]
      | cons s ss ih => simp [PyData.depthAll, PyData.depth, ih]
    simp only [PyData.depth, z]
    decide
  refine shaped_tup60 fun d hd => ?_
  simp only [List.mem_cons, List.not_mem_nil, or_false] at hd
  rcases hd with rfl | rfl
  · refine t _ fun s hs => ?_
    obtain ⟨q, hq, rfl⟩ := List.mem_map.mp hs
    exact (ok.wd q hq).1.mono (by decide)
  · refine t _ fun s hs => ?_
    obtain ⟨q, hq, rfl⟩ := List.mem_map.mp hs
    exact (ok.wd q hq).2
theorem ne_pair60 {H : Hp} {a b : Addr} {ps : Prs} {Q : VK} (ok : PrsOk ps) (ha : PairAt H a ps) (hb : PairAt H b ps) (q : Q (.bl false) H) : rNeD K (.ref a) (.ref b) H Q := by
  have sh := pairD_shaped ok
  refine ⟨_, _, pairD_dp ha, pairD_dp hb, sh, sh, ?_⟩
  have e : PyData.eqv (pairD ps) (pairD ps) = true := eqv_self _ (by
    unfold SeqAt.shaped at sh
    rw [Bool.and_eq_true] at sh
    exact sh.1)
  rw [e]
  exact q
def spGoneBack (T : List (Addr × Str)) (C N : Addr) : Sp := fun vs H Q _ => ∃ (p s : Addr) (S : Sf), vs = [.ref p, .ref s] ∧ Pot H p ∧ ShelfAt C N H s S ∧ S.ok ∧ S.busy = false ∧ S.past.length ≤ 400 ∧ Tabs T H ∧ Sys H ∧
  ∀ G, Blk C N T H G p s S S S.ps.length 420 → Q (.bl true) G
set_option maxHeartbeats 4000000 in
theorem cal_goneBack (B : Bi mg) (Z : ShlC K mg C) (D : At K mg "_law_gone_and_back" s_law_gone_and_back ps_law_gone_and_back) (C_law_all_gone : Cal P w K mg base 5 "_law_all_gone" ps_law_all_gone (spAllGone T C N)) (M_undo : CalM P w K mg base 2 C "undo" ps_Shelf_undo (spUndo C N)) : Cal P w K mg base 6 "_law_gone_and_back" ps_law_gone_and_back (spGoneBack T C N) := by
  refine D.cal sc_law_gone_and_back (fun vs H Q E h => ?_) (fun f cdv A outer s0 H vs Q E hr h => ?_)
  · obtain ⟨_, _, _, rfl, _⟩ := h
    rfl
  · obtain ⟨p, s, S, rfl, hp, hS, ok, bz, past, hT, hY, k⟩ := h
    refine ⟨_, (pss_cons (ps_set (i := 2) sc_law_gone_and_back.nd rfl (.inl rfl) (pe_own C_law_all_gone hr (by decide) (by rfl) (pa_cons (pv 0) (pa_cons (pv 1) pa_nil))))
      (pss_cons (ps_if (pt_cmpR op_isN (pv 2) pe_non (nomark _)) (pss_one (ps_ret pe_bl)) pss_nil)
      (pss_cons (ps_for PassesOwn.never rfl (pi_list (pe_revL (pv 2))) (pg_name (i := 3) sc_law_gone_and_back.nd rfl (.inl rfl))
      (pss_one (ps_if (PW.pt (pw_or (pt_cmpR op_notN (pe_mth0 M_undo Z.cl hr (by decide) (pv 1)) pe_non (nomark _)) (pw_or1 (pt_cmpR (op_neD hr.units) (pe_tup (pa_cons (pe_fld (pv 1) rfl) (pa_cons (pe_fld (pv 1) rfl) pa_nil))) (pv 3) (nomark _))))) (pss_one (ps_ret pe_bl)) pss_nil)))
      (pss_one (ps_ret pe_bl))))), ?_⟩
    refine ⟨_, rfl, _, rfl, p, s, S, rfl, hp, hS, ok, bz, past, hT, hY, fun D G S' ts nD b hD ep lt hh => ?_⟩
    refine ⟨_, rfl, rfl, _, rfl, ?_⟩
    rw [decide_eq_false (show ¬ V.ref D = V.non from fun z => by cases z)]
    refine iteF ?_
    refine ⟨_, rfl, D, _, rfl, .inl (.inl hD.at_), fun R nR => ?_⟩
    have sR : Same G (upd G R (.lst (ts.map fun t => V.ref t.1).reverse)) := same_new nR
    have eR : upd G R (.lst (ts.map fun t => V.ref t.1).reverse) R = some (.lst (ts.map fun t => V.ref t.1).reverse) := upd_same
    generalize upd G R (.lst (ts.map fun t => V.ref t.1).reverse) = G1 at sR eR
    have b1 := b.same sR
    have l20 := ok.ps.len
    have okp : ∀ t ∈ ts, PrsOk t.2 := fun t ht => b.ok.past _ (by
      rw [ep]
      exact List.mem_append_right _ (List.mem_map.mpr ⟨t, ht, rfl⟩))
    have rl : (ts.map fun t => V.ref t.1).reverse.length = ts.length := by rw [List.length_reverse, List.length_map]
    refine ⟨R, rfl, ⟨_, .inl (.inl eR)⟩, for_list (K := K) (a := R) (xs := (ts.map fun t => V.ref t.1).reverse) (fun i σ J => ∃ (S2 : Sf) (o : Option V), σ = [some (.ref p), some (.ref s), some (.ref D), o] ∧ Blk C N T H J p s S S2 S2.ps.length 420 ∧ J R = some (.lst (ts.map fun t => V.ref t.1).reverse) ∧ (∀ t ∈ ts, PairAt J t.1 t.2) ∧ S2.past = S.past ++ (ts.take (ts.length - i)).map (·.2) ∧ (i = 0 → S2.ps.length = 0) ∧ ∀ t, 0 < i → ts[ts.length - i]? = some t → S2.ps = t.2)
      ⟨S', none, rfl, ⟨b1.lw, b1.pot, b1.hs, b1.ok, b1.bz, b1.so, b1.w, rfl, b1.past⟩, eR, fun t ht => (hD.pr t ht).same sR, by rw [Nat.sub_zero, List.take_length]; exact ep, fun _ => b.len, fun t z => absurd z (Nat.lt_irrefl 0)⟩ (fun i σ J _ ⟨_, _, _, _, e, _⟩ => .inl (.inl e)) ?_ ?_⟩
    · rintro i v σ J hi ⟨S2, o, rfl, b2, e2, pr, pa, z0, zs⟩
      have il : i < ts.length := by
        have := (List.getElem?_eq_some_iff.mp hi).1
        omega
      rw [List.getElem?_reverse (by rw [List.length_map]; exact il), List.length_map, List.getElem?_map] at hi
      cases ht : ts[ts.length - 1 - i]? with
      | none =>
        rw [ht] at hi
        cases hi
      | some t =>
        rw [ht] at hi
        cases hi
        have mt := List.mem_of_getElem? ht
        have tk : ts.take (ts.length - i) = ts.take (ts.length - 1 - i) ++ [t] := by
          rw [show ts.length - i = ts.length - 1 - i + 1 by omega, List.take_add_one, ht]
          rfl
        rw [tk, List.map_append, ← List.append_assoc] at pa
        obtain ⟨dx, _, _, _, _, e0, _⟩ := id b2.hs.ex
        refine ⟨_, rfl, s, dx, _, rfl, e0, rfl, s, S2, _, t.2, rfl, b2.hs, b2.bz, pa, fun G4 k4 h4 => ?_⟩
        refine ⟨rfl, _, rfl, iteNS rfl ?_⟩
        have ok4 : (⟨S2.so, S2.w, t.2, S.past ++ (ts.take (ts.length - 1 - i)).map (·.2), S2.busy⟩ : Sf).ok := ⟨b2.ok.so, b2.ok.w0, b2.ok.w1, okp t mt, fun ps hps => b2.ok.past ps (by rw [pa]; exact List.mem_append_left _ hps), by
          have := b2.ok.few
          rw [pa, List.length_append] at this
          show (S.past ++ (ts.take (ts.length - 1 - i)).map (·.2)).length ≤ 500
          omega⟩
        have b4 := b2.step k4 h4 ok4 rfl rfl rfl rfl (m2 := 420) (by
          have := b2.past
          rw [pa, List.length_append] at this
          show (S.past ++ (ts.take (ts.length - 1 - i)).map (·.2)).length ≤ 420
          omega)
        have mu : Muts C N [s] J := fun b hb => .inr ⟨S2, by rw [List.mem_singleton.mp hb]; exact b2.hs⟩
        have nRs : R ≠ s := fun z => by
          rw [z, e0] at e2
          cases e2
        have pr4 : ∀ x ∈ ts, PairAt G4 x.1 x.2 := fun x hx => (pr x hx).kpN mu (.kp k4)
        obtain ⟨dx4, n4, a4, c4, d4, h0, h1, h2, h3, h5⟩ := id b4.hs.ex
        refine ⟨_, rfl, s, C, dx4, _, _, rfl, h0, Z.cl, Z.nT, sf_texts, _, rfl, s, C, dx4, _, _, rfl, h0, Z.cl, Z.nM, sf_names, by show 2 ≤ sizeLine; decide, fun u nu => ?_⟩
        have su : Same G4 (upd G4 u (.tup [.ref a4, .ref c4])) := same_new nu
        refine ⟨_, rfl, ne_pair60 (ps := t.2) (okp t mt) ⟨a4, c4, upd_same, su _ _ h2, h3.same su⟩ ((pr4 t mt).same su) ⟨_, rfl, iteF ⟨_, _, rfl, b4.same su, su _ _ (k4 _ _ e2 fun z => nRs (List.mem_singleton.mp z)), fun x hx => (pr4 x hx).same su, ?_, (fun z => by cases z), fun x _ hx => ?_⟩⟩⟩
        · rw [show ts.length - (i + 1) = ts.length - 1 - i by omega]
        · rw [show ts.length - (i + 1) = ts.length - 1 - i by omega, ht] at hx
          rw [← Option.some.inj hx]
    · rintro σ J ⟨S2, o, rfl, b2, e2, pr, pa, z0, zs⟩
      rw [rl] at pa z0 zs
      rw [Nat.sub_self, List.take_zero] at pa
      have pa : S2.past = S.past := by rw [pa]; exact List.append_nil _
      have pe : S2.ps = S.ps := by
        cases hts : ts with
        | nil =>
          rw [hts] at lt z0
          have a := z0 rfl
          have c : S.ps.length = 0 := lt.symm
          rw [List.length_eq_zero_iff.mp a, List.length_eq_zero_iff.mp c]
        | cons x xs =>
          have h0 : ts[0]? = some x := by rw [hts]; rfl
          rw [zs x (by rw [hts]; exact Nat.succ_pos _) (by rw [Nat.sub_self]; exact h0)]
          exact hh x h0
      have e : S2 = S := by
        have q1 := b2.so
        have q2 := b2.w
        have q3 := b2.bz.trans bz.symm
        cases S2
        cases S
        simp only at q1 q2 q3 pa pe
        rw [q1, q2, q3, pa, pe]
      rw [e] at b2
      exact k _ b2
end
end Gu
namespace Gu
open PySem PySem.Spec PyProof PyProof.Rows L2 LamX
section
variable {P : Program} {w : World} {K : PySem.W.Frag} {mg : Str → Option Value} {base : Heap} {C N CU : Addr} {T : List (Addr × Str)}
def spFails (T : List (Addr × Str)) (C N CU : Addr) : Sp := fun vs H Q E => ∃ (p s : Addr) (S : Sf), vs = [.ref p, .ref s] ∧ Pot H p ∧ ShelfAt C N H s S ∧ S.ok ∧ S.busy = false ∧ S.past.length ≤ 400 ∧ Tabs T H ∧ Sys H ∧
  ∀ G S', Blk C N T H G p s S S' 0 420 → Raised CU "value" (.str "no name") G E
set_option maxHeartbeats 4000000 in
theorem cal_fails (B : Bi mg) (Z : ShlC K mg C) (D : At K mg "_law_fails" s_law_fails ps_law_fails) (C_law_all_gone : Cal P w K mg base 5 "_law_all_gone" ps_law_all_gone (spAllGone T C N)) (MX_remove : CalMX P w K mg base 3 C "remove" ps_Shelf_remove (spRemoveE K C N CU)) : CalX P w K mg base 6 "_law_fails" ps_law_fails (spFails T C N CU) := by
  refine D.calX sc_law_fails (fun vs H Q E h => ?_) (fun f cdv A outer s0 H vs Q E hr h => ?_)
  · obtain ⟨_, _, _, rfl, _⟩ := h
    rfl
  · obtain ⟨p, s, S, rfl, hp, hS, ok, bz, past, hT, hY, k⟩ := h
    refine ⟨_, (pss_cons (ps_expr (pe_own C_law_all_gone hr (by decide) (by rfl) (pa_cons (pv 0) (pa_cons (pv 1) pa_nil))))
      (pss_one (ps_ret (pe_mthX MX_remove Z.cl hr (by decide) (takes_of rfl rfl rfl rfl) (fun _ _ _ _ h => h) (pv 1) (pa_cons pe_str pa_nil))))), ?_⟩
    refine ⟨_, rfl, _, rfl, p, s, S, rfl, hp, hS, ok, bz, past, hT, hY, fun D G S' ts nD b hD ep lt hh => ?_⟩
    obtain ⟨dx, _, _, _, _, e0, _⟩ := id b.hs.ex
    have l0 := b.len
    refine ⟨_, rfl, s, dx, _, rfl, e0, rfl, ⟨s, _, S', rfl, b.hs, b.bz⟩, s, _, S', rfl, b.hs, b.ok, .inr ⟨.inr ⟨_, rfl, ?_⟩, fun G2 sG => k G2 S' (b.same sG)⟩⟩
    rw [List.length_eq_zero_iff.mp l0]
    intro z
    cases z
end
end Gu
namespace Gu
open PySem PySem.Spec PyProof.Rows L2
section
variable {P : Program} {w : World} {K : PySem.W.Frag} {mg : Str → Option Value} {base : Heap}
/-! ### _law_word -/
def spWord (K : PySem.W.Frag) : Sp := fun vs H Q _ => ∃ (p l : Addr) (ys : List Str), vs = [.ref p, .ref l] ∧ Pot H p ∧ SqL K H l (ys.map V.str) ∧ l ≠ p ∧ 0 < ys.length ∧ ys.length < 1000 ∧ (∀ y ∈ ys, 0 < y.cps.toList.length ∧ Wd 12 y) ∧ ∀ (y : Str) (G : Hp), Ladled p H G → Wd 200 y → Q (.str y) G
theorem rep_sgn {z y : Str} {k : Nat} (a : ∀ c ∈ z.cps.toList, c ∈ abc.cps.toList) (e : y.cps.toList = (List.replicate k z.cps.toList).flatten) : ∀ c ∈ y.cps.toList, c ∈ abc.cps.toList := by
  intro c hc
  rw [e] at hc
  obtain ⟨l, hl, h⟩ := List.mem_flatten.mp hc
  rw [(List.mem_replicate.mp hl).2] at h
  exact a c h
theorem rep_len {z y : Str} {k : Nat} (a : z.cps.toList.length ≤ 12) (hk : k ≤ 200) (e : y.cps.toList = (List.replicate k z.cps.toList).flatten) : y.length ≤ sizeLine := by
  show y.cps.toList.length ≤ sizeLine
  rw [e, PyProof.Rows.lm_len_rep_flat, sizeLine_eq]
  have := Nat.mul_le_mul hk a
  omega
theorem cal_word (B : Bi mg) (D : At K mg "_law_word" s_law_word ps_law_word) (C_law_draw : Cal P w K mg base 1 "_law_draw" ps_law_draw spLadle) (C_law_one : Cal P w K mg base 2 "_law_one" ps_law_one (spOneOf K)) (C_law_stem : Cal P w K mg base 2 "_law_stem" ps_law_stem spStem) : Cal P w K mg base 3 "_law_word" ps_law_word (spWord K) := by
  refine D.cal sc_law_word (fun vs H Q E h => ?_) (fun f cdv A outer s H vs Q E hr h => ?_)
  · obtain ⟨p, l, ys, rfl, _⟩ := h
    rfl
  · obtain ⟨p, l, ys, rfl, hp, hl, np, y0, y1, hy, k⟩ := h
    refine ⟨_, (pss_cons (ps_par (i := 2) (j := 3) (by rfl) sc_law_word.nd rfl rfl (by decide) rfl rfl (pa_cons (pe_own C_law_draw hr (by decide) (by rfl) (pa_cons (pv 0) (pa_cons pe_int pa_nil))) (pa_cons (pe_own C_law_one hr (by decide) (by rfl) (pa_cons (pv 0) (pa_cons (pv 1) pa_nil))) pa_nil)) (by rfl))
      (pss_cons (ps_if (pt_cmpR op_lt (pv 2) pe_int (nomark _)) (pss_one (ps_ret (pv 3))) pss_nil)
      (pss_cons (ps_if (pt_cmpR op_lt (pv 2) pe_int (nomark _)) (pss_one (ps_ret (pe_op op_add_str (pe_op op_add_str (pv 3) pe_str) (pe_callTy call_str_int (by rfl) B.str (by decide +kernel) (pa_cons (pe_op op_add pe_int (pe_own C_law_draw hr (by decide) (by rfl) (pa_cons (pv 0) (pa_cons pe_int pa_nil)))) pa_nil))))) pss_nil)
      (pss_cons (ps_if (pt_cmpR op_eq (pv 2) pe_int (nomark _)) (pss_one (ps_ret (pe_slice sl_str (pv 3) po_none (po_some (pe_own C_law_draw hr (by decide) (by rfl) (pa_cons (pv 0) (pa_cons (pe_op op_add (pe_callB call_len (by rfl) B.len (by decide +kernel) (pa_cons (pv 3) pa_nil)) pe_int) pa_nil))))))) pss_nil)
      (pss_cons (ps_if (pt_cmpR op_eq (pv 2) pe_int (nomark _)) (pss_one (ps_ret (pe_slice sl_str (pe_op op_mul_str (pv 3) pe_int) po_none (po_some (pe_own C_law_one hr (by decide) (by rfl) (pa_cons (pv 0) (pa_cons (pe_lst (pa_cons pe_int (pa_cons pe_int (pa_cons pe_int (pa_cons pe_int pa_nil))))) pa_nil))))))) pss_nil)
      (pss_one (ps_ret (pe_mid (pe_ifExp (pt_cmpR op_eq (pv 2) pe_int (nomark _)) (pe_op op_add_str (pv 3) (pe_own C_law_stem hr (by decide) (by rfl) (pa_cons (pv 0) (pa_cons pe_int pa_nil)))) (pe_own C_law_stem hr (by decide) (by rfl) (pa_cons (pv 0) (pa_cons pe_int pa_nil)))))))))))), ?_⟩
    refine ⟨_, rfl, p, 9, rfl, hp, by decide, by decide, fun way G1 w0 w1 L1 => ?_⟩
    refine ⟨_, rfl, _, rfl, p, L1.pot, l, _, rfl, L1.seq np hl, np, by rw [List.length_map]; exact y0, by rw [List.length_map]; exact y1, fun v G2 hv L2 => ?_⟩
    obtain ⟨z, hz, rfl⟩ := List.mem_map.mp hv
    obtain ⟨z0, wz⟩ := hy z hz
    have zl := wz.len
    have ez : z.length = z.cps.toList.length := rfl
    have M2 : Ladled p H G2 := L1.trans L2
    refine ⟨_, _, rfl, ?_⟩
    -- way < 3
    refine ⟨_, rfl, _, _, rfl, rfl, _, rfl, ite2 (fun _ => ?_) (fun _ => ?_)⟩
    · exact ⟨_, rfl, k z G2 M2 (wz.mono (by decide))⟩
    -- way < 5
    refine ⟨_, rfl, _, _, rfl, rfl, _, rfl, ite2 (fun _ => ?_) (fun _ => ?_)⟩
    · refine ⟨_, rfl, _, _, rfl, rfl, by rw [sizeLine_eq]; have e1 : (("~" : String) : Str).length = 1 := by decide +kernel
                                         omega, _, rfl, p, 3, rfl, M2.pot, by decide, by decide, fun d G3 d0 d1 L3 => ?_⟩
      have M3 := M2.trans L3
      refine ⟨_, _, rfl, rfl, _, rfl, ?_, ?_⟩
      · exact log_small (by omega) (by omega)
      · have wd := wd_digit (i := 2 + d) (by omega) (by omega)
        have wt : Wd 1 ("~" : String) := wd_lit (by decide +kernel)
        have w1 : Wd 13 (z ++ (("~" : String) : Str)) := wz.app wt (by decide)
        exact ⟨_, _, rfl, rfl, Nat.le_of_lt (small1000 (Nat.le_trans (Nat.add_le_add w1.len wd.len) (by decide))), k _ _ M3 ((w1.app wd (by decide)).mono (Nat.le_refl _))⟩
    -- way == 5
    refine ⟨_, rfl, rfl, _, rfl, ite2 (fun _ => ?_) (fun _ => ?_)⟩
    · refine ⟨_, rfl, _, rfl, _, rfl, _, _, rfl, ⟨Nat.le_of_lt (small1000 (by omega)), rfl⟩, _, _, rfl, rfl, p, _, rfl, M2.pot, by omega, by omega, fun d G3 d0 d1 L3 => ?_⟩
      exact ⟨d, rfl, z, rfl, Nat.le_of_lt (small1000 (by omega)), k _ _ (M2.trans L3) (wz.cut _ _ |>.mono (by decide))⟩
    -- way == 6
    refine ⟨_, rfl, rfl, _, rfl, ite2 (fun _ => ?_) (fun _ => ?_)⟩
    · refine ⟨_, rfl, z, 200, rfl, rfl, by decide, by decide, by omega, by omega, fun y ey => ?_⟩
      refine ⟨_, rfl, by show 4 ≤ sizeLine; decide, fun q nq => ?_⟩
      refine ⟨p, M2.pot.same (same_new nq), q, _, rfl, .inl (.inl upd_same), M2.pot.off nq, by decide, by decide, fun v G3 hv L3 => ?_⟩
      obtain ⟨b, b0, b1, rfl⟩ : ∃ b : Int, 0 ≤ b ∧ b ≤ 200 ∧ v = .int b := by
        rcases List.mem_cons.mp hv with rfl | hv
        · exact ⟨40, by decide, by decide, rfl⟩
        rcases List.mem_cons.mp hv with rfl | hv
        · exact ⟨41, by decide, by decide, rfl⟩
        rcases List.mem_cons.mp hv with rfl | hv
        · exact ⟨199, by decide, by decide, rfl⟩
        rcases List.mem_cons.mp hv with rfl | hv
        · exact ⟨200, by decide, by decide, rfl⟩
        cases hv
      exact ⟨b, rfl, y, rfl, rep_len zl (by decide) ey, k _ _ ((M2.new nq).trans L3) (wd_head (rep_sgn wz.sgn ey) b0 b1)⟩
    -- way == 7
    refine ⟨fun v J => ∃ y, v = .str y ∧ Ladled p H J ∧ Wd 200 y, ?_, ?_⟩
    · refine ⟨_, rfl, rfl, _, rfl, ite2 (fun _ => ?_) (fun _ => ?_)⟩
      · refine ⟨_, rfl, _, rfl, p, 3, rfl, M2.pot, by decide, by decide, fun y G3 L3 yl wy => ?_⟩
        have y3 := wy.len
        have ey : y.length = y.cps.toList.length := rfl
        refine ⟨_, _, rfl, rfl, Nat.le_of_lt (small1000 (by omega)), _, rfl, M2.trans L3, wz.app wy (by decide)⟩
      · refine ⟨_, rfl, p, 12, rfl, M2.pot, by decide, by decide, fun y G3 L3 yl wy => ?_⟩
        exact ⟨_, rfl, M2.trans L3, wy.mono (by decide)⟩
    · rintro _ J ⟨y, rfl, L, W⟩
      exact k y J L W
end
end Gu
namespace Gu
open PySem PySem.Spec PyProof PyProof.Rows L2 LamX
/-! ### what stands between the steps of _law_right -/
def E0S (so : Str) (w : Int) : Sf := ⟨so, w, [], [], false⟩
theorem e0_ok {so : Str} {w : Int} (h : so ∈ sorts) (w0 : 6 ≤ w) (w1 : w ≤ 40) : (E0S so w).ok := ⟨h, w0, w1, ⟨Nat.zero_le _, fun q hq => by cases hq⟩, (fun ps hps => by cases hps), Nat.zero_le _⟩
theorem same_via {H H1 G : Hp} {x : Addr} (nx : H x = none) (s : Same H H1) (k : Kp [x] H1 G) : Same H G := fun b o e => k b o (s b o e) fun z => by
  rw [List.mem_singleton.mp z, nx] at e
  cases e
structure R64 (C N : Addr) (T : List (Addr × Str)) (H J : Hp) (p s : Addr) (S : Sf) : Prop where
  lw : LW T [p] H J
  pot : Pot J p
  hs : ShelfAt C N J s S
  nw : Nw H s
section
variable {C N Ct p s t : Addr} {l r : List Addr} {H G J : Hp} {S S2 : Sf} {T : List (Addr × Str)} {o : V}
theorem R64.same (b : R64 C N T H J p s S) (k : Same J G) : R64 C N T H G p s S := ⟨b.lw.same k, b.pot.same k, b.hs.same k, b.nw⟩
theorem R64.ext (b : R64 C N T H J p s S) (k : ExtN J G) (t : Tabs T G) : R64 C N T H G p s S := ⟨b.lw.lam k t, pot_ext b.pot k, b.hs.ext k, b.nw⟩
theorem R64.lad (b : R64 C N T H J p s S) (L : Ladled p J G) : R64 C N T H G p s S := ⟨b.lw.lad b.pot L (List.mem_singleton.mpr rfl), L.pot, b.hs.lad8 L b.pot, b.nw⟩
theorem R64.sh (b : R64 C N T H J p s S) (k : Kp [s] J G) (h : ShelfAt C N G s S2) : R64 C N T H G p s S2 := ⟨b.lw.sh b.hs k b.nw, pot_ins (ins_sh b.hs) k b.pot, h, b.nw⟩
theorem R64.full (b : R64 C N T H J p s S) (w : LW T [] J G) (h : ShelfAt C N G s S) : R64 C N T H G p s S := ⟨b.lw.trans (w.mono fun x hx => by cases hx), pot_kpN b.pot w.kp List.not_mem_nil, h, b.nw⟩
theorem TrialAt.off (h : TrialAt Ct J t s o) (hS : ShelfAt C N J s S) : t ≠ s := fun z => by
  obtain ⟨dt, e⟩ := h
  obtain ⟨_, _, _, _, _, f, _⟩ := hS.ex
  rw [z, f] at e
  injection e with e
  injection e with _ _ e
  cases e
theorem TrialAt.sh (h : TrialAt Ct J t s o) (hS : ShelfAt C N J s S) (k : Kp [s] J G) : TrialAt Ct G t s o := by
  have n := h.off hS
  obtain ⟨dt, e⟩ := h
  exact ⟨dt, k _ _ e (off1 n)⟩
theorem TrialAt.same (h : TrialAt Ct J t s o) (k : Same J G) : TrialAt Ct G t s o := by
  obtain ⟨dt, e⟩ := h
  exact ⟨dt, k _ _ e⟩
theorem TrialAt.kpN (h : TrialAt Ct J t s o) (k : KpN [] J G) : TrialAt Ct G t s o := by
  obtain ⟨dt, e⟩ := h
  exact ⟨dt, k _ _ e List.not_mem_nil fun _ z => by cases z⟩
theorem TrialAt.ext (h : TrialAt Ct J t s o) (k : ExtN J G) : TrialAt Ct G t s o := h.kpN (.ext k)
theorem ins_tri (h : TrialAt Ct J t s o) : Ins [t] J := fun b hb => by
  rw [List.mem_singleton.mp hb]
  obtain ⟨d, e⟩ := h
  exact ⟨_, _, _, e⟩
theorem shelf_tri (h : TrialAt Ct J t s o) (k : Kp [t] J G) (hS : ShelfAt C N J s S) : ShelfAt C N G s S := by
  have n := (h.off hS).symm
  have m := ins_tri h
  obtain ⟨dx, n1, a, b, c, e0, e1, e2, e3, e4⟩ := hS.ex
  refine ⟨dx, n1, a, b, c, k _ _ e0 (off1 n), ?_, m.tup k e2, e3.kpI m k, e4.kpI m k⟩
  have n2 := nm_tri e1 h
  obtain ⟨d, e⟩ := e1
  exact ⟨d, k _ _ e (off1 n2)⟩
theorem R64.tri (b : R64 C N T H J p s S) (h : TrialAt Ct J t s o) (k : Kp [t] J G) (n : Nw H t) : R64 C N T H G p s S := ⟨b.lw.insN (ins_tri h) k fun x hx _ => by rw [List.mem_singleton.mp hx]; exact n, pot_ins (ins_tri h) k b.pot, shelf_tri h k b.hs, b.nw⟩
/-- out of the block again: the shelf is as it was -/
theorem block_exit {e a1 a2 a3 Ce : Addr} {Q : VK} {E : XK} (b : R64 C N T H G p s S) (hT : TrialAt Ct G t s (.ref e)) (hE : EntAt Ce G e a1 a2 a3 o) (ha : G a1 = some (.tup (txts S.ps))) (hb : FT G a2 (nms S.ps)) (hp : PastAt G a3 S.past) (nt : Nw H t) (bz : S.busy = false) {n m : Nat} (bk : Blk C N T G J p s S S2 n m) (k : ∀ L, R64 C N T H L p s S → Q .non L) : spExit C Ct Ce (.ref t :: nons) J Q E := by
  have mu := muts_two b.pot b.hs
  refine exit_ok mu bk.lw.kp hT hE ha hb hp bk.hs fun L kL ins _ hSL => k L ?_
  have e1 : S2.left S = S := by
    obtain ⟨so, w, ps, past, busy⟩ := S
    obtain ⟨so2, w2, ps2, past2, busy2⟩ := S2
    have z1 := bk.so
    have z2 := bk.w
    have z3 := bk.bz
    simp only at z1 z2 z3 bz
    subst z1 z2 z3 bz
    rfl
  rw [e1] at hSL
  refine ⟨LW.insN (r := [t, s]) ⟨fun x o f nx q => bk.lw.kp x o (b.lw.kp x o f nx q) (fun z => ?_) q, bk.lw.tabs, bk.lw.sys⟩ ins kL fun x hx _ => ?_, pot_ins ins kL bk.pot, hSL, b.nw⟩
  · rcases List.mem_cons.mp z with z | z
    · exact nx (List.mem_singleton.mpr z)
    · rw [List.mem_singleton.mp z] at f
      exact b.nw o f q
  · rcases List.mem_cons.mp hx with rfl | hx
    · exact nt
    · rw [List.mem_singleton.mp hx]
      exact b.nw
theorem undo64_ok {past : List Prs} {ps : Prs} (ok : S.ok) (e : S.past = past ++ [ps]) : ({ S with ps := ps, past := past } : Sf).ok := ⟨ok.so, ok.w0, ok.w1, ok.past ps (by rw [e]; exact List.mem_append.mpr (.inr (List.mem_singleton.mpr rfl))), fun q hq => ok.past q (by rw [e]; exact List.mem_append.mpr (.inl hq)), by
  have := ok.few
  rw [e, List.length_append] at this
  show past.length ≤ 500
  omega⟩
theorem findY_some {ps : Prs} {y : Str} (h : y ∈ ps.map (·.2)) : ∃ j, findY ps y = some j := by
  cases e : findY ps y with
  | some j => exact ⟨j, rfl⟩
  | none =>
    exfalso
    unfold findY at e
    rw [List.findIdx?_eq_none_iff] at e
    obtain ⟨q, hq, rfl⟩ := List.mem_map.mp h
    have := e q hq
    simp at this
end
theorem PairAt.kpI {l : List Addr} {J L : Hp} {q : Addr} {ps : Prs} (m : Ins l J) (k : Kp l J L) (h : PairAt J q ps) : PairAt L q ps := by
  obtain ⟨a, b, e1, e2, e3⟩ := h
  exact ⟨a, b, m.tup k e1, m.tup k e2, e3.kpI m k⟩
theorem exit_any {C Ct Ce t : Addr} {J : Hp} {Q : VK} {E : XK} {x1 x2 x3 : V} (h : spExit C Ct Ce (.ref t :: nons) J Q E) : spExit C Ct Ce [.ref t, x1, x2, x3] J Q E := by
  obtain ⟨t', s, e, ds, n, a, b, c, a1, b1, c1, z, o, y1, y2, y3, ev, h1, h2, h3, h4⟩ := h
  injection ev with ev _
  injection ev with ev
  subst ev
  exact ⟨t, s, e, ds, n, a, b, c, a1, b1, c1, z, o, x1, x2, x3, rfl, h1, h2, h3, h4⟩
/-- out of the block again, what is held stands -/
theorem block_exit60 {C N Ct Ce p s t e a1 a2 a3 : Addr} {H G J : Hp} {S S2 : Sf} {T : List (Addr × Str)} {o : V} {Q : VK} {E : XK} (b : R64 C N T H G p s S) (hT : TrialAt Ct G t s (.ref e)) (hE : EntAt Ce G e a1 a2 a3 o) (ha : G a1 = some (.tup (txts S.ps))) (hb : FT G a2 (nms S.ps)) (hp : PastAt G a3 S.past) (nt : Nw H t) (bz : S.busy = false) {n m : Nat} (bk : Blk C N T G J p s S S2 n m) (k : ∀ L, R64 C N T H L p s S → (∀ q ps, PairAt G q ps → PairAt L q ps) → (∀ q o, J q = some o → (∀ a b c, o ≠ .ins a b c) → L q = some o) → Q .non L) : spExit C Ct Ce (.ref t :: nons) J Q E := by
  have mu := muts_two b.pot b.hs
  refine exit_ok mu bk.lw.kp hT hE ha hb hp bk.hs fun L kL ins _ hSL => k L ?_ (fun q ps hq => (hq.kpN mu bk.lw.kp).kpI ins kL) fun q o e n => kL q o e (ins.off e n)
  have e1 : S2.left S = S := by
    obtain ⟨so, w, ps, past, busy⟩ := S
    obtain ⟨so2, w2, ps2, past2, busy2⟩ := S2
    have z1 := bk.so
    have z2 := bk.w
    have z3 := bk.bz
    simp only at z1 z2 z3 bz
    subst z1 z2 z3 bz
    rfl
  rw [e1] at hSL
  refine ⟨LW.insN (r := [t, s]) ⟨fun x o f nx q => bk.lw.kp x o (b.lw.kp x o f nx q) (fun z => ?_) q, bk.lw.tabs, bk.lw.sys⟩ ins kL fun x hx _ => ?_, pot_ins ins kL bk.pot, hSL, b.nw⟩
  · rcases List.mem_cons.mp z with z | z
    · exact nx (List.mem_singleton.mpr z)
    · rw [List.mem_singleton.mp z] at f
      exact b.nw o f q
  · rcases List.mem_cons.mp hx with rfl | hx
    · exact nt
    · rw [List.mem_singleton.mp hx]
      exact b.nw
theorem PairAt.ext {J G : Hp} {q : Addr} {ps : Prs} (k : ExtN J G) (h : PairAt J q ps) : PairAt G q ps := h.kpN (C := 0) (N := 0) (l := []) muts_nil (.ext k)
end Gu
namespace Gu
open PySem PySem.Spec PyProof PyProof.Rows L2 LamX
theorem R64.blk {C N p s : Addr} {H J G : Hp} {S S2 : Sf} {T : List (Addr × Str)} {n m : Nat} (b : R64 C N T H J p s S) (bk : Blk C N T J G p s S S2 n m) : R64 C N T H G p s S2 :=
  ⟨⟨fun x o f nx q => bk.lw.kp x o (b.lw.kp x o f nx q) (fun z => by
    rcases List.mem_cons.mp z with z | z
    · exact nx (List.mem_singleton.mpr z)
    · rw [List.mem_singleton.mp z] at f
      exact b.nw o f q) q, bk.lw.tabs, bk.lw.sys⟩, bk.pot, bk.hs, b.nw⟩
theorem muts_sh60 {C N s : Addr} {J : Hp} {S : Sf} (h : ShelfAt C N J s S) : Muts C N [s] J := fun b hb => .inr ⟨S, by rw [List.mem_singleton.mp hb]; exact h⟩
theorem eq_pair60 {K : PySem.W.Frag} {H : Hp} {a b : Addr} {ps : Prs} {Q : VK} (ok : PrsOk ps) (ha : PairAt H a ps) (hb : PairAt H b ps) (q : Q (.bl true) H) : rEqD K (.ref a) (.ref b) H Q := by
  have sh := pairD_shaped ok
  refine ⟨_, _, pairD_dp ha, pairD_dp hb, sh, sh, ?_⟩
  have e : PyData.eqv (pairD ps) (pairD ps) = true := eqv_self _ (by
    unfold SeqAt.shaped at sh
    rw [Bool.and_eq_true] at sh
    exact sh.1)
  rw [e]
  exact q
abbrev lamQ_law_right : Str := (envOfC "_law_right" (defScope s_law_right) 0 0 .none).qual ++ "<lambda>"
def spRightT (T : List (Addr × Str)) : Sp := fun vs H Q _ => ∃ (p : Addr), vs = [.ref p] ∧ Pot H p ∧ Tabs T H ∧ Sys H ∧ ∀ G, LadT T p H G → Q (.bl true) G
section
variable {P : Program} {w : World} {K : PySem.W.Frag} {mg : Str → Option Value} {base : Heap} {C N Ct Ce cc PT : Addr} {c u : Nat → Addr} {T : List (Addr × Str)}
set_option maxHeartbeats 2000000 in
theorem cal_right (B : Bi mg) (Z : ShlC K mg C) (EA : ErrAll K mg c u) (D : AtC K mg "_law_right" s_law_right ps_law_right cc) (TB : TabB base mg cc PT) (mT : (PT, lamQ_law_right) ∈ T) (hd : T.head? = some (PT, lamQ_law_right)) (hU : ∀ p ∈ T, p.1 = PT → p.2 = lamQ_law_right) (A_tried : At K mg "_law_tried" s_law_tried ps_law_tried) (CE : CalE P w K mg base 1 "_law_refusal" ps_law_refusal (spRefs c))
    (C_law_draw : Cal P w K mg base 1 "_law_draw" ps_law_draw spLadle) (C_law_one : Cal P w K mg base 2 "_law_one" ps_law_one (spOneOf K)) (C_law_stem : Cal P w K mg base 2 "_law_stem" ps_law_stem spStem) (C_law_word : Cal P w K mg base 3 "_law_word" ps_law_word (spWord K)) (M_nm : Mak P w K mg base 2 "Namer" N (spNInit N (NmAt N))) (M_Shelf : Mak P w K mg base 2 "Shelf" C (spShInit C N)) (M_trial : CalM P w K mg base 4 C "trial" ps_Shelf_trial (spTrial C N Ct))
    (M_add : CalM P w K mg base 5 C "add" ps_Shelf_add (spAdd C N)) (C_law_all_gone : Cal P w K mg base 5 "_law_all_gone" ps_law_all_gone (spAllGone T C N)) (C_law_gone_and_back : Cal P w K mg base 6 "_law_gone_and_back" ps_law_gone_and_back (spGoneBack T C N)) (CX_law_fails : CalX P w K mg base 6 "_law_fails" ps_law_fails (spFails T C N (c 16)))
    (C_within : CalA P w K mg base 9 10 "within" ps_within (spWithin C Ct Ce)) (C_attempt : CalA P w K mg base 9 11 "attempt" ps_attempt (spAttempt C N Ct Ce)) (CX_attempt : CalAX P w K mg base 9 11 "attempt" ps_attempt (spAttemptX C N Ct Ce)) (DX_do_all : CalDX P w K mg base 6 C [] (spDoAllX K C N (c 2) (c 17) (c 16))) : CalG P w K mg base 16 "_law_right" ps_law_right (spRightT T) := by
  have hQ : ∀ p, T.head? = some p → p.2 = lamQ_law_right := fun p hp => by
    rw [hd] at hp
    cases hp
    rfl
  refine D.calG sc_law_right (fun vs H Q E h => ?_) (fun f A outer s0 H vs Q E hr quiet h => ?_)
  · obtain ⟨p, rfl, _⟩ := h
    rfl
  · obtain ⟨p, rfl, hp, hT, hY, k⟩ := h
    refine ⟨_, (pss_cons (ps_set (i := 1) sc_law_right.nd rfl (.inl rfl) (pe_new M_nm hr (by decide) (by rfl) (pa_cons (pe_own C_law_one hr (by decide) (by rfl) (pa_cons (pv 0) (pa_cons (pe_lst (pa_cons pe_str (pa_cons pe_str (pa_cons pe_str pa_nil)))) pa_nil))) (pa_cons (pe_op op_add pe_int (pe_own C_law_draw hr (by decide) (by rfl) (pa_cons (pv 0) (pa_cons pe_int pa_nil)))) pa_nil))))
      (pss_cons (ps_asg (pe_tup (pa_cons (pe_lst (pa_cons (pe_own C_law_stem hr (by decide) (by rfl) (pa_cons (pv 0) (pa_cons pe_int pa_nil))) (pa_cons (pe_own C_law_stem hr (by decide) (by rfl) (pa_cons (pv 0) (pa_cons pe_int pa_nil))) pa_nil))) (pa_cons (pe_new M_Shelf hr (by decide) (by rfl) (pa_cons (pv 1) pa_nil)) pa_nil))) (pg_tup rfl (pgs_cons (pg_name (i := 2) sc_law_right.nd rfl (.inl rfl)) (pgs_cons (pg_name (i := 3) sc_law_right.nd rfl (.inr rfl)) pgs_nil))))
      (pss_cons (ps_for PassesOwn.never rfl (pi_range1 (by rfl) B.range (pa_cons (pe_op op_add pe_int (pe_own C_law_draw hr (by decide) (by rfl) (pa_cons (pv 0) (pa_cons pe_int pa_nil)))) pa_nil)) (pg_name (i := 4) sc_law_right.nd rfl (.inl rfl))
      (pss_one (ps_expr (pe_mth M_add Z.cl hr (by decide) (pv 3) (pa_cons (pe_own C_law_word hr (by decide) (by rfl) (pa_cons (pv 0) (pa_cons (pv 2) pa_nil))) pa_nil)))))
      (pss_cons (ps_set (i := 5) sc_law_right.nd rfl (.inl rfl) (pe_tup (pa_cons (pe_fld (pv 3) rfl) (pa_cons (pe_fld (pv 3) rfl) pa_nil))))
      (pss_cons (ps_if (PW.pt (pw_or (pt_not (pt_val (pe_own C_law_gone_and_back hr (by decide) (by rfl) (pa_cons (pv 0) (pa_cons (pv 3) pa_nil))))) (pw_or1 (pt_cmpR (op_neD hr.units) (pe_tup (pa_cons (pe_fld (pv 3) rfl) (pa_cons (pe_fld (pv 3) rfl) pa_nil))) (pv 5) (nomark _))))) (pss_one (ps_ret pe_bl)) pss_nil)
      (pss_cons (ps_if (PW.pt (pw_or (pt_val (pe_handLam (T := T) (j := 8) C_attempt TB rfl mT hU (lamS1_by (sc := defScope s_law_right) (by decide +kernel)) (show (("_law_here" : String) : Str) ∉ (["_law_source_here", "_law_space", "_law_stems", "_law_mine", "_law_turn", "_law_held", "_law_told", "_law_first", "_law_last"] : List Str) by decide) rfl (fun _ _ _ _ _ _ => rfl) (fun A2 outer2 s2 H2 E2 f2 c2 hr gq2 => (pe_cmpR op_isN (pe_own C_law_all_gone hr (by decide) (by rfl) (pa_cons (pv 0) (pa_cons (pv 9) pa_nil))) pe_non (nomark _))) hr (by decide) quiet (by rfl) rfl (pv 3))) (pw_or1 (pt_cmpR (op_neD hr.units) (pe_tup (pa_cons (pe_fld (pv 3) rfl) (pa_cons (pe_fld (pv 3) rfl) pa_nil))) (pv 5) (nomark _))))) (pss_one (ps_ret pe_bl)) pss_nil)
      (pss_cons (ps_if (PW.pt (pw_or (pt_not (pt_val (pe_handLam (T := T) (j := 8) C_within TB rfl mT hU (lamS1_by (sc := defScope s_law_right) (by decide +kernel)) (show (("_law_here" : String) : Str) ∉ (["_law_source_here", "_law_space", "_law_stems", "_law_mine", "_law_turn", "_law_held", "_law_told", "_law_first", "_law_last"] : List Str) by decide) rfl (fun _ _ _ _ _ _ => rfl) (fun A2 outer2 s2 H2 E2 f2 c2 hr gq2 => (pe_own C_law_gone_and_back hr (by decide) (by rfl) (pa_cons (pv 0) (pa_cons (pv 9) pa_nil)))) hr (by decide) quiet (by rfl) rfl (pe_mth0 M_trial Z.cl hr (by decide) (pv 3))))) (pw_or1 (pt_cmpR (op_neD hr.units) (pe_tup (pa_cons (pe_fld (pv 3) rfl) (pa_cons (pe_fld (pv 3) rfl) pa_nil))) (pv 5) (nomark _))))) (pss_one (ps_ret pe_bl)) pss_nil)
      (pss_cons (ps_set (i := 6) sc_law_right.nd rfl (.inl rfl) (pe_lamE A_tried sc_law_tried (fun g cdv => tried_gives EA (hr.mono (by decide)) CE) TB hr (by decide) (by rfl) rfl (.inl rfl) rfl mT hU (lamS_by (sc := defScope s_law_right) (by decide +kernel)) rfl (fun _ _ _ _ _ => rfl) (k := 13) (T := T) (fun A2 outer2 s2 H2 E2 f2 c2 hr gq2 => (pe_handLamL (T := T) (j := 8) CX_attempt TB hQ (lamS1_by (by decide +kernel)) (show (("_law_here" : String) : Str) ∉ (["_law_source_here", "_law_space", "_law_stems", "_law_mine", "_law_turn", "_law_held", "_law_told", "_law_first", "_law_last"] : List Str) by decide) rfl (fun _ _ _ _ _ _ => rfl) (fun A3 outer3 s3 H3 E3 f3 c3 hr gq3 => (pe_ownX CX_law_fails hr (by decide) (takes_of rfl rfl rfl rfl) (fun _ _ _ _ h => h) (by rfl) (pa_cons (pv 0) (pa_cons (pv 9) pa_nil)))) hr (by decide) (gq2.trans quiet) (takes_of rfl rfl rfl rfl) (by rfl) rfl (pv 3)))))
      (pss_cons (ps_if (PW.pt (pw_or (pt_cmpR (op_neD hr.units) (pv 6) (pe_tup (pa_cons pe_str (pa_cons pe_str pa_nil))) (nomark _)) (pw_or1 (pt_cmpR (op_neD hr.units) (pe_tup (pa_cons (pe_fld (pv 3) rfl) (pa_cons (pe_fld (pv 3) rfl) pa_nil))) (pv 5) (nomark _))))) (pss_one (ps_ret pe_bl)) pss_nil)
      (pss_cons (ps_asg (pe_tup (pa_cons (pe_tup (pa_cons pe_str (pa_cons (pe_ix ix_tup (pe_fld (pv 3) rfl) pe_int (fun _ _ => rfl)) pa_nil))) (pa_cons (pe_tup (pa_cons pe_str (pa_cons (pe_ix ix_tup (pe_fld (pv 3) rfl) (pe_un un_neg pe_int) (fun _ _ => rfl)) pa_nil))) pa_nil))) (pg_tup rfl (pgs_cons (pg_name (i := 7) sc_law_right.nd rfl (.inr rfl)) (pgs_cons (pg_name (i := 8) sc_law_right.nd rfl (.inr rfl)) pgs_nil))))
      (pss_cons (ps_set (i := 6) sc_law_right.nd rfl (.inl rfl) (pe_lamE A_tried sc_law_tried (fun g cdv => tried_gives EA (hr.mono (by decide)) CE) TB hr (by decide) (by rfl) rfl (.inl rfl) rfl mT hU (lamS_by (sc := defScope s_law_right) (by decide +kernel)) rfl (fun _ _ _ _ _ => rfl) (k := 13) (T := T) (fun A2 outer2 s2 H2 E2 f2 c2 hr gq2 => (pe_doAllX DX_do_all Z.cl hr (by decide) (takes_of rfl rfl rfl rfl) (fun _ _ _ _ h => h) (pv 3) (pa_cons (pv 7) (pa_cons (pe_tup (pa_cons pe_str (pa_cons pe_str pa_nil))) (pa_cons (pv 8) (pa_cons (pe_tup (pa_cons pe_str (pa_cons pe_str pa_nil))) pa_nil))))))))
      (pss_one (ps_ret (pe_and (pe_cmpR (op_eqD hr.units) (pv 6) (pe_tup (pa_cons pe_str (pa_cons pe_str pa_nil))) (nomark _)) (pe_and (pe_cmpR (op_eqD hr.units) (pe_tup (pa_cons (pe_fld (pv 3) rfl) (pa_cons (pe_fld (pv 3) rfl) pa_nil))) (pv 5) (nomark _)) (pe_one (pe_own C_law_gone_and_back hr (by decide) (by rfl) (pa_cons (pv 0) (pa_cons (pv 3) pa_nil))))))))))))))))))), ?_⟩
    have w0 : LW T [p] H H := LW.refl hT hY
    -- the Namer
    refine ⟨_, rfl, by show 3 ≤ sizeLine; decide, fun q1 n1 => ?_⟩
    refine ⟨p, hp.same (same_new n1), q1, _, rfl, .inl (.inl upd_same), hp.off n1, by decide, by decide, fun v G1 hv L1 => ?_⟩
    obtain ⟨so, hso, rfl⟩ : ∃ so ∈ sorts, v = .str so := by
      simp only [List.mem_cons, List.not_mem_nil, or_false] at hv
      rcases hv with rfl | rfl | rfl
      · exact ⟨_, by decide, rfl⟩
      · exact ⟨_, by decide, rfl⟩
      · exact ⟨_, by decide, rfl⟩
    have w1 := (w0.same (same_new n1)).lad (hp.same (same_new n1)) L1 (List.mem_singleton.mpr rfl)
    refine ⟨_, rfl, p, 8, rfl, L1.pot, by decide, by decide, fun d G2 d0 d1 L2 => ⟨_, _, rfl, rfl, ?_⟩⟩
    have w2 := w1.lad L1.pot L2 (List.mem_singleton.mpr rfl)
    have sz0 : 6 ≤ 6 + d := by omega
    have sz1 : 6 + d ≤ 40 := by omega
    refine fun x dx nx nd ne => ⟨x, dx, so, 6 + d, rfl, upd_same, hso, sz0, sz1, fun G3 hN kN => ⟨rfl, ?_⟩⟩
    have s3 : Same G2 G3 := fun c o e => kN c o (by rw [upd_ne (ne_of_none e nx), upd_ne (ne_of_none e nd)]; exact e) (ne_of_none e nx)
    have w3 := w2.same s3
    have p3 := L2.pot.same s3
    clear s3 kN nx nd ne w2 w1 w0 L1 L2 hv n1
    -- the stems, the shelf
    have stay : ∀ {A B : Hp}, Pot A p → Ladled p A B → NmAt N A x so (6 + d) → NmAt N B x so (6 + d) := fun {A B} pa L ⟨dd, e⟩ => by
      refine ⟨dd, L.keep _ _ e fun z => ?_⟩
      obtain ⟨z1, z2, z3, z4⟩ := pa
      rw [z, z4] at e
      cases e
    refine ⟨_, rfl, p, 9, rfl, p3, by decide, by decide, fun y G4 L4 y0 wy => ?_⟩
    have w4 := w3.lad p3 L4 (List.mem_singleton.mpr rfl)
    have hN := stay p3 L4 hN
    refine ⟨_, rfl, p, 6, rfl, L4.pot, by decide, by decide, fun y2 G5 L5 y20 wy2 => ?_⟩
    have w5 := w4.lad L4.pot L5 (List.mem_singleton.mpr rfl)
    have hN := stay L4.pot L5 hN
    have p5 := L5.pot
    refine ⟨by show 2 ≤ sizeLine; decide, fun D nD => ?_⟩
    have sD : Same G5 (upd G5 D (.lst [.str y, .str y2])) := same_new nD
    have eD : upd G5 D (.lst [.str y, .str y2]) D = some (.lst [.str y, .str y2]) := upd_same
    have npD : D ≠ p := p5.ne nD
    generalize upd G5 D (.lst [.str y, .str y2]) = G6 at sD eD
    have w6 := w5.same sD
    have p6 := p5.same sD
    have hN := hN.same sD
    refine ⟨_, rfl, fun s ds ns nds nes => ⟨s, ds, x, so, 6 + d, rfl, upd_same, hN.same (same_mk ns nds nes), fun G7 k7 hS => ⟨rfl, ?_⟩⟩⟩
    have s7 : Same G6 G7 := same_via ns (same_mk ns nds nes) k7
    have nw : Nw H s := w6.nw ns fun z => by
      obtain ⟨z1, z2, z3, z4⟩ := p6
      rw [z, z4] at ns
      cases ns
    refine ⟨by show 2 ≤ sizeLine; decide, fun U nU => ?_⟩
    have sU : Same G7 (upd G7 U (.tup [.ref D, .ref s])) := same_new nU
    have eU : upd G7 U (.tup [.ref D, .ref s]) U = some (.tup [.ref D, .ref s]) := upd_same
    generalize upd G7 U (.tup [.ref D, .ref s]) = G8 at sU eU
    refine ⟨U, _, rfl, .inl (.inl eU), rfl, _, _, rfl, _, _, rfl, rfl, ?_⟩
    have b8 : R64 C N T H G8 p s (E0S so (6 + d)) := ⟨(w6.same s7).same sU, (p6.same s7).same sU, ShelfAt.same sU hS, nw⟩
    have eD8 := sU _ _ (s7 _ _ eD)
    clear sU eU nU s7 k7 hS hN w6 p6 w5 p5 w4 w3 p3 L4 L5 ns nds nes sD eD nD stay
    -- some words
    refine ⟨_, rfl, p, 8, rfl, b8.pot, by decide, by decide, fun d2 G9 z0 z1 L9 => ⟨_, _, rfl, rfl, ?_⟩⟩
    have b9 := b8.lad L9
    have eD9 := L9.keep _ _ eD8 npD
    refine ⟨_, rfl, by omega, by omega, for_range (lo := 0) (n := (3 + d2).toNat) (fun i σ J => ∃ (S : Sf) (o : Option V), σ = [some (.ref p), some (.ref x), some (.ref D), some (.ref s), o, none, none, none, none] ∧ R64 C N T H J p s S ∧ J D = some (.lst [.str y, .str y2]) ∧ S.ok ∧ S.busy = false ∧ S.ps.length = i ∧ S.past.length = i) ⟨_, none, rfl, b9, eD9, e0_ok hso sz0 sz1, rfl, rfl, rfl⟩ ?_ ?_⟩
    · rintro i σ J hi ⟨S, o, rfl, b, eJ, ok, bz, l1, l2⟩
      obtain ⟨dx, _, _, _, _, e0, _⟩ := id b.hs.ex
      have nDs : D ≠ s := fun z => by
        rw [z, e0] at eJ
        cases eJ
      refine ⟨_, rfl, s, dx, _, rfl, e0, rfl, _, rfl, _, rfl, p, D, [y, y2], rfl, b.pot, .inl (.inl eJ), npD, by show 0 < 2; decide, by show 2 < 1000; decide, fun z hz => ?_, fun t G L wt => ?_⟩
      · rcases List.mem_cons.mp hz with rfl | hz
        · exact ⟨y0, wy.mono (by decide)⟩
        · rw [List.mem_singleton.mp hz]
          exact ⟨y20, wy2.mono (by decide)⟩
      have bL := b.lad L
      refine ⟨s, t, S, rfl, bL.hs, ok, bz, wt, by omega, fun G2 k2 h2 => ⟨S.come t, _, rfl, bL.sh k2 h2, k2 _ _ (L.keep _ _ eJ npD) (fun z => nDs (List.mem_singleton.mp z)), Sf.come_ok ok (by omega) wt (by omega), bz, ?_, ?_⟩⟩
      · show (S.ps ++ [_]).length = _
        rw [List.length_append, l1]
        rfl
      · show (S.past ++ [_]).length = _
        rw [List.length_append, l2]
        rfl
    · rintro σ J ⟨S, o, rfl, b, _, ok, bz, l1, l2⟩
      clear b9 eD9 L9 b8 eD8
      -- what is held
      obtain ⟨dx, n, a, e, c1, e0, e1, e2, e3, e4⟩ := id b.hs.ex
      refine ⟨_, rfl, s, C, dx, _, _, rfl, e0, Z.cl, Z.nT, sf_texts, _, rfl, s, C, dx, _, _, rfl, e0, Z.cl, Z.nM, sf_names, by show 2 ≤ sizeLine; decide, fun t0 nt0 => ?_⟩
      have st : Same J (upd J t0 (.tup [.ref a, .ref e])) := same_new nt0
      have h0 : PairAt (upd J t0 (.tup [.ref a, .ref e])) t0 S.ps := ⟨a, e, upd_same, st _ _ e2, e3.same st⟩
      have b1 := b.same st
      generalize upd J t0 (.tup [.ref a, .ref e]) = J1 at b1 h0
      clear e0 e1 e2 e3 e4 st nt0 b
      have d20 : (3 + d2).toNat ≤ 10 := by omega
      -- all go and come back
      refine ⟨_, rfl, _, rfl, p, s, S, rfl, b1.pot, b1.hs, ok, bz, by omega, b1.lw.tabs, b1.lw.sys, fun J2 k2 => ⟨_, rfl, iteF ?_⟩⟩
      have mu1 := muts_two b1.pot b1.hs
      have b2 := b1.blk k2
      have h2 := h0.kpN mu1 k2.lw.kp
      clear k2 mu1 b1 h0
      obtain ⟨dx, n, a, e, c1, e0, e1, e2, e3, e4⟩ := id b2.hs.ex
      refine ⟨_, rfl, s, C, dx, _, _, rfl, e0, Z.cl, Z.nT, sf_texts, _, rfl, s, C, dx, _, _, rfl, e0, Z.cl, Z.nM, sf_names, by show 2 ≤ sizeLine; decide, fun u nu => ?_⟩
      have su : Same J2 (upd J2 u (.tup [.ref a, .ref e])) := same_new nu
      refine ⟨_, rfl, ne_pair60 ok.ps ⟨a, e, upd_same, su _ _ e2, e3.same su⟩ (h2.same su) ⟨_, rfl, iteF ?_⟩⟩
      have b3 := b2.same su
      have h3 := h2.same su
      generalize upd J2 u (.tup [.ref a, .ref e]) = J3 at b3 h3
      clear e0 e1 e2 e3 e4 su nu b2 h2
      -- tried: all go
      refine ⟨_, rfl, b3.lw.tabs, fun c' P' J4 x4 t4 hc => ?_⟩
      have b4 := b3.ext x4 t4
      have h4 := h3.ext x4
      refine ⟨s, S, rfl, b4.hs, bz, fun t e G a1 a2 a3 sG nt hT hE hS hA hB hP => ?_⟩
      have b5 := b4.same sG
      have nt0 : Nw H t := b4.lw.nw nt fun z => by
        obtain ⟨z1, z2, z3, z4⟩ := b4.pot
        rw [z, z4] at nt
        cases nt
      refine ⟨_, rfl, _, rfl, p, s, S, rfl, b5.pot, b5.hs, ok, bz, by omega, b5.lw.tabs, b5.lw.sys, fun D2 G2 S2 ts nD bk hD ep lt hh => ⟨rfl, ?_⟩⟩
      rw [decide_eq_false (show ¬ V.ref D2 = V.non from fun z => by cases z)]
      refine block_exit60 b5 hT hE hA hB hP nt0 bz bk fun L b6 keep _ => ⟨_, rfl, iteF ?_⟩
      have h6 := keep _ _ (h4.same sG)
      clear keep bk hD ep lt hh nD hT hE hS hA hB hP nt nt0 sG b5 b4 h4 x4 t4 hc b3 h3
      obtain ⟨dx, n, a, e, c1, e0, e1, e2, e3, e4⟩ := id b6.hs.ex
      refine ⟨_, rfl, s, C, dx, _, _, rfl, e0, Z.cl, Z.nT, sf_texts, _, rfl, s, C, dx, _, _, rfl, e0, Z.cl, Z.nM, sf_names, by show 2 ≤ sizeLine; decide, fun u nu => ?_⟩
      have su : Same L (upd L u (.tup [.ref a, .ref e])) := same_new nu
      refine ⟨_, rfl, ne_pair60 ok.ps ⟨a, e, upd_same, su _ _ e2, e3.same su⟩ (h6.same su) ⟨_, rfl, iteF ?_⟩⟩
      have b7 := b6.same su
      have h7 := h6.same su
      generalize upd L u (.tup [.ref a, .ref e]) = J7 at b7 h7
      clear e0 e1 e2 e3 e4 su nu b6 h6
      -- within: all go and come back
      obtain ⟨dx, _, _, _, _, e0, _⟩ := id b7.hs.ex
      refine ⟨_, rfl, s, dx, _, rfl, e0, rfl, s, S, rfl, b7.hs, bz, fun t G1 nt s1 hT => ⟨(b7.same s1).lw.tabs, fun c' P' J4 x4 t4 hc => ?_⟩⟩
      have b8 := (b7.same s1).ext x4 t4
      have h8 := (h7.same s1).ext x4
      have hT4 := hT.ext x4
      have nt0 : Nw H t := b7.lw.nw nt fun z => by
        obtain ⟨z1, z2, z3, z4⟩ := b7.pot
        rw [z, z4] at nt
        cases nt
      obtain ⟨dx4, n4, a4, e4, c4, f0, f1, f2, f3, f4⟩ := id b8.hs.ex
      refine ⟨t, s, dx4, n4, a4, e4, c4, S.busy, .non, rfl, hT4, f0, fun e G ne kG hTG hEG => ?_⟩
      have m := ins_tri hT4
      have b9 := b8.tri hT4 kG nt0
      have h9 := h8.kpI m kG
      refine ⟨_, rfl, _, rfl, p, s, S, rfl, b9.pot, b9.hs, ok, bz, by omega, b9.lw.tabs, b9.lw.sys, fun G2 bk => ?_⟩
      refine block_exit60 b9 hTG hEG (m.tup kG f2) (f3.kpI m kG) (f4.kpI m kG) nt0 bz bk fun L2 b10 keep _ => ⟨_, rfl, iteF ?_⟩
      have h10 := keep _ _ h9
      clear keep bk b9 h9 m hTG hEG kG ne f0 f1 f2 f3 f4 nt0 hT4 h8 b8 hc t4 x4 hT s1 nt e0 b7 h7
      obtain ⟨dx, n, a, e, c1, e0, e1, e2, e3, e4⟩ := id b10.hs.ex
      refine ⟨_, rfl, s, C, dx, _, _, rfl, e0, Z.cl, Z.nT, sf_texts, _, rfl, s, C, dx, _, _, rfl, e0, Z.cl, Z.nM, sf_names, by show 2 ≤ sizeLine; decide, fun u nu => ?_⟩
      have su : Same L2 (upd L2 u (.tup [.ref a, .ref e])) := same_new nu
      refine ⟨_, rfl, ne_pair60 ok.ps ⟨a, e, upd_same, su _ _ e2, e3.same su⟩ (h10.same su) ⟨_, rfl, iteF ?_⟩⟩
      have b11 := b10.same su
      have h11 := h10.same su
      generalize upd L2 u (.tup [.ref a, .ref e]) = J11 at b11 h11
      clear e0 e1 e2 e3 e4 su nu b10 h10
      -- an error within a trial
      refine ⟨b11.lw.tabs, fun c' P' J4 x4 t4 hc hpp => ?_⟩
      have b12 := b11.ext x4 t4
      have h12 := h11.ext x4
      refine ⟨fun cls d L => cls = .ref (c 16) ∧ (∃ dd, d = some dd ∧ L dd = some (.xd [("value", .str "no name")])) ∧ R64 C N T H L p s S ∧ PairAt L t0 S.ps, fun _ _ => False, ⟨_, rfl, _, P', hc, hpp hd, t4, fun c2 P2 J5 x5 t5 hc5 => ⟨s, S, rfl, (b12.ext x5 t5).hs, bz, fun t e G a1 a2 a3 sG nt hT hE hS hA hB hP => ?_⟩⟩, ?_, fun _ _ z => z.elim⟩
      · have b13 := (b12.ext x5 t5).same sG
        have h13 := (h12.ext x5).same sG
        have nt0 : Nw H t := (b12.ext x5 t5).lw.nw nt fun z => by
          obtain ⟨z1, z2, z3, z4⟩ := (b12.ext x5 t5).pot
          rw [z, z4] at nt
          cases nt
        exact ⟨_, rfl, _, rfl, p, s, S, rfl, b13.pot, b13.hs, ok, bz, by omega, b13.lw.tabs, b13.lw.sys, fun G2 S2 bk d G3 s3 ed => ⟨⟨_, rfl⟩, fun x1 x2 x3 => exit_any (block_exit60 b13 hT hE hA hB hP nt0 bz (bk.same s3) fun L b14 keep kx => ⟨rfl, rfl, ⟨d, rfl, kx _ _ ed fun _ _ _ z => by cases z⟩, b14, keep _ _ h13⟩)⟩⟩
      rintro cls d L ⟨ecl, ⟨dd, ed, ex⟩, b14, h14⟩
      clear b12 h12 b11 h11 x4 t4 hc hpp
      refine .inr ⟨ecl, dd, _, ed, ex, fun w J3 s3 ew => ?_⟩
      have b15 := b14.same s3
      have h15 := h14.same s3
      refine ⟨_, rfl, by show 2 ≤ sizeLine; decide, fun r nr => ?_⟩
      have sr : Same J3 (upd J3 r (.tup [.str "unknown", .str "no name"])) := same_new nr
      have er : upd J3 r (.tup [.str "unknown", .str "no name"]) r = some (.tup [.str "unknown", .str "no name"]) := upd_same
      generalize upd J3 r (.tup [.str "unknown", .str "no name"]) = J16 at sr er
      have b16 := b15.same sr
      have h16 := h15.same sr
      refine ⟨.tuple [.str "unknown", .str "no name"], .tuple [.str "unknown", .str "no name"], .tup (.inl (.inl (sr _ _ ew))) (.cons (.str _) (.cons (.str _) .nil)), .tup (.inl (.inl er)) (.cons (.str _) (.cons (.str _) .nil)), by decide +kernel, by decide +kernel, _, rfl, iteBF (by decide +kernel) ?_⟩
      clear sr er nr b15 h15 s3 ew b14 h14 ex ed ecl
      obtain ⟨dx, n, a, e, c1, e0, e1, e2, e3, e4⟩ := id b16.hs.ex
      refine ⟨_, rfl, s, C, dx, _, _, rfl, e0, Z.cl, Z.nT, sf_texts, _, rfl, s, C, dx, _, _, rfl, e0, Z.cl, Z.nM, sf_names, by show 2 ≤ sizeLine; decide, fun u nu => ?_⟩
      have su : Same J16 (upd J16 u (.tup [.ref a, .ref e])) := same_new nu
      refine ⟨_, rfl, ne_pair60 ok.ps ⟨a, e, upd_same, su _ _ e2, e3.same su⟩ (h16.same su) ⟨_, rfl, iteF ?_⟩⟩
      have b17 := b16.same su
      have h17 := h16.same su
      generalize upd J16 u (.tup [.ref a, .ref e]) = J17 at b17 h17
      clear e0 e1 e2 e3 e4 su nu b16 h16
      -- names that go
      have l3 : 3 ≤ S.ps.length := by omega
      obtain ⟨dx, n, a, e, c1, e0, e1, e2, e3, e4⟩ := id b17.hs.ex
      obtain ⟨q0, hq0⟩ : ∃ q, S.ps[0]? = some q := ⟨_, List.getElem?_eq_getElem (by omega)⟩
      obtain ⟨pl, q1, hq1⟩ : ∃ pl q, S.ps = pl ++ [q] := ⟨S.ps.dropLast, S.ps.getLast (fun z => by rw [z] at l3; cases l3), (List.dropLast_concat_getLast _).symm⟩
      have a0 : atI (nms S.ps) 0 = some (.str q0.2) := atI_nat (j := 0) (by unfold nms; rw [List.getElem?_map, List.getElem?_map, hq0]; rfl)
      have a1 : atI (nms S.ps) (-1) = some (.str q1.2) := by
        rw [hq1]
        unfold nms
        rw [List.map_append, List.map_append]
        exact atI_last _ _
      refine ⟨_, rfl, s, C, dx, _, _, rfl, e0, Z.cl, Z.nM, sf_names, e, _, _, _, rfl, rfl, e3.sq, a0, by show 2 ≤ sizeLine; decide, fun f1 nf1 => ?_⟩
      have t1 : Same J17 (upd J17 f1 (.tup [.str "remove", .str q0.2])) := same_new nf1
      have g1 : upd J17 f1 (.tup [.str "remove", .str q0.2]) f1 = some (.tup [.str "remove", .str q0.2]) := upd_same
      generalize upd J17 f1 (.tup [.str "remove", .str q0.2]) = J18 at t1 g1
      refine ⟨_, rfl, s, C, dx, _, _, rfl, t1 _ _ e0, Z.cl, Z.nM, sf_names, 1, rfl, e, _, _, _, rfl, rfl, (e3.same t1).sq, a1, by show 2 ≤ sizeLine; decide, fun f2 nf2 => ?_⟩
      have t2 : Same J18 (upd J18 f2 (.tup [.str "remove", .str q1.2])) := same_new nf2
      have g2 : upd J18 f2 (.tup [.str "remove", .str q1.2]) f2 = some (.tup [.str "remove", .str q1.2]) := upd_same
      generalize upd J18 f2 (.tup [.str "remove", .str q1.2]) = J19 at t2 g2
      refine ⟨by show 2 ≤ sizeLine; decide, fun U nU => ?_⟩
      have t3 : Same J19 (upd J19 U (.tup [.ref f1, .ref f2])) := same_new nU
      have g3 : upd J19 U (.tup [.ref f1, .ref f2]) U = some (.tup [.ref f1, .ref f2]) := upd_same
      generalize upd J19 U (.tup [.ref f1, .ref f2]) = J20 at t3 g3
      refine ⟨U, _, rfl, .inl (.inl g3), rfl, _, _, rfl, _, _, rfl, rfl, ?_⟩
      have t13 := t1.trans (t2.trans t3)
      have b20 := b17.same t13
      have h20 := h17.same t13
      have g1 := (t2.trans t3) _ _ g1
      have g2 := t3 _ _ g2
      clear t1 t2 t3 t13 g3 nU nf1 nf2 e0 e1 e2 e3 e4 a0 a1 b17 h17
      -- four deeds, the last one refused
      refine ⟨b20.lw.tabs, fun c' P' J4 x4 t4 hc hpp => ?_⟩
      have b21 := b20.ext x4 t4
      have h21 := h20.ext x4
      have g1 := x4 _ _ g1 fun _ z => by cases z
      have g2 := x4 _ _ g2 fun _ z => by cases z
      clear b20 h20
      refine ⟨fun cls d L => cls = .ref (c 2) ∧ (∃ dd, d = some dd ∧ L dd = some (.xd [("value", .str "A")])) ∧ R64 C N T H L p s S ∧ PairAt L t0 S.ps, fun _ _ => False, ?_, ?_, fun _ _ z => z.elim⟩
      · obtain ⟨dx, _, _, _, _, e0, _⟩ := id b21.hs.ex
        refine ⟨_, rfl, s, dx, _, rfl, e0, rfl, _, rfl, by show 2 ≤ sizeLine; decide, fun v1 nv1 => ?_⟩
        have u1 : Same J4 (upd J4 v1 (.tup [.str "add", .str "a"])) := same_new nv1
        have k1 : upd J4 v1 (.tup [.str "add", .str "a"]) v1 = some (.tup [.str "add", .str "a"]) := upd_same
        generalize upd J4 v1 (.tup [.str "add", .str "a"]) = K1 at u1 k1
        refine ⟨_, rfl, by show 2 ≤ sizeLine; decide, fun v2 nv2 => ?_⟩
        have u2 : Same K1 (upd K1 v2 (.tup [.str "add", .str "A"])) := same_new nv2
        have k2 : upd K1 v2 (.tup [.str "add", .str "A"]) v2 = some (.tup [.str "add", .str "A"]) := upd_same
        generalize upd K1 v2 (.tup [.str "add", .str "A"]) = K2 at u2 k2
        have u12 := u1.trans u2
        have bK := b21.same u12
        have hK := h21.same u12
        have m0 : q0.2 ∈ S.ps.map (·.2) := List.mem_map.mpr ⟨q0, List.mem_of_getElem? hq0, rfl⟩
        obtain ⟨j, hj⟩ := findY_some m0
        obtain ⟨_, first⟩ := findY_at hj
        have j0 : j = 0 := by
          rcases Nat.eq_zero_or_pos j with h | h
          · exact h
          · exact absurd (by rw [List.getElem?_map, hq0]; rfl) (first 0 h)
        have lt20 : (S.go j).ps.length < 20 := by
          have := go_len (ps := S.ps) (j := j) (by omega)
          show (S.ps.take j ++ S.ps.drop (j + 1)).length < 20
          omega
        have last : q1.2 ∈ ((S.go j).come "a").ps.map (·.2) := by
          refine List.mem_map.mpr ⟨q1, List.mem_append_left _ (List.mem_append_right _ ?_), rfl⟩
          rw [j0, hq1]
          have pl2 : 2 ≤ pl.length := by
            have := congrArg List.length hq1
            rw [List.length_append] at this
            have e1 : [q1].length = 1 := rfl
            omega
          rw [List.drop_append_of_le_length (by omega)]
          exact List.mem_append_right _ (List.mem_singleton.mpr rfl)
        have run : OkRun S [("remove", q0.2), ("add", "a"), ("remove", q1.2)] := by
          refine ⟨.inr ⟨rfl, j, hj⟩, .inl ⟨rfl, ⟨by decide +kernel, by decide +kernel⟩, ?_⟩, .inr ⟨rfl, ?_⟩, trivial⟩
          · rw [doD_rem hj]
            exact lt20
          · rw [doD_rem hj]
            exact findY_some last
        refine ⟨rfl, s, S, [(f1, ("remove", q0.2)), (v1, ("add", "a")), (f2, ("remove", q1.2)), (v2, ("add", "A"))], rfl, by show 4 ≤ 100; decide, bK.hs, fun q hq => ?_, fun q hq => ?_, ok, bz, by show S.past.length + 4 ≤ 500; omega, .inr ⟨c 2, "value", .str "A", ⟨3, ("add", "A"), rfl, run, .inl ⟨rfl, fun G => nt_str (by decide +kernel) (by decide +kernel), rfl, rfl, rfl⟩⟩, fun d G kG hG ed => ⟨rfl, ⟨d, rfl, ed⟩, bK.sh kG hG, hK.kpN (muts_sh60 bK.hs) (.kp kG)⟩⟩⟩
        · simp only [List.mem_cons, List.not_mem_nil, or_false] at hq
          rcases hq with rfl | rfl | rfl | rfl
          · exact u12 _ _ g1
          · exact u2 _ _ k1
          · exact u12 _ _ g2
          · exact k2
        · simp only [List.mem_cons, List.not_mem_nil, or_false] at hq
          rcases hq with rfl | rfl | rfl | rfl
          · exact List.mem_cons_of_mem _ (List.mem_cons_self ..)
          · exact List.mem_cons_self ..
          · exact List.mem_cons_of_mem _ (List.mem_cons_self ..)
          · exact List.mem_cons_self ..
      · rintro cls d L ⟨ecl, ⟨dd, ed, ex⟩, b22, h22⟩
        refine .inl ⟨ecl, dd, _, ed, ex, fun w2 J5 s5 ew => ?_⟩
        have b23 := b22.same s5
        have h23 := h22.same s5
        refine ⟨_, rfl, by show 2 ≤ sizeLine; decide, fun r nr => ?_⟩
        have sr : Same J5 (upd J5 r (.tup [.str "text", .str "A"])) := same_new nr
        have er : upd J5 r (.tup [.str "text", .str "A"]) r = some (.tup [.str "text", .str "A"]) := upd_same
        generalize upd J5 r (.tup [.str "text", .str "A"]) = J6 at sr er
        have b24 := b23.same sr
        have h24 := h23.same sr
        refine ⟨.tuple [.str "text", .str "A"], .tuple [.str "text", .str "A"], .tup (.inl (.inl (sr _ _ ew))) (.cons (.str _) (.cons (.str _) .nil)), .tup (.inl (.inl er)) (.cons (.str _) (.cons (.str _) .nil)), by decide +kernel, by decide +kernel, ?_⟩
        refine ⟨_, rfl, iteB (by decide +kernel) ?_⟩
        obtain ⟨dx, n, a, e, c1, e0, e1, e2, e3, e4⟩ := id b24.hs.ex
        refine ⟨_, rfl, s, C, dx, _, _, rfl, e0, Z.cl, Z.nT, sf_texts, _, rfl, s, C, dx, _, _, rfl, e0, Z.cl, Z.nM, sf_names, by show 2 ≤ sizeLine; decide, fun u nu => ?_⟩
        have su : Same J6 (upd J6 u (.tup [.ref a, .ref e])) := same_new nu
        have b25 := b24.same su
        refine ⟨_, rfl, eq_pair60 ok.ps ⟨a, e, upd_same, su _ _ e2, e3.same su⟩ (h24.same su) ⟨_, rfl, iteT ?_⟩⟩
        exact ⟨_, rfl, _, rfl, p, s, S, rfl, b25.pot, b25.hs, ok, bz, by omega, b25.lw.tabs, b25.lw.sys, fun G bk => k G ((b25.blk bk).lw.ladT bk.pot)⟩
end
end Gu
namespace Gu
open PySem PySem.Spec PyProof.Rows L2 LamX
theorem tabs_updS {T : List (Addr × Str)} {G : Hp} {q : Addr} {xs : List V} {o : HO} (t : Tabs T G) (e : G q = some (.lst xs)) : Tabs T (upd G q o) := by
  refine t.of (fun P ps h1 => ?_) (fun c q0 e2 => ?_)
  · rw [upd_ne fun z => by rw [z, e] at h1; cases h1]
    exact h1
  · rw [upd_ne fun z => by
      rw [z, e] at e2
      have y := Option.some.inj e2
      unfold CodeO at y
      cases y]
    exact e2
section
variable {P : Program} {w : World} {K : PySem.W.Frag} {mg : Str → Option Value} {base : Heap}
theorem stL {K : PySem.W.Frag} {H G : Hp} {a : Addr} {xs : List V} (s : Same H G) (h : SqL K H a xs) : SqL K G a xs := (Same.n s).sqL h
def spLawT (T : List (Addr × Str)) (K : PySem.W.Frag) : Sp := fun vs H Q _ => ∃ (a : Addr) (ns : List Int), vs = [.ref a] ∧ SqL K H a (ns.map V.int) ∧ ns.length ≤ 63 ∧ Tabs T H ∧ Sys H ∧ ∀ G, Q (.bl true) G
theorem cal_lawT {n : Nat} {T : List (Addr × Str)} (B : Bi mg) {f : Addr} {fd : FuncData} (F : Fun K "law" "law" s_law f fd) (n1 : 1 ≤ n) (C_law_source : Cal P w K mg base 1 "_law_source" ps_law_source (spPot K)) (C_law_right : CalG P w K mg base n "_law_right" ps_law_right (spRightT T)) : FnG P w K mg base (n + 1) f fd ps_law (spLawT T K) := by
  refine okG F sc_law (fun vs H Q E h => ?_) (fun cdv A outer s H vs Q E hr quiet h => ?_)
  · obtain ⟨a, ns, rfl, _⟩ := h
    rfl
  · obtain ⟨a, ns, rfl, hS, hl, hT, hY, k⟩ := h
    have hk1 := n1
    refine ⟨_, (pss_one (ps_ret (pe_callB (cr_all rfl) (by rfl) B.all (by decide +kernel) (pa_cons (pe_lc (own := [("_law_k", 1)]) (by rfl) sc_law.nd (pi_range1 (by rfl) B.range (pa_cons (pe_callB (call_max2 rfl) (by rfl) B.max (by decide +kernel) (pa_cons pe_int (pa_cons (pe_callB (call_min2 rfl) (by rfl) B.min (by decide +kernel) (pa_cons (pe_callB call_len_seq (by rfl) B.len (by decide +kernel) (pa_cons (pv 0) pa_nil)) (pa_cons pe_int pa_nil))) pa_nil))) pa_nil)) (blkOk_by (own := [("_law_k", 1)]) (N := ["_law_script", "_law_k"]) (sc := defScope s_law) (by decide +kernel)) (fun _ _ _ _ _ => pg_name (i := 1) sc_law.nd rfl (.inl rfl)) (fun _ _ _ _ _ => pts_nil) (fun _ _ _ _ _ => (pe_ownG C_law_right hr (Nat.le_refl _) quiet (by rfl) (pa_cons (pe_own C_law_source hr hk1 (by rfl) (pa_cons (pv 0) (pa_cons (pv 1) pa_nil))) pa_nil)))) pa_nil)))), ?_⟩
    refine ⟨_, rfl, a, _, rfl, .inl hS, _, _, rfl, _, _, rfl, ?_⟩
    rw [List.length_map]
    generalize hm : (if (4 : Int) < (ns.length : Int) then (4 : Int) else (ns.length : Int)) = m
    have m1 : m ≤ 4 := by rw [← hm]; split <;> omega
    refine ⟨_, rfl, by split <;> omega, by split <;> omega, fun D nD => ?_⟩
    refine lc_range (lo := 0) (n := (if m > (2 : Int) then m else 2).toNat) (fun i J => ∃ bs : List Bool, bs.length = i ∧ bs.all id = true ∧ J D = some (.lst (bs.map V.bl)) ∧ SameN H J ∧ Tabs T J) ⟨[], rfl, rfl, upd_same, Same.n (same_new nD), hT.ext (same_new nD)⟩ ?_ ?_
    · rintro i J hi ⟨bs, rfl, ha, eD, sJ, tJ⟩
      have i5 : bs.length < 7 := by
        revert hi
        split <;> omega
      refine ⟨rfl, yes (iteT ⟨_, rfl, _, rfl, a, bs.length, ns, ?_, sJ.sqL hS, by omega, fun p G np hp sG => ?_⟩)⟩
      · rw [Int.zero_add]
        rfl
      · refine ⟨p, rfl, hp, tJ.ext sG, (sJ.sys hY).same sG, fun G2 L => ?_⟩
        have nDp : D ≠ p := ne_of_none eD np
        have gD : G2 D = some (.lst (bs.map V.bl)) := L.keep _ _ (sG _ _ eD) nDp fun _ z => by cases z
        refine ⟨_, gD, small1000 (by rw [List.length_map]; omega), bs ++ [true], by rw [List.length_append]; rfl, by rw [List.all_append, ha]; rfl, ?_, fun b o e nt => ?_, ?_⟩
        · rw [upd_same, List.map_append]
          rfl
        · rw [upd_ne (ne_of_none e nD)]
          exact L.keep _ _ (sG _ _ (sJ _ _ e nt)) (ne_of_none (sJ _ _ e nt) np) nt
        · exact tabs_updS L.tabs gD
    · rintro J ⟨bs, el, ha, eD, _⟩
      refine ⟨D, bs, rfl, .inl (.inl eD), ?_⟩
      rw [ha]
      exact k J
end
end Gu
namespace Gu
open PySem PySem.Spec PyProof.Rows L2
theorem at_mk {K : PySem.W.Frag} {h : Heap} {mg : Str → Option Value} {x : Str} {st : Stmt} {ps : List Str} {f : Addr} {oc : Value} {od an : Option Addr} {sl : Array (Option Value)} {kV dc pm cd ct : Value} (X : K.In h) (G : h.Ns mainGlobals mg)
    (hb : ∀ (kV doc pm : Value) (an : Option Addr) (cdv ct : Value) (us : List Value), us.length = ps.length → bindArgs (PySem.W.fnOf x x (defArgs st) (defBody st) (defScope st) .none kV doc pm an cdv ct) ⟨us, []⟩ = pure (ps.zip us))
    (a : PySem.W.nsIn K mainGlobals x = some (some (.ref f))) (l : K.lookup f = some ⟨oc, od, .func (PySem.W.fnOf x x (defArgs st) (defBody st) (defScope st) .none kV dc pm an cd ct), sl⟩) (c : PySem.W.codeIn K cd x = true) (k : PySem.W.keepIn K (.ref f) = true) : At K mg x st ps :=
  ⟨f, _, fun_mk l c k, (fun_mk l c k).binds hb, PySem.W.mg_of X G a⟩
theorem cst_mk {K : PySem.W.Frag} {h : Heap} {mg : Str → Option Value} {x : Str} {v : V} {u : Value} (X : K.In h) (G : h.Ns mainGlobals mg) (r : RelV v u) (a : PySem.W.nsIn K mainGlobals x = some (some u)) : ∃ u, mg x = some u ∧ RelV v u := ⟨u, PySem.W.mg_of X G a, r⟩
end Gu
namespace Gu
open PySem PySem.Spec PyProof.Rows L2
structure LenFn (K : PySem.W.Frag) (C : Addr) : Prop where
  ex : ∃ (f : Addr) (fd : FuncData), PySem.W.findIn K (.ref C) "__len__" = some (some (.ref f)) ∧ PySem.W.isFn K (.ref f) = true ∧ Fun K "__len__" "Shelf.__len__" s_Shelf_len f fd ∧ Binds K fd ps_Shelf_len []
end Gu
namespace Gu
open PySem PySem.Spec PyProof.Rows L2
theorem fin {P : Program} {w : World} {K : PySem.W.Frag} {mg : Str → Option Value} {base : Heap} {N C Ct Ce U_InputError U_SizeError U_StateError E_InvalidNumber E_InvalidMark E_InvalidText E_InvalidLength E_InvalidRule E_InvalidWidth E_InvalidPlace E_InvalidLine E_NotANamer E_NotAShelf E_InvalidRow E_InvalidViews E_InvalidTexts E_InvalidDeeds E_NothingToUndo E_Busy E_UnknownName E_TooMany cc_law_right PP_law_right f : Addr} {fd : FuncData} (B : Bi mg) (UK_InputError : UpK K mg bVE "InputError" U_InputError) (UK_SizeError : UpK K mg bAE "SizeError" U_SizeError) (UK_StateError : UpK K mg bLE "StateError" U_StateError) (EK_InvalidNumber : ErrK K mg bVE U_InputError "InvalidNumber" E_InvalidNumber) (EF_InvalidNumber : ErrF K "InvalidNumber" "value" E_InvalidNumber) (EK_InvalidMark : ErrK K mg bVE U_InputError "InvalidMark" E_InvalidMark) (EF_InvalidMark : ErrF K "InvalidMark" "value" E_InvalidMark) (EK_InvalidText : ErrK K mg bVE U_InputError "InvalidText" E_InvalidText) (EF_InvalidText : ErrF K "InvalidText" "value" E_InvalidText) (EK_InvalidLength : ErrK K mg bVE U_InputError "InvalidLength" E_InvalidLength) (EF_InvalidLength : ErrF K "InvalidLength" "value" E_InvalidLength) (EK_InvalidRule : ErrK K mg bVE U_InputError "InvalidRule" E_InvalidRule) (EF_InvalidRule : ErrF K "InvalidRule" "value" E_InvalidRule) (EK_InvalidWidth : ErrK K mg bVE U_InputError "InvalidWidth" E_InvalidWidth) (EF_InvalidWidth : ErrF K "InvalidWidth" "value" E_InvalidWidth) (EK_InvalidPlace : ErrK K mg bVE U_InputError "InvalidPlace" E_InvalidPlace) (EF_InvalidPlace : ErrF K "InvalidPlace" "value" E_InvalidPlace) (EK_InvalidLine : ErrK K mg bVE U_InputError "InvalidLine" E_InvalidLine) (EF_InvalidLine : ErrF K "InvalidLine" "value" E_InvalidLine) (EK_NotANamer : ErrK K mg bVE U_InputError "NotANamer" E_NotANamer) (EF_NotANamer : ErrF K "NotANamer" "value" E_NotANamer) (EK_NotAShelf : ErrK K mg bVE U_InputError "NotAShelf" E_NotAShelf) (EF_NotAShelf : ErrF K "NotAShelf" "value" E_NotAShelf) (EK_InvalidRow : ErrK K mg bVE U_InputError "InvalidRow" E_InvalidRow) (EF_InvalidRow : ErrF K "InvalidRow" "index" E_InvalidRow) (EK_InvalidViews : ErrK K mg bVE U_InputError "InvalidViews" E_InvalidViews) (EF_InvalidViews : ErrF K "InvalidViews" "index" E_InvalidViews) (EK_InvalidTexts : ErrK K mg bVE U_InputError "InvalidTexts" E_InvalidTexts) (EF_InvalidTexts : ErrF K "InvalidTexts" "index" E_InvalidTexts) (EK_InvalidDeeds : ErrK K mg bVE U_InputError "InvalidDeeds" E_InvalidDeeds) (EF_InvalidDeeds : ErrF K "InvalidDeeds" "index" E_InvalidDeeds) (EK_NothingToUndo : ErrK K mg bLE U_StateError "NothingToUndo" E_NothingToUndo) (EK_Busy : ErrK K mg bLE U_StateError "Busy" E_Busy) (EK_UnknownName : ErrK K mg bLE U_StateError "UnknownName" E_UnknownName) (EF_UnknownName : ErrF K "UnknownName" "value" E_UnknownName) (EK_TooMany : ErrK K mg bAE U_SizeError "TooMany" E_TooMany) (EF_TooMany : ErrF K "TooMany" "limit" E_TooMany) (AC_law_right : AtC K mg "_law_right" s_law_right ps_law_right cc_law_right) (TB_law_right : LamX.TabB base mg cc_law_right PP_law_right) (T_DEED_WORDS : TupC K mg "DEED_WORDS" ["add", "remove"]) (Sn : NmC K mg N) (In : NInitAt K N) (Sh : ShlC K mg C) (Ih : ShInitAt K C) (Yh : ShlI K C) (D_Shelf_become : MethAt K C "become" "Shelf.become" s_Shelf_become ps_Shelf_become) (D_Shelf_let_come : MethAt K C "let_come" "Shelf.let_come" s_Shelf_let_come ps_Shelf_let_come) (D_Shelf_let_go : MethAt K C "let_go" "Shelf.let_go" s_Shelf_let_go ps_Shelf_let_go) (D_Shelf_check_not_busy : MethAt K C "check_not_busy" "Shelf.check_not_busy" s_Shelf_check_not_busy ps_Shelf_check_not_busy) (D_Shelf_add : MethAt K C "add" "Shelf.add" s_Shelf_add ps_Shelf_add) (D_Shelf_remove : MethAt K C "remove" "Shelf.remove" s_Shelf_remove ps_Shelf_remove) (D_Shelf_undo : MethAt K C "undo" "Shelf.undo" s_Shelf_undo ps_Shelf_undo) (D_Shelf_do_deed : MethAt K C "do_deed" "Shelf.do_deed" s_Shelf_do_deed ps_Shelf_do_deed) (D_Shelf_trial : MethAt K C "trial" "Shelf.trial" s_Shelf_trial ps_Shelf_trial) (D_Shelf_len : LenFn K C) (D_Shelf_do_all : DoAllAt K C) (St : TriC K mg Ct) (It : TriInitAt K Ct) (D_Trial_enter : MethAt K Ct "__enter__" "Trial.__enter__" s_Trial_enter ps_Trial_enter) (D_Trial_exit : MethAt K Ct "__exit__" "Trial.__exit__" s_Trial_exit ps_Trial_exit) (Se : EntC K mg Ce) (Ie : EntInitAt K Ce)
    (A_is_integer : At K mg "is_integer" s_is_integer ps_is_integer) (A_is_tuple : At K mg "is_tuple" s_is_tuple ps_is_tuple) (A_is_text : At K mg "is_text" s_is_text ps_is_text) (A_check_text : At K mg "check_text" s_check_text ps_check_text) (A_check_namer : At K mg "check_namer" s_check_namer ps_check_namer) (A_base_of : At K mg "base_of" s_base_of ps_base_of) (A_numbered : At K mg "numbered" s_numbered ps_numbered) (A_counted_name : At K mg "counted_name" s_counted_name ps_counted_name) (A_free_name : At K mg "free_name" s_free_name ps_free_name) (A_name_of_next : At K mg "name_of_next" s_name_of_next ps_name_of_next) (A_is_deed : At K mg "is_deed" s_is_deed ps_is_deed) (A_check_deeds : At K mg "check_deeds" s_check_deeds ps_check_deeds) (A_within : At K mg "within" s_within ps_within) (A_attempt : At K mg "attempt" s_attempt ps_attempt) (A_law_source : At K mg "_law_source" s_law_source ps_law_source) (A_law_draw : At K mg "_law_draw" s_law_draw ps_law_draw) (A_law_one : At K mg "_law_one" s_law_one ps_law_one) (A_law_stem : At K mg "_law_stem" s_law_stem ps_law_stem) (A_law_word : At K mg "_law_word" s_law_word ps_law_word) (A_law_refusal : At K mg "_law_refusal" s_law_refusal ps_law_refusal) (A_law_tried : At K mg "_law_tried" s_law_tried ps_law_tried) (A_law_all_gone : At K mg "_law_all_gone" s_law_all_gone ps_law_all_gone) (A_law_gone_and_back : At K mg "_law_gone_and_back" s_law_gone_and_back ps_law_gone_and_back) (A_law_fails : At K mg "_law_fails" s_law_fails ps_law_fails)
    (F : Fun K "law" "law" s_law f fd) : FnG P w K mg base 17 f fd ps_law (spLawT [(PP_law_right, lamQ_law_right)] K) := by
  have c1 : Cal P w K mg base 1 "_law_draw" ps_law_draw spLadle := cal_draw B A_law_draw
  have c2 : Cal P w K mg base 2 "_law_one" ps_law_one (spOneOf K) := cal_one B A_law_one c1
  have c3 : Cal P w K mg base 2 "_law_stem" ps_law_stem spStem := cal_stem B A_law_stem c1
  have p1 : Cal P w K mg base 1 "is_integer" ps_is_integer (spIsInteger K) := cal_isInteger B A_is_integer
  have p2 : Cal P w K mg base 1 "is_text" ps_is_text (spIsText K) := cal_isText B A_is_text
  have p4 : Cal P w K mg base 1 "check_namer" ps_check_namer (spCheckNamer N) := cal_checkNamer B Sn A_check_namer
  have p5 : Cal P w K mg base 1 "base_of" ps_base_of (spBaseOf N) := cal_baseOf B Sn A_base_of
  have p6 : Cal P w K mg base 1 "numbered" ps_numbered (spNumQ N) := cal_numQ B Sn A_numbered
  have p7 : Cal P w K mg base 2 "counted_name" ps_counted_name (spCountedQ K N) := cal_countedQ B Sn A_counted_name p5 p6
  have p8 : Cal P w K mg base 2 "free_name" ps_free_name (spFreeQ K N) := cal_freeQ B A_free_name p6
  have p9 : Cal P w K mg base 3 "name_of_next" ps_name_of_next (spNextQ K N) := cal_nextQ B Sn A_name_of_next p5 p7 p8
  have m1 : Mak P w K mg base 2 "Namer" N (spNInit N (NmAt N)) := mak_nm B Sn In p1
  have m2 : Mak P w K mg base 2 "Shelf" C (spShInit C N) := mak_sh B Sh Ih p4
  have b1 : CalM P w K mg base 1 C "become" ps_Shelf_become (spBecome C N) := cal_become B Sh D_Shelf_become
  have b4 : CalM P w K mg base 1 C "check_not_busy" ps_Shelf_check_not_busy (spCalmS C N) := cal_notBusy B Sh D_Shelf_check_not_busy
  have p3w : Cal P w K mg base 2 "check_text" ps_check_text spCheckTextW := cal_checkTextW B A_check_text p2
  have b2w : CalM P w K mg base 4 C "let_come" ps_Shelf_let_come (spLetCome C N) := cal_letCome B Sh D_Shelf_let_come p3w p9 b1
  have b5w : CalM P w K mg base 5 C "add" ps_Shelf_add (spAdd C N) := cal_add B Sh D_Shelf_add b4 b2w
  have b3 : CalM P w K mg base 2 C "let_go" ps_Shelf_let_go (spLetGo C N) := cal_letGo B Sh D_Shelf_let_go b1
  have b6 : CalM P w K mg base 3 C "remove" ps_Shelf_remove (spRemove C N) := cal_remove B Sh D_Shelf_remove b4 b3
  have b7 : CalM P w K mg base 2 C "undo" ps_Shelf_undo (spUndo C N) := cal_undo B Sh D_Shelf_undo b4
  have p3 : CalX P w K mg base 2 "check_text" ps_check_text (spCheckTextE K E_InvalidText) := cal_checkTextE B A_check_text EK_InvalidText EF_InvalidText (txt_of p2)
  have b2 : CalMX P w K mg base 4 C "let_come" ps_Shelf_let_come (spLetComeE K C N E_InvalidText E_TooMany) := cal_letComeE B Sh EK_TooMany EF_TooMany D_Shelf_let_come p3 p9 b1
  have b5 : CalMX P w K mg base 5 C "add" ps_Shelf_add (spAddE K C N E_InvalidText E_TooMany) := cal_addE B Sh D_Shelf_add b4 b2
  have p3n : CalXN P w K mg base 2 "check_text" ps_check_text (spCheckTextE K E_InvalidText) := cal_checkTextEN B A_check_text EK_InvalidText EF_InvalidText (txt_of p2)
  have b2n : CalMXN P w K mg base 4 C "let_come" ps_Shelf_let_come (spLetComeE K C N E_InvalidText E_TooMany) := cal_letComeEN B Sh EK_TooMany EF_TooMany D_Shelf_let_come p3n p9 b1
  have b3n : CalMXN P w K mg base 2 C "let_go" ps_Shelf_let_go (spLetGoE K C N E_UnknownName) := cal_letGoEN B Sh EK_UnknownName EF_UnknownName D_Shelf_let_go b1
  have d0 : CalMXN P w K mg base 5 C "do_deed" ps_Shelf_do_deed (spDoDeedX K C N E_InvalidText E_TooMany E_UnknownName) := cal_doDeedXN B Sh D_Shelf_do_deed b2n b3n
  have pt : Cal P w K mg base 1 "is_tuple" ps_is_tuple (spIsTuple K) := cal_isTuple B A_is_tuple
  have d1 : Cal P w K mg base 2 "is_deed" ps_is_deed spIsDeed := cal_isDeed B T_DEED_WORDS A_is_deed pt
  have d2 : Cal P w K mg base 3 "check_deeds" ps_check_deeds (spCheckDeeds K) := cal_checkDeeds B A_check_deeds d1
  have d4 : CalDX P w K mg base 6 C [] (spDoAllX K C N E_InvalidText E_TooMany E_UnknownName) := cal_doAllX B Sh D_Shelf_do_all b4 d2 d0
  have EA : ErrAll K mg (fun i => match i with | 0 => E_InvalidNumber | 1 => E_InvalidMark | 2 => E_InvalidText | 3 => E_InvalidLength | 4 => E_InvalidRule | 5 => E_InvalidWidth | 6 => E_InvalidPlace | 7 => E_InvalidLine | 8 => E_NotANamer | 9 => E_NotAShelf | 10 => E_InvalidRow | 11 => E_InvalidViews | 12 => E_InvalidTexts | 13 => E_InvalidDeeds | 14 => E_NothingToUndo | 15 => E_Busy | 16 => E_UnknownName | _ => E_TooMany) (fun i => match i with | 0 => U_InputError | 1 => U_StateError | _ => U_SizeError) := ⟨fun i hi => match i, hi with | 0, _ => UK_InputError | 1, _ => UK_StateError | 2, _ => UK_SizeError, fun i hi => match i, hi with | 0, _ => EK_InvalidNumber | 1, _ => EK_InvalidMark | 2, _ => EK_InvalidText | 3, _ => EK_InvalidLength | 4, _ => EK_InvalidRule | 5, _ => EK_InvalidWidth | 6, _ => EK_InvalidPlace | 7, _ => EK_InvalidLine | 8, _ => EK_NotANamer | 9, _ => EK_NotAShelf | 10, _ => EK_InvalidRow | 11, _ => EK_InvalidViews | 12, _ => EK_InvalidTexts | 13, _ => EK_InvalidDeeds | 14, _ => EK_NothingToUndo | 15, _ => EK_Busy | 16, _ => EK_UnknownName | 17, _ => EK_TooMany | n + 18, h => absurd h (by omega)⟩
  obtain ⟨fL, fdL, sL, iL, FL, bL⟩ := D_Shelf_len.ex
  have W : ShlN P w K mg base C N := ⟨fL, fdL, ok_lenS B Sh FL, bL, sL, iL⟩
  have m3 : Mak P w K mg base 2 "Trial" Ct (spTriInit Ct) := mak_tri B St It
  have m4 : Mak P w K mg base 2 "Entry" Ce (spEntInit C Ce) := mak_ent B Sh Se Ie
  have t1 : CalM P w K mg base 4 Ct "__enter__" ps_Trial_enter (spEnter C Ct Ce) := cal_enter B St D_Trial_enter m4
  have t2 : CalM P w K mg base 2 Ct "__exit__" ps_Trial_exit (spExit C Ct Ce) := cal_exit B Sh St Se D_Trial_exit
  have t3 : CalM P w K mg base 4 C "trial" ps_Shelf_trial (spTrial C N Ct) := cal_trial B Sh D_Shelf_trial b4 m3
  have CE := (cal_ref2 (P := P) (w := w) (base := base) B EA EF_InvalidText A_law_refusal).or (cal_ref16 (P := P) (w := w) (base := base) B EA EF_UnknownName A_law_refusal)
  have c4 : Cal P w K mg base 3 "_law_word" ps_law_word (spWord K) := cal_word B A_law_word c1 c2 c3
  have t2x : CalME P w K mg base 2 Ct "__exit__" ps_Trial_exit (spExit C Ct Ce) := cal_exitE B Sh St Se D_Trial_exit
  have t4 : CalA P w K mg base 9 10 "within" ps_within (spWithin C Ct Ce) := cal_within B A_within (by decide) (by decide) t1 t2
  have t5 : CalA P w K mg base 9 11 "attempt" ps_attempt (spAttempt C N Ct Ce) := cal_attempt B Sh Yh A_attempt (by decide) t3 t4
  have t4x : CalAX P w K mg base 9 10 "within" ps_within (spWithinX C Ct Ce) := cal_withinX B A_within (by decide) (by decide) t1 t2x
  have t5x : CalAX P w K mg base 9 11 "attempt" ps_attempt (spAttemptX C N Ct Ce) := cal_attemptX B Sh Yh A_attempt (by decide) t3 t4x
  have b3x : CalMX P w K mg base 2 C "let_go" ps_Shelf_let_go (spLetGoE K C N E_UnknownName) := cal_letGoE B Sh EK_UnknownName EF_UnknownName D_Shelf_let_go b1
  have b6x : CalMX P w K mg base 3 C "remove" ps_Shelf_remove (spRemoveE K C N E_UnknownName) := cal_removeE B Sh D_Shelf_remove b4 b3x
  have g1 : Cal P w K mg base 5 "_law_all_gone" ps_law_all_gone (spAllGone [(PP_law_right, lamQ_law_right)] C N) := cal_allGone B Sh W A_law_all_gone c1 b6
  have g2 : Cal P w K mg base 6 "_law_gone_and_back" ps_law_gone_and_back (spGoneBack [(PP_law_right, lamQ_law_right)] C N) := cal_goneBack B Sh A_law_gone_and_back g1 b7
  have g3 : CalX P w K mg base 6 "_law_fails" ps_law_fails (spFails [(PP_law_right, lamQ_law_right)] C N E_UnknownName) := cal_fails B Sh A_law_fails g1 b6x
  have r1 := cal_right (c := _) (u := _) (T := [(PP_law_right, lamQ_law_right)]) B Sh EA AC_law_right TB_law_right (List.mem_singleton.mpr rfl) rfl (fun p hp _ => by rw [List.mem_singleton.mp hp]) A_law_tried CE c1 c2 c3 c4 m1 m2 t3 b5w g1 g2 g3 t4 t5 t5x d4
  exact cal_lawT B F (by decide) (cal_source B A_law_source) r1
end Gu
namespace Gu
open PySem PySem.Spec PyProof.Rows L2
set_option maxHeartbeats 0 in
theorem all_mk {l : PySem.W.OpenLaw} {q : Program} {w : World} {K : PySem.W.Frag} {h : Heap} {mg : Str → Option Value} {fa : Addr} {f_is_integer : Addr} {oc_is_integer kV_is_integer dc_is_integer pm_is_integer cd_is_integer ct_is_integer : Value} {od_is_integer an_is_integer : Option Addr} {sl_is_integer : Array (Option Value)} {f_is_tuple : Addr} {oc_is_tuple kV_is_tuple dc_is_tuple pm_is_tuple cd_is_tuple ct_is_tuple : Value} {od_is_tuple an_is_tuple : Option Addr} {sl_is_tuple : Array (Option Value)} {f_is_text : Addr} {oc_is_text kV_is_text dc_is_text pm_is_text cd_is_text ct_is_text : Value} {od_is_text an_is_text : Option Addr} {sl_is_text : Array (Option Value)} {f_check_text : Addr} {oc_check_text kV_check_text dc_check_text pm_check_text cd_check_text ct_check_text : Value} {od_check_text an_check_text : Option Addr} {sl_check_text : Array (Option Value)} {f_check_namer : Addr} {oc_check_namer kV_check_namer dc_check_namer pm_check_namer cd_check_namer ct_check_namer : Value} {od_check_namer an_check_namer : Option Addr} {sl_check_namer : Array (Option Value)} {f_base_of : Addr} {oc_base_of kV_base_of dc_base_of pm_base_of cd_base_of ct_base_of : Value} {od_base_of an_base_of : Option Addr} {sl_base_of : Array (Option Value)} {f_numbered : Addr} {oc_numbered kV_numbered dc_numbered pm_numbered cd_numbered ct_numbered : Value} {od_numbered an_numbered : Option Addr} {sl_numbered : Array (Option Value)} {f_counted_name : Addr} {oc_counted_name kV_counted_name dc_counted_name pm_counted_name cd_counted_name ct_counted_name : Value} {od_counted_name an_counted_name : Option Addr} {sl_counted_name : Array (Option Value)} {f_free_name : Addr} {oc_free_name kV_free_name dc_free_name pm_free_name cd_free_name ct_free_name : Value} {od_free_name an_free_name : Option Addr} {sl_free_name : Array (Option Value)} {f_name_of_next : Addr} {oc_name_of_next kV_name_of_next dc_name_of_next pm_name_of_next cd_name_of_next ct_name_of_next : Value} {od_name_of_next an_name_of_next : Option Addr} {sl_name_of_next : Array (Option Value)} {f_is_deed : Addr} {oc_is_deed kV_is_deed dc_is_deed pm_is_deed cd_is_deed ct_is_deed : Value} {od_is_deed an_is_deed : Option Addr} {sl_is_deed : Array (Option Value)} {f_check_deeds : Addr} {oc_check_deeds kV_check_deeds dc_check_deeds pm_check_deeds cd_check_deeds ct_check_deeds : Value} {od_check_deeds an_check_deeds : Option Addr} {sl_check_deeds : Array (Option Value)} {f_within : Addr} {oc_within kV_within dc_within pm_within cd_within ct_within : Value} {od_within an_within : Option Addr} {sl_within : Array (Option Value)} {f_attempt : Addr} {oc_attempt kV_attempt dc_attempt pm_attempt cd_attempt ct_attempt : Value} {od_attempt an_attempt : Option Addr} {sl_attempt : Array (Option Value)} {f_law_source : Addr} {oc_law_source kV_law_source dc_law_source pm_law_source cd_law_source ct_law_source : Value} {od_law_source an_law_source : Option Addr} {sl_law_source : Array (Option Value)} {f_law_draw : Addr} {oc_law_draw kV_law_draw dc_law_draw pm_law_draw cd_law_draw ct_law_draw : Value} {od_law_draw an_law_draw : Option Addr} {sl_law_draw : Array (Option Value)} {f_law_one : Addr} {oc_law_one kV_law_one dc_law_one pm_law_one cd_law_one ct_law_one : Value} {od_law_one an_law_one : Option Addr} {sl_law_one : Array (Option Value)} {f_law_stem : Addr} {oc_law_stem kV_law_stem dc_law_stem pm_law_stem cd_law_stem ct_law_stem : Value} {od_law_stem an_law_stem : Option Addr} {sl_law_stem : Array (Option Value)} {f_law_word : Addr} {oc_law_word kV_law_word dc_law_word pm_law_word cd_law_word ct_law_word : Value} {od_law_word an_law_word : Option Addr} {sl_law_word : Array (Option Value)} {f_law_refusal : Addr} {oc_law_refusal kV_law_refusal dc_law_refusal pm_law_refusal cd_law_refusal ct_law_refusal : Value} {od_law_refusal an_law_refusal : Option Addr} {sl_law_refusal : Array (Option Value)} {f_law_tried : Addr} {oc_law_tried kV_law_tried dc_law_tried pm_law_tried cd_law_tried ct_law_tried : Value} {od_law_tried an_law_tried : Option Addr} {sl_law_tried : Array (Option Value)} {f_law_all_gone : Addr} {oc_law_all_gone kV_law_all_gone dc_law_all_gone pm_law_all_gone cd_law_all_gone ct_law_all_gone : Value} {od_law_all_gone an_law_all_gone : Option Addr} {sl_law_all_gone : Array (Option Value)} {f_law_gone_and_back : Addr} {oc_law_gone_and_back kV_law_gone_and_back dc_law_gone_and_back pm_law_gone_and_back cd_law_gone_and_back ct_law_gone_and_back : Value} {od_law_gone_and_back an_law_gone_and_back : Option Addr} {sl_law_gone_and_back : Array (Option Value)} {f_law_fails : Addr} {oc_law_fails kV_law_fails dc_law_fails pm_law_fails cd_law_fails ct_law_fails : Value} {od_law_fails an_law_fails : Option Addr} {sl_law_fails : Array (Option Value)} {f_law_right : Addr} {oc_law_right kV_law_right dc_law_right pm_law_right cd_law_right ct_law_right : Value} {od_law_right an_law_right : Option Addr} {sl_law_right : Array (Option Value)} {f_law : Addr} {oc_law kV_law dc_law pm_law cd_law ct_law : Value} {od_law an_law : Option Addr} {sl_law : Array (Option Value)} {N : Addr} {f_in : Addr} {oc_in kV_in dc_in pm_in cd_in ct_in : Value} {od_in an_in : Option Addr} {sl_in : Array (Option Value)} {C : Addr} {f_ih : Addr} {oc_ih kV_ih dc_ih pm_ih cd_ih ct_ih : Value} {od_ih an_ih : Option Addr} {sl_ih : Array (Option Value)} {f_hm_become : Addr} {oc_hm_become kV_hm_become dc_hm_become pm_hm_become cd_hm_become ct_hm_become : Value} {od_hm_become an_hm_become : Option Addr} {sl_hm_become : Array (Option Value)} {f_hm_let_come : Addr} {oc_hm_let_come kV_hm_let_come dc_hm_let_come pm_hm_let_come cd_hm_let_come ct_hm_let_come : Value} {od_hm_let_come an_hm_let_come : Option Addr} {sl_hm_let_come : Array (Option Value)} {f_hm_let_go : Addr} {oc_hm_let_go kV_hm_let_go dc_hm_let_go pm_hm_let_go cd_hm_let_go ct_hm_let_go : Value} {od_hm_let_go an_hm_let_go : Option Addr} {sl_hm_let_go : Array (Option Value)} {f_hm_check_not_busy : Addr} {oc_hm_check_not_busy kV_hm_check_not_busy dc_hm_check_not_busy pm_hm_check_not_busy cd_hm_check_not_busy ct_hm_check_not_busy : Value} {od_hm_check_not_busy an_hm_check_not_busy : Option Addr} {sl_hm_check_not_busy : Array (Option Value)} {f_hm_add : Addr} {oc_hm_add kV_hm_add dc_hm_add pm_hm_add cd_hm_add ct_hm_add : Value} {od_hm_add an_hm_add : Option Addr} {sl_hm_add : Array (Option Value)} {f_hm_remove : Addr} {oc_hm_remove kV_hm_remove dc_hm_remove pm_hm_remove cd_hm_remove ct_hm_remove : Value} {od_hm_remove an_hm_remove : Option Addr} {sl_hm_remove : Array (Option Value)} {f_hm_undo : Addr} {oc_hm_undo kV_hm_undo dc_hm_undo pm_hm_undo cd_hm_undo ct_hm_undo : Value} {od_hm_undo an_hm_undo : Option Addr} {sl_hm_undo : Array (Option Value)} {f_hm_do_deed : Addr} {oc_hm_do_deed kV_hm_do_deed dc_hm_do_deed pm_hm_do_deed cd_hm_do_deed ct_hm_do_deed : Value} {od_hm_do_deed an_hm_do_deed : Option Addr} {sl_hm_do_deed : Array (Option Value)} {f_hm_trial : Addr} {oc_hm_trial kV_hm_trial dc_hm_trial pm_hm_trial cd_hm_trial ct_hm_trial : Value} {od_hm_trial an_hm_trial : Option Addr} {sl_hm_trial : Array (Option Value)} {f_hlen : Addr} {oc_hlen kV_hlen dc_hlen pm_hlen cd_hlen ct_hlen : Value} {od_hlen an_hlen : Option Addr} {sl_hlen : Array (Option Value)} {f_hall kD_hall : Addr} {oc_hall dc_hall pm_hall cd_hall ct_hall : Value} {od_hall an_hall : Option Addr} {sl_hall : Array (Option Value)} {Ct : Addr} {f_it : Addr} {oc_it kV_it dc_it pm_it cd_it ct_it : Value} {od_it an_it : Option Addr} {sl_it : Array (Option Value)} {f_tm___enter__ : Addr} {oc_tm___enter__ kV_tm___enter__ dc_tm___enter__ pm_tm___enter__ cd_tm___enter__ ct_tm___enter__ : Value} {od_tm___enter__ an_tm___enter__ : Option Addr} {sl_tm___enter__ : Array (Option Value)} {f_tm___exit__ : Addr} {oc_tm___exit__ kV_tm___exit__ dc_tm___exit__ pm_tm___exit__ cd_tm___exit__ ct_tm___exit__ : Value} {od_tm___exit__ an_tm___exit__ : Option Addr} {sl_tm___exit__ : Array (Option Value)} {Ce : Addr} {f_ie : Addr} {oc_ie kV_ie dc_ie pm_ie cd_ie ct_ie : Value} {od_ie an_ie : Option Addr} {sl_ie : Array (Option Value)} {U_InputError M_InputError : Addr} {q_InputError : Str} {bs_InputError sub_InputError : List Value} {sn_InputError : List Str} {ab_InputError : Bool} {col_InputError : Option Bool} {dd_InputError : Option Addr} {m0_InputError m1_InputError m2_InputError m3_InputError m5_InputError : Option Value} {U_SizeError M_SizeError : Addr} {q_SizeError : Str} {bs_SizeError sub_SizeError : List Value} {sn_SizeError : List Str} {ab_SizeError : Bool} {col_SizeError : Option Bool} {dd_SizeError : Option Addr} {m0_SizeError m1_SizeError m2_SizeError m3_SizeError m5_SizeError : Option Value} {U_StateError M_StateError : Addr} {q_StateError : Str} {bs_StateError sub_StateError : List Value} {sn_StateError : List Str} {ab_StateError : Bool} {col_StateError : Option Bool} {dd_StateError : Option Addr} {m0_StateError m1_StateError m2_StateError m3_StateError m5_StateError : Option Value} {E_InvalidNumber M_InvalidNumber : Addr} {q_InvalidNumber : Str} {bs_InvalidNumber sub_InvalidNumber : List Value} {sn_InvalidNumber : List Str} {ab_InvalidNumber : Bool} {col_InvalidNumber : Option Bool} {dd_InvalidNumber : Option Addr} {m0_InvalidNumber m1_InvalidNumber m2_InvalidNumber m3_InvalidNumber m5_InvalidNumber : Option Value} {f_xInvalidNumber : Addr} {oc_xInvalidNumber kV_xInvalidNumber dc_xInvalidNumber pm_xInvalidNumber cd_xInvalidNumber ct_xInvalidNumber : Value} {od_xInvalidNumber an_xInvalidNumber : Option Addr} {sl_xInvalidNumber : Array (Option Value)} {E_InvalidMark M_InvalidMark : Addr} {q_InvalidMark : Str} {bs_InvalidMark sub_InvalidMark : List Value} {sn_InvalidMark : List Str} {ab_InvalidMark : Bool} {col_InvalidMark : Option Bool} {dd_InvalidMark : Option Addr} {m0_InvalidMark m1_InvalidMark m2_InvalidMark m3_InvalidMark m5_InvalidMark : Option Value} {f_xInvalidMark : Addr} {oc_xInvalidMark kV_xInvalidMark dc_xInvalidMark pm_xInvalidMark cd_xInvalidMark ct_xInvalidMark : Value} {od_xInvalidMark an_xInvalidMark : Option Addr} {sl_xInvalidMark : Array (Option Value)} {E_InvalidText M_InvalidText : Addr} {q_InvalidText : Str} {bs_InvalidText sub_InvalidText : List Value} {sn_InvalidText : List Str} {ab_InvalidText : Bool} {col_InvalidText : Option Bool} {dd_InvalidText : Option Addr} {m0_InvalidText m1_InvalidText m2_InvalidText m3_InvalidText m5_InvalidText : Option Value} {f_xInvalidText : Addr} {oc_xInvalidText kV_xInvalidText dc_xInvalidText pm_xInvalidText cd_xInvalidText ct_xInvalidText : Value} {od_xInvalidText an_xInvalidText : Option Addr} {sl_xInvalidText : Array (Option Value)} {E_InvalidLength M_InvalidLength : Addr} {q_InvalidLength : Str} {bs_InvalidLength sub_InvalidLength : List Value} {sn_InvalidLength : List Str} {ab_InvalidLength : Bool} {col_InvalidLength : Option Bool} {dd_InvalidLength : Option Addr} {m0_InvalidLength m1_InvalidLength m2_InvalidLength m3_InvalidLength m5_InvalidLength : Option Value} {f_xInvalidLength : Addr} {oc_xInvalidLength kV_xInvalidLength dc_xInvalidLength pm_xInvalidLength cd_xInvalidLength ct_xInvalidLength : Value} {od_xInvalidLength an_xInvalidLength : Option Addr} {sl_xInvalidLength : Array (Option Value)} {E_InvalidRule M_InvalidRule : Addr} {q_InvalidRule : Str} {bs_InvalidRule sub_InvalidRule : List Value} {sn_InvalidRule : List Str} {ab_InvalidRule : Bool} {col_InvalidRule : Option Bool} {dd_InvalidRule : Option Addr} {m0_InvalidRule m1_InvalidRule m2_InvalidRule m3_InvalidRule m5_InvalidRule : Option Value} {f_xInvalidRule : Addr} {oc_xInvalidRule kV_xInvalidRule dc_xInvalidRule pm_xInvalidRule cd_xInvalidRule ct_xInvalidRule : Value} {od_xInvalidRule an_xInvalidRule : Option Addr} {sl_xInvalidRule : Array (Option Value)} {E_InvalidWidth M_InvalidWidth : Addr} {q_InvalidWidth : Str} {bs_InvalidWidth sub_InvalidWidth : List Value} {sn_InvalidWidth : List Str} {ab_InvalidWidth : Bool} {col_InvalidWidth : Option Bool} {dd_InvalidWidth : Option Addr} {m0_InvalidWidth m1_InvalidWidth m2_InvalidWidth m3_InvalidWidth m5_InvalidWidth : Option Value} {f_xInvalidWidth : Addr} {oc_xInvalidWidth kV_xInvalidWidth dc_xInvalidWidth pm_xInvalidWidth cd_xInvalidWidth ct_xInvalidWidth : Value} {od_xInvalidWidth an_xInvalidWidth : Option Addr} {sl_xInvalidWidth : Array (Option Value)} {E_InvalidPlace M_InvalidPlace : Addr} {q_InvalidPlace : Str} {bs_InvalidPlace sub_InvalidPlace : List Value} {sn_InvalidPlace : List Str} {ab_InvalidPlace : Bool} {col_InvalidPlace : Option Bool} {dd_InvalidPlace : Option Addr} {m0_InvalidPlace m1_InvalidPlace m2_InvalidPlace m3_InvalidPlace m5_InvalidPlace : Option Value} {f_xInvalidPlace : Addr} {oc_xInvalidPlace kV_xInvalidPlace dc_xInvalidPlace pm_xInvalidPlace cd_xInvalidPlace ct_xInvalidPlace : Value} {od_xInvalidPlace an_xInvalidPlace : Option Addr} {sl_xInvalidPlace : Array (Option Value)} {E_InvalidLine M_InvalidLine : Addr} {q_InvalidLine : Str} {bs_InvalidLine sub_InvalidLine : List Value} {sn_InvalidLine : List Str} {ab_InvalidLine : Bool} {col_InvalidLine : Option Bool} {dd_InvalidLine : Option Addr} {m0_InvalidLine m1_InvalidLine m2_InvalidLine m3_InvalidLine m5_InvalidLine : Option Value} {f_xInvalidLine : Addr} {oc_xInvalidLine kV_xInvalidLine dc_xInvalidLine pm_xInvalidLine cd_xInvalidLine ct_xInvalidLine : Value} {od_xInvalidLine an_xInvalidLine : Option Addr} {sl_xInvalidLine : Array (Option Value)} {E_NotANamer M_NotANamer : Addr} {q_NotANamer : Str} {bs_NotANamer sub_NotANamer : List Value} {sn_NotANamer : List Str} {ab_NotANamer : Bool} {col_NotANamer : Option Bool} {dd_NotANamer : Option Addr} {m0_NotANamer m1_NotANamer m2_NotANamer m3_NotANamer m5_NotANamer : Option Value} {f_xNotANamer : Addr} {oc_xNotANamer kV_xNotANamer dc_xNotANamer pm_xNotANamer cd_xNotANamer ct_xNotANamer : Value} {od_xNotANamer an_xNotANamer : Option Addr} {sl_xNotANamer : Array (Option Value)} {E_NotAShelf M_NotAShelf : Addr} {q_NotAShelf : Str} {bs_NotAShelf sub_NotAShelf : List Value} {sn_NotAShelf : List Str} {ab_NotAShelf : Bool} {col_NotAShelf : Option Bool} {dd_NotAShelf : Option Addr} {m0_NotAShelf m1_NotAShelf m2_NotAShelf m3_NotAShelf m5_NotAShelf : Option Value} {f_xNotAShelf : Addr} {oc_xNotAShelf kV_xNotAShelf dc_xNotAShelf pm_xNotAShelf cd_xNotAShelf ct_xNotAShelf : Value} {od_xNotAShelf an_xNotAShelf : Option Addr} {sl_xNotAShelf : Array (Option Value)} {E_InvalidRow M_InvalidRow : Addr} {q_InvalidRow : Str} {bs_InvalidRow sub_InvalidRow : List Value} {sn_InvalidRow : List Str} {ab_InvalidRow : Bool} {col_InvalidRow : Option Bool} {dd_InvalidRow : Option Addr} {m0_InvalidRow m1_InvalidRow m2_InvalidRow m3_InvalidRow m5_InvalidRow : Option Value} {f_xInvalidRow : Addr} {oc_xInvalidRow kV_xInvalidRow dc_xInvalidRow pm_xInvalidRow cd_xInvalidRow ct_xInvalidRow : Value} {od_xInvalidRow an_xInvalidRow : Option Addr} {sl_xInvalidRow : Array (Option Value)} {E_InvalidViews M_InvalidViews : Addr} {q_InvalidViews : Str} {bs_InvalidViews sub_InvalidViews : List Value} {sn_InvalidViews : List Str} {ab_InvalidViews : Bool} {col_InvalidViews : Option Bool} {dd_InvalidViews : Option Addr} {m0_InvalidViews m1_InvalidViews m2_InvalidViews m3_InvalidViews m5_InvalidViews : Option Value} {f_xInvalidViews : Addr} {oc_xInvalidViews kV_xInvalidViews dc_xInvalidViews pm_xInvalidViews cd_xInvalidViews ct_xInvalidViews : Value} {od_xInvalidViews an_xInvalidViews : Option Addr} {sl_xInvalidViews : Array (Option Value)} {E_InvalidTexts M_InvalidTexts : Addr} {q_InvalidTexts : Str} {bs_InvalidTexts sub_InvalidTexts : List Value} {sn_InvalidTexts : List Str} {ab_InvalidTexts : Bool} {col_InvalidTexts : Option Bool} {dd_InvalidTexts : Option Addr} {m0_InvalidTexts m1_InvalidTexts m2_InvalidTexts m3_InvalidTexts m5_InvalidTexts : Option Value} {f_xInvalidTexts : Addr} {oc_xInvalidTexts kV_xInvalidTexts dc_xInvalidTexts pm_xInvalidTexts cd_xInvalidTexts ct_xInvalidTexts : Value} {od_xInvalidTexts an_xInvalidTexts : Option Addr} {sl_xInvalidTexts : Array (Option Value)} {E_InvalidDeeds M_InvalidDeeds : Addr} {q_InvalidDeeds : Str} {bs_InvalidDeeds sub_InvalidDeeds : List Value} {sn_InvalidDeeds : List Str} {ab_InvalidDeeds : Bool} {col_InvalidDeeds : Option Bool} {dd_InvalidDeeds : Option Addr} {m0_InvalidDeeds m1_InvalidDeeds m2_InvalidDeeds m3_InvalidDeeds m5_InvalidDeeds : Option Value} {f_xInvalidDeeds : Addr} {oc_xInvalidDeeds kV_xInvalidDeeds dc_xInvalidDeeds pm_xInvalidDeeds cd_xInvalidDeeds ct_xInvalidDeeds : Value} {od_xInvalidDeeds an_xInvalidDeeds : Option Addr} {sl_xInvalidDeeds : Array (Option Value)} {E_NothingToUndo M_NothingToUndo : Addr} {q_NothingToUndo : Str} {bs_NothingToUndo sub_NothingToUndo : List Value} {sn_NothingToUndo : List Str} {ab_NothingToUndo : Bool} {col_NothingToUndo : Option Bool} {dd_NothingToUndo : Option Addr} {m0_NothingToUndo m1_NothingToUndo m2_NothingToUndo m3_NothingToUndo m5_NothingToUndo : Option Value} {E_Busy M_Busy : Addr} {q_Busy : Str} {bs_Busy sub_Busy : List Value} {sn_Busy : List Str} {ab_Busy : Bool} {col_Busy : Option Bool} {dd_Busy : Option Addr} {m0_Busy m1_Busy m2_Busy m3_Busy m5_Busy : Option Value} {E_UnknownName M_UnknownName : Addr} {q_UnknownName : Str} {bs_UnknownName sub_UnknownName : List Value} {sn_UnknownName : List Str} {ab_UnknownName : Bool} {col_UnknownName : Option Bool} {dd_UnknownName : Option Addr} {m0_UnknownName m1_UnknownName m2_UnknownName m3_UnknownName m5_UnknownName : Option Value} {f_xUnknownName : Addr} {oc_xUnknownName kV_xUnknownName dc_xUnknownName pm_xUnknownName cd_xUnknownName ct_xUnknownName : Value} {od_xUnknownName an_xUnknownName : Option Addr} {sl_xUnknownName : Array (Option Value)} {E_TooMany M_TooMany : Addr} {q_TooMany : Str} {bs_TooMany sub_TooMany : List Value} {sn_TooMany : List Str} {ab_TooMany : Bool} {col_TooMany : Option Bool} {dd_TooMany : Option Addr} {m0_TooMany m1_TooMany m2_TooMany m3_TooMany m5_TooMany : Option Value} {f_xTooMany : Addr} {oc_xTooMany kV_xTooMany dc_xTooMany pm_xTooMany cd_xTooMany ct_xTooMany : Value} {od_xTooMany an_xTooMany : Option Addr} {sl_xTooMany : Array (Option Value)} {cc_law_right PP_law_right : Addr} {rd_law_right : DefRec} {u_MOST_SIGNS : Tok} {u_MOST_TEXT : Tok} {u_MOST_SHELVED : Tok} {u_SIGNS : Tok} {T_RULES : Addr} {td_RULES : Option Addr} {ts_RULES : Array (Option Value)} {tn_RULES : Nat} {e_RULES_0 e_RULES_1 e_RULES_2 : Tok} {u_LEAST_WIDTH : Tok} {T_DEED_WORDS : Addr} {td_DEED_WORDS : Option Addr} {ts_DEED_WORDS : Array (Option Value)} {tn_DEED_WORDS : Nat} {e_DEED_WORDS_0 e_DEED_WORDS_1 : Tok}
    (X : K.In h) (G : h.Ns mainGlobals mg) (TO : TabsOf q K h) (hfa : mg "law" = some (.ref fa))
    (a_is_integer : PySem.W.nsIn K mainGlobals "is_integer" = some (some (.ref f_is_integer)))
    (l_is_integer : K.lookup f_is_integer = some ⟨oc_is_integer, od_is_integer, .func (PySem.W.fnOf "is_integer" "is_integer" (defArgs s_is_integer) (defBody s_is_integer) (defScope s_is_integer) .none kV_is_integer dc_is_integer pm_is_integer an_is_integer cd_is_integer ct_is_integer), sl_is_integer⟩)
    (c_is_integer : PySem.W.codeIn K cd_is_integer "is_integer" = true)
    (k_is_integer : PySem.W.keepIn K (.ref f_is_integer) = true)
    (a_is_tuple : PySem.W.nsIn K mainGlobals "is_tuple" = some (some (.ref f_is_tuple)))
    (l_is_tuple : K.lookup f_is_tuple = some ⟨oc_is_tuple, od_is_tuple, .func (PySem.W.fnOf "is_tuple" "is_tuple" (defArgs s_is_tuple) (defBody s_is_tuple) (defScope s_is_tuple) .none kV_is_tuple dc_is_tuple pm_is_tuple an_is_tuple cd_is_tuple ct_is_tuple), sl_is_tuple⟩)
    (c_is_tuple : PySem.W.codeIn K cd_is_tuple "is_tuple" = true)
    (k_is_tuple : PySem.W.keepIn K (.ref f_is_tuple) = true)
    (a_is_text : PySem.W.nsIn K mainGlobals "is_text" = some (some (.ref f_is_text)))
    (l_is_text : K.lookup f_is_text = some ⟨oc_is_text, od_is_text, .func (PySem.W.fnOf "is_text" "is_text" (defArgs s_is_text) (defBody s_is_text) (defScope s_is_text) .none kV_is_text dc_is_text pm_is_text an_is_text cd_is_text ct_is_text), sl_is_text⟩)
    (c_is_text : PySem.W.codeIn K cd_is_text "is_text" = true)
    (k_is_text : PySem.W.keepIn K (.ref f_is_text) = true)
    (a_check_text : PySem.W.nsIn K mainGlobals "check_text" = some (some (.ref f_check_text)))
    (l_check_text : K.lookup f_check_text = some ⟨oc_check_text, od_check_text, .func (PySem.W.fnOf "check_text" "check_text" (defArgs s_check_text) (defBody s_check_text) (defScope s_check_text) .none kV_check_text dc_check_text pm_check_text an_check_text cd_check_text ct_check_text), sl_check_text⟩)
    (c_check_text : PySem.W.codeIn K cd_check_text "check_text" = true)
    (k_check_text : PySem.W.keepIn K (.ref f_check_text) = true)
    (a_check_namer : PySem.W.nsIn K mainGlobals "check_namer" = some (some (.ref f_check_namer)))
    (l_check_namer : K.lookup f_check_namer = some ⟨oc_check_namer, od_check_namer, .func (PySem.W.fnOf "check_namer" "check_namer" (defArgs s_check_namer) (defBody s_check_namer) (defScope s_check_namer) .none kV_check_namer dc_check_namer pm_check_namer an_check_namer cd_check_namer ct_check_namer), sl_check_namer⟩)
    (c_check_namer : PySem.W.codeIn K cd_check_namer "check_namer" = true)
    (k_check_namer : PySem.W.keepIn K (.ref f_check_namer) = true)
    (a_base_of : PySem.W.nsIn K mainGlobals "base_of" = some (some (.ref f_base_of)))
    (l_base_of : K.lookup f_base_of = some ⟨oc_base_of, od_base_of, .func (PySem.W.fnOf "base_of" "base_of" (defArgs s_base_of) (defBody s_base_of) (defScope s_base_of) .none kV_base_of dc_base_of pm_base_of an_base_of cd_base_of ct_base_of), sl_base_of⟩)
    (c_base_of : PySem.W.codeIn K cd_base_of "base_of" = true)
    (k_base_of : PySem.W.keepIn K (.ref f_base_of) = true)
    (a_numbered : PySem.W.nsIn K mainGlobals "numbered" = some (some (.ref f_numbered)))
    (l_numbered : K.lookup f_numbered = some ⟨oc_numbered, od_numbered, .func (PySem.W.fnOf "numbered" "numbered" (defArgs s_numbered) (defBody s_numbered) (defScope s_numbered) .none kV_numbered dc_numbered pm_numbered an_numbered cd_numbered ct_numbered), sl_numbered⟩)
    (c_numbered : PySem.W.codeIn K cd_numbered "numbered" = true)
    (k_numbered : PySem.W.keepIn K (.ref f_numbered) = true)
    (a_counted_name : PySem.W.nsIn K mainGlobals "counted_name" = some (some (.ref f_counted_name)))
    (l_counted_name : K.lookup f_counted_name = some ⟨oc_counted_name, od_counted_name, .func (PySem.W.fnOf "counted_name" "counted_name" (defArgs s_counted_name) (defBody s_counted_name) (defScope s_counted_name) .none kV_counted_name dc_counted_name pm_counted_name an_counted_name cd_counted_name ct_counted_name), sl_counted_name⟩)
    (c_counted_name : PySem.W.codeIn K cd_counted_name "counted_name" = true)
    (k_counted_name : PySem.W.keepIn K (.ref f_counted_name) = true)
    (a_free_name : PySem.W.nsIn K mainGlobals "free_name" = some (some (.ref f_free_name)))
    (l_free_name : K.lookup f_free_name = some ⟨oc_free_name, od_free_name, .func (PySem.W.fnOf "free_name" "free_name" (defArgs s_free_name) (defBody s_free_name) (defScope s_free_name) .none kV_free_name dc_free_name pm_free_name an_free_name cd_free_name ct_free_name), sl_free_name⟩)
    (c_free_name : PySem.W.codeIn K cd_free_name "free_name" = true)
    (k_free_name : PySem.W.keepIn K (.ref f_free_name) = true)
    (a_name_of_next : PySem.W.nsIn K mainGlobals "name_of_next" = some (some (.ref f_name_of_next)))
    (l_name_of_next : K.lookup f_name_of_next = some ⟨oc_name_of_next, od_name_of_next, .func (PySem.W.fnOf "name_of_next" "name_of_next" (defArgs s_name_of_next) (defBody s_name_of_next) (defScope s_name_of_next) .none kV_name_of_next dc_name_of_next pm_name_of_next an_name_of_next cd_name_of_next ct_name_of_next), sl_name_of_next⟩)
    (c_name_of_next : PySem.W.codeIn K cd_name_of_next "name_of_next" = true)
    (k_name_of_next : PySem.W.keepIn K (.ref f_name_of_next) = true)
    (a_is_deed : PySem.W.nsIn K mainGlobals "is_deed" = some (some (.ref f_is_deed)))
    (l_is_deed : K.lookup f_is_deed = some ⟨oc_is_deed, od_is_deed, .func (PySem.W.fnOf "is_deed" "is_deed" (defArgs s_is_deed) (defBody s_is_deed) (defScope s_is_deed) .none kV_is_deed dc_is_deed pm_is_deed an_is_deed cd_is_deed ct_is_deed), sl_is_deed⟩)
    (c_is_deed : PySem.W.codeIn K cd_is_deed "is_deed" = true)
    (k_is_deed : PySem.W.keepIn K (.ref f_is_deed) = true)
    (a_check_deeds : PySem.W.nsIn K mainGlobals "check_deeds" = some (some (.ref f_check_deeds)))
    (l_check_deeds : K.lookup f_check_deeds = some ⟨oc_check_deeds, od_check_deeds, .func (PySem.W.fnOf "check_deeds" "check_deeds" (defArgs s_check_deeds) (defBody s_check_deeds) (defScope s_check_deeds) .none kV_check_deeds dc_check_deeds pm_check_deeds an_check_deeds cd_check_deeds ct_check_deeds), sl_check_deeds⟩)
    (c_check_deeds : PySem.W.codeIn K cd_check_deeds "check_deeds" = true)
    (k_check_deeds : PySem.W.keepIn K (.ref f_check_deeds) = true)
    (a_within : PySem.W.nsIn K mainGlobals "within" = some (some (.ref f_within)))
    (l_within : K.lookup f_within = some ⟨oc_within, od_within, .func (PySem.W.fnOf "within" "within" (defArgs s_within) (defBody s_within) (defScope s_within) .none kV_within dc_within pm_within an_within cd_within ct_within), sl_within⟩)
    (c_within : PySem.W.codeIn K cd_within "within" = true)
    (k_within : PySem.W.keepIn K (.ref f_within) = true)
    (a_attempt : PySem.W.nsIn K mainGlobals "attempt" = some (some (.ref f_attempt)))
    (l_attempt : K.lookup f_attempt = some ⟨oc_attempt, od_attempt, .func (PySem.W.fnOf "attempt" "attempt" (defArgs s_attempt) (defBody s_attempt) (defScope s_attempt) .none kV_attempt dc_attempt pm_attempt an_attempt cd_attempt ct_attempt), sl_attempt⟩)
    (c_attempt : PySem.W.codeIn K cd_attempt "attempt" = true)
    (k_attempt : PySem.W.keepIn K (.ref f_attempt) = true)
    (a_law_source : PySem.W.nsIn K mainGlobals "_law_source" = some (some (.ref f_law_source)))
    (l_law_source : K.lookup f_law_source = some ⟨oc_law_source, od_law_source, .func (PySem.W.fnOf "_law_source" "_law_source" (defArgs s_law_source) (defBody s_law_source) (defScope s_law_source) .none kV_law_source dc_law_source pm_law_source an_law_source cd_law_source ct_law_source), sl_law_source⟩)
    (c_law_source : PySem.W.codeIn K cd_law_source "_law_source" = true)
    (k_law_source : PySem.W.keepIn K (.ref f_law_source) = true)
    (a_law_draw : PySem.W.nsIn K mainGlobals "_law_draw" = some (some (.ref f_law_draw)))
    (l_law_draw : K.lookup f_law_draw = some ⟨oc_law_draw, od_law_draw, .func (PySem.W.fnOf "_law_draw" "_law_draw" (defArgs s_law_draw) (defBody s_law_draw) (defScope s_law_draw) .none kV_law_draw dc_law_draw pm_law_draw an_law_draw cd_law_draw ct_law_draw), sl_law_draw⟩)
    (c_law_draw : PySem.W.codeIn K cd_law_draw "_law_draw" = true)
    (k_law_draw : PySem.W.keepIn K (.ref f_law_draw) = true)
    (a_law_one : PySem.W.nsIn K mainGlobals "_law_one" = some (some (.ref f_law_one)))
    (l_law_one : K.lookup f_law_one = some ⟨oc_law_one, od_law_one, .func (PySem.W.fnOf "_law_one" "_law_one" (defArgs s_law_one) (defBody s_law_one) (defScope s_law_one) .none kV_law_one dc_law_one pm_law_one an_law_one cd_law_one ct_law_one), sl_law_one⟩)
    (c_law_one : PySem.W.codeIn K cd_law_one "_law_one" = true)
    (k_law_one : PySem.W.keepIn K (.ref f_law_one) = true)
    (a_law_stem : PySem.W.nsIn K mainGlobals "_law_stem" = some (some (.ref f_law_stem)))
    (l_law_stem : K.lookup f_law_stem = some ⟨oc_law_stem, od_law_stem, .func (PySem.W.fnOf "_law_stem" "_law_stem" (defArgs s_law_stem) (defBody s_law_stem) (defScope s_law_stem) .none kV_law_stem dc_law_stem pm_law_stem an_law_stem cd_law_stem ct_law_stem), sl_law_stem⟩)
    (c_law_stem : PySem.W.codeIn K cd_law_stem "_law_stem" = true)
    (k_law_stem : PySem.W.keepIn K (.ref f_law_stem) = true)
    (a_law_word : PySem.W.nsIn K mainGlobals "_law_word" = some (some (.ref f_law_word)))
    (l_law_word : K.lookup f_law_word = some ⟨oc_law_word, od_law_word, .func (PySem.W.fnOf "_law_word" "_law_word" (defArgs s_law_word) (defBody s_law_word) (defScope s_law_word) .none kV_law_word dc_law_word pm_law_word an_law_word cd_law_word ct_law_word), sl_law_word⟩)
    (c_law_word : PySem.W.codeIn K cd_law_word "_law_word" = true)
    (k_law_word : PySem.W.keepIn K (.ref f_law_word) = true)
    (a_law_refusal : PySem.W.nsIn K mainGlobals "_law_refusal" = some (some (.ref f_law_refusal)))
    (l_law_refusal : K.lookup f_law_refusal = some ⟨oc_law_refusal, od_law_refusal, .func (PySem.W.fnOf "_law_refusal" "_law_refusal" (defArgs s_law_refusal) (defBody s_law_refusal) (defScope s_law_refusal) .none kV_law_refusal dc_law_refusal pm_law_refusal an_law_refusal cd_law_refusal ct_law_refusal), sl_law_refusal⟩)
    (c_law_refusal : PySem.W.codeIn K cd_law_refusal "_law_refusal" = true)
    (k_law_refusal : PySem.W.keepIn K (.ref f_law_refusal) = true)
    (a_law_tried : PySem.W.nsIn K mainGlobals "_law_tried" = some (some (.ref f_law_tried)))
    (l_law_tried : K.lookup f_law_tried = some ⟨oc_law_tried, od_law_tried, .func (PySem.W.fnOf "_law_tried" "_law_tried" (defArgs s_law_tried) (defBody s_law_tried) (defScope s_law_tried) .none kV_law_tried dc_law_tried pm_law_tried an_law_tried cd_law_tried ct_law_tried), sl_law_tried⟩)
    (c_law_tried : PySem.W.codeIn K cd_law_tried "_law_tried" = true)
    (k_law_tried : PySem.W.keepIn K (.ref f_law_tried) = true)
    (a_law_all_gone : PySem.W.nsIn K mainGlobals "_law_all_gone" = some (some (.ref f_law_all_gone)))
    (l_law_all_gone : K.lookup f_law_all_gone = some ⟨oc_law_all_gone, od_law_all_gone, .func (PySem.W.fnOf "_law_all_gone" "_law_all_gone" (defArgs s_law_all_gone) (defBody s_law_all_gone) (defScope s_law_all_gone) .none kV_law_all_gone dc_law_all_gone pm_law_all_gone an_law_all_gone cd_law_all_gone ct_law_all_gone), sl_law_all_gone⟩)
    (c_law_all_gone : PySem.W.codeIn K cd_law_all_gone "_law_all_gone" = true)
    (k_law_all_gone : PySem.W.keepIn K (.ref f_law_all_gone) = true)
    (a_law_gone_and_back : PySem.W.nsIn K mainGlobals "_law_gone_and_back" = some (some (.ref f_law_gone_and_back)))
    (l_law_gone_and_back : K.lookup f_law_gone_and_back = some ⟨oc_law_gone_and_back, od_law_gone_and_back, .func (PySem.W.fnOf "_law_gone_and_back" "_law_gone_and_back" (defArgs s_law_gone_and_back) (defBody s_law_gone_and_back) (defScope s_law_gone_and_back) .none kV_law_gone_and_back dc_law_gone_and_back pm_law_gone_and_back an_law_gone_and_back cd_law_gone_and_back ct_law_gone_and_back), sl_law_gone_and_back⟩)
    (c_law_gone_and_back : PySem.W.codeIn K cd_law_gone_and_back "_law_gone_and_back" = true)
    (k_law_gone_and_back : PySem.W.keepIn K (.ref f_law_gone_and_back) = true)
    (a_law_fails : PySem.W.nsIn K mainGlobals "_law_fails" = some (some (.ref f_law_fails)))
    (l_law_fails : K.lookup f_law_fails = some ⟨oc_law_fails, od_law_fails, .func (PySem.W.fnOf "_law_fails" "_law_fails" (defArgs s_law_fails) (defBody s_law_fails) (defScope s_law_fails) .none kV_law_fails dc_law_fails pm_law_fails an_law_fails cd_law_fails ct_law_fails), sl_law_fails⟩)
    (c_law_fails : PySem.W.codeIn K cd_law_fails "_law_fails" = true)
    (k_law_fails : PySem.W.keepIn K (.ref f_law_fails) = true)
    (a_law_right : PySem.W.nsIn K mainGlobals "_law_right" = some (some (.ref f_law_right)))
    (l_law_right : K.lookup f_law_right = some ⟨oc_law_right, od_law_right, .func (PySem.W.fnOf "_law_right" "_law_right" (defArgs s_law_right) (defBody s_law_right) (defScope s_law_right) .none kV_law_right dc_law_right pm_law_right an_law_right cd_law_right ct_law_right), sl_law_right⟩)
    (c_law_right : PySem.W.codeIn K cd_law_right "_law_right" = true)
    (k_law_right : PySem.W.keepIn K (.ref f_law_right) = true)
    (a_law : PySem.W.nsIn K mainGlobals "law" = some (some (.ref f_law)))
    (l_law : K.lookup f_law = some ⟨oc_law, od_law, .func (PySem.W.fnOf "law" "law" (defArgs s_law) (defBody s_law) (defScope s_law) .none kV_law dc_law pm_law an_law cd_law ct_law), sl_law⟩)
    (c_law : PySem.W.codeIn K cd_law "law" = true)
    (k_law : PySem.W.keepIn K (.ref f_law) = true)
    (qn : PySem.W.specialIn K (.builtin "object.__class__") "__get__" = some (some (.builtin "getset_descriptor.__get__")))
    (qt : PySem.W.takesIn K (.builtin "object.__class__") = some true)
    (anC : PySem.W.nsIn K mainGlobals "Namer" = some (some (.ref N)))
    (a_in : PySem.W.findIn K (.ref N) "__init__" = some (some (.ref f_in)))
    (l_in : K.lookup f_in = some ⟨oc_in, od_in, .func (PySem.W.fnOf "__init__" "Namer.__init__" (defArgs s_Namer_init) (defBody s_Namer_init) (defScope s_Namer_init) .none kV_in dc_in pm_in an_in cd_in ct_in), sl_in⟩)
    (c_in : PySem.W.codeIn K cd_in "Namer.__init__" = true)
    (k_in : PySem.W.keepIn K (.ref f_in) = true)
    (i_in : PySem.W.isFn K (.ref f_in) = true)
    (pgn : PySem.W.plainGet K N Str.empty = true)
    (hdn : PySem.W.hasDictIn K N = true)
    (pon : PySem.W.plainOver K N = true)
    (san : PySem.W.findIn K (.ref N) "__setattr__" = some (some (.builtin "object.__setattr__")))
    (mknC : PySem.W.makesIn K N = true)
    (knC : PySem.W.keepIn K (.ref N) = true)
    (nn_rule : PySem.W.findIn K (.ref N) "rule" = some none)
    (nn_width : PySem.W.findIn K (.ref N) "width" = some none)
    (qan : PySem.W.findIn K (.ref N) "__class__" = some (some (.builtin "object.__class__")))
    (qmn : PySem.W.mroIn K N (.type "object") = some true)
    (ahC : PySem.W.nsIn K mainGlobals "Shelf" = some (some (.ref C)))
    (a_ih : PySem.W.findIn K (.ref C) "__init__" = some (some (.ref f_ih)))
    (l_ih : K.lookup f_ih = some ⟨oc_ih, od_ih, .func (PySem.W.fnOf "__init__" "Shelf.__init__" (defArgs s_Shelf_init) (defBody s_Shelf_init) (defScope s_Shelf_init) .none kV_ih dc_ih pm_ih an_ih cd_ih ct_ih), sl_ih⟩)
    (c_ih : PySem.W.codeIn K cd_ih "Shelf.__init__" = true)
    (k_ih : PySem.W.keepIn K (.ref f_ih) = true)
    (i_ih : PySem.W.isFn K (.ref f_ih) = true)
    (pgh : PySem.W.plainGet K C Str.empty = true)
    (hdh : PySem.W.hasDictIn K C = true)
    (poh : PySem.W.plainOver K C = true)
    (sah : PySem.W.findIn K (.ref C) "__setattr__" = some (some (.builtin "object.__setattr__")))
    (mkhC : PySem.W.makesIn K C = true)
    (khC : PySem.W.keepIn K (.ref C) = true)
    (nh_namer : PySem.W.findIn K (.ref C) "namer" = some none)
    (nh_busy : PySem.W.findIn K (.ref C) "busy" = some none)
    (nh_texts : PySem.W.findIn K (.ref C) "texts" = some none)
    (nh_names : PySem.W.findIn K (.ref C) "names" = some none)
    (nh_past : PySem.W.findIn K (.ref C) "past" = some none)
    (qah : PySem.W.findIn K (.ref C) "__class__" = some (some (.builtin "object.__class__")))
    (qmh : PySem.W.mroIn K C (.type "object") = some true)
    (a_hm_become : PySem.W.findIn K (.ref C) "become" = some (some (.ref f_hm_become)))
    (l_hm_become : K.lookup f_hm_become = some ⟨oc_hm_become, od_hm_become, .func (PySem.W.fnOf "become" "Shelf.become" (defArgs s_Shelf_become) (defBody s_Shelf_become) (defScope s_Shelf_become) .none kV_hm_become dc_hm_become pm_hm_become an_hm_become cd_hm_become ct_hm_become), sl_hm_become⟩)
    (c_hm_become : PySem.W.codeIn K cd_hm_become "Shelf.become" = true)
    (k_hm_become : PySem.W.keepIn K (.ref f_hm_become) = true)
    (i_hm_become : PySem.W.isFn K (.ref f_hm_become) = true)
    (a_hm_let_come : PySem.W.findIn K (.ref C) "let_come" = some (some (.ref f_hm_let_come)))
    (l_hm_let_come : K.lookup f_hm_let_come = some ⟨oc_hm_let_come, od_hm_let_come, .func (PySem.W.fnOf "let_come" "Shelf.let_come" (defArgs s_Shelf_let_come) (defBody s_Shelf_let_come) (defScope s_Shelf_let_come) .none kV_hm_let_come dc_hm_let_come pm_hm_let_come an_hm_let_come cd_hm_let_come ct_hm_let_come), sl_hm_let_come⟩)
    (c_hm_let_come : PySem.W.codeIn K cd_hm_let_come "Shelf.let_come" = true)
    (k_hm_let_come : PySem.W.keepIn K (.ref f_hm_let_come) = true)
    (i_hm_let_come : PySem.W.isFn K (.ref f_hm_let_come) = true)
    (a_hm_let_go : PySem.W.findIn K (.ref C) "let_go" = some (some (.ref f_hm_let_go)))
    (l_hm_let_go : K.lookup f_hm_let_go = some ⟨oc_hm_let_go, od_hm_let_go, .func (PySem.W.fnOf "let_go" "Shelf.let_go" (defArgs s_Shelf_let_go) (defBody s_Shelf_let_go) (defScope s_Shelf_let_go) .none kV_hm_let_go dc_hm_let_go pm_hm_let_go an_hm_let_go cd_hm_let_go ct_hm_let_go), sl_hm_let_go⟩)
    (c_hm_let_go : PySem.W.codeIn K cd_hm_let_go "Shelf.let_go" = true)
    (k_hm_let_go : PySem.W.keepIn K (.ref f_hm_let_go) = true)
    (i_hm_let_go : PySem.W.isFn K (.ref f_hm_let_go) = true)
    (a_hm_check_not_busy : PySem.W.findIn K (.ref C) "check_not_busy" = some (some (.ref f_hm_check_not_busy)))
    (l_hm_check_not_busy : K.lookup f_hm_check_not_busy = some ⟨oc_hm_check_not_busy, od_hm_check_not_busy, .func (PySem.W.fnOf "check_not_busy" "Shelf.check_not_busy" (defArgs s_Shelf_check_not_busy) (defBody s_Shelf_check_not_busy) (defScope s_Shelf_check_not_busy) .none kV_hm_check_not_busy dc_hm_check_not_busy pm_hm_check_not_busy an_hm_check_not_busy cd_hm_check_not_busy ct_hm_check_not_busy), sl_hm_check_not_busy⟩)
    (c_hm_check_not_busy : PySem.W.codeIn K cd_hm_check_not_busy "Shelf.check_not_busy" = true)
    (k_hm_check_not_busy : PySem.W.keepIn K (.ref f_hm_check_not_busy) = true)
    (i_hm_check_not_busy : PySem.W.isFn K (.ref f_hm_check_not_busy) = true)
    (a_hm_add : PySem.W.findIn K (.ref C) "add" = some (some (.ref f_hm_add)))
    (l_hm_add : K.lookup f_hm_add = some ⟨oc_hm_add, od_hm_add, .func (PySem.W.fnOf "add" "Shelf.add" (defArgs s_Shelf_add) (defBody s_Shelf_add) (defScope s_Shelf_add) .none kV_hm_add dc_hm_add pm_hm_add an_hm_add cd_hm_add ct_hm_add), sl_hm_add⟩)
    (c_hm_add : PySem.W.codeIn K cd_hm_add "Shelf.add" = true)
    (k_hm_add : PySem.W.keepIn K (.ref f_hm_add) = true)
    (i_hm_add : PySem.W.isFn K (.ref f_hm_add) = true)
    (a_hm_remove : PySem.W.findIn K (.ref C) "remove" = some (some (.ref f_hm_remove)))
    (l_hm_remove : K.lookup f_hm_remove = some ⟨oc_hm_remove, od_hm_remove, .func (PySem.W.fnOf "remove" "Shelf.remove" (defArgs s_Shelf_remove) (defBody s_Shelf_remove) (defScope s_Shelf_remove) .none kV_hm_remove dc_hm_remove pm_hm_remove an_hm_remove cd_hm_remove ct_hm_remove), sl_hm_remove⟩)
    (c_hm_remove : PySem.W.codeIn K cd_hm_remove "Shelf.remove" = true)
    (k_hm_remove : PySem.W.keepIn K (.ref f_hm_remove) = true)
    (i_hm_remove : PySem.W.isFn K (.ref f_hm_remove) = true)
    (a_hm_undo : PySem.W.findIn K (.ref C) "undo" = some (some (.ref f_hm_undo)))
    (l_hm_undo : K.lookup f_hm_undo = some ⟨oc_hm_undo, od_hm_undo, .func (PySem.W.fnOf "undo" "Shelf.undo" (defArgs s_Shelf_undo) (defBody s_Shelf_undo) (defScope s_Shelf_undo) .none kV_hm_undo dc_hm_undo pm_hm_undo an_hm_undo cd_hm_undo ct_hm_undo), sl_hm_undo⟩)
    (c_hm_undo : PySem.W.codeIn K cd_hm_undo "Shelf.undo" = true)
    (k_hm_undo : PySem.W.keepIn K (.ref f_hm_undo) = true)
    (i_hm_undo : PySem.W.isFn K (.ref f_hm_undo) = true)
    (a_hm_do_deed : PySem.W.findIn K (.ref C) "do_deed" = some (some (.ref f_hm_do_deed)))
    (l_hm_do_deed : K.lookup f_hm_do_deed = some ⟨oc_hm_do_deed, od_hm_do_deed, .func (PySem.W.fnOf "do_deed" "Shelf.do_deed" (defArgs s_Shelf_do_deed) (defBody s_Shelf_do_deed) (defScope s_Shelf_do_deed) .none kV_hm_do_deed dc_hm_do_deed pm_hm_do_deed an_hm_do_deed cd_hm_do_deed ct_hm_do_deed), sl_hm_do_deed⟩)
    (c_hm_do_deed : PySem.W.codeIn K cd_hm_do_deed "Shelf.do_deed" = true)
    (k_hm_do_deed : PySem.W.keepIn K (.ref f_hm_do_deed) = true)
    (i_hm_do_deed : PySem.W.isFn K (.ref f_hm_do_deed) = true)
    (a_hm_trial : PySem.W.findIn K (.ref C) "trial" = some (some (.ref f_hm_trial)))
    (l_hm_trial : K.lookup f_hm_trial = some ⟨oc_hm_trial, od_hm_trial, .func (PySem.W.fnOf "trial" "Shelf.trial" (defArgs s_Shelf_trial) (defBody s_Shelf_trial) (defScope s_Shelf_trial) .none kV_hm_trial dc_hm_trial pm_hm_trial an_hm_trial cd_hm_trial ct_hm_trial), sl_hm_trial⟩)
    (c_hm_trial : PySem.W.codeIn K cd_hm_trial "Shelf.trial" = true)
    (k_hm_trial : PySem.W.keepIn K (.ref f_hm_trial) = true)
    (i_hm_trial : PySem.W.isFn K (.ref f_hm_trial) = true)
    (a_hlen : PySem.W.findIn K (.ref C) "__len__" = some (some (.ref f_hlen)))
    (l_hlen : K.lookup f_hlen = some ⟨oc_hlen, od_hlen, .func (PySem.W.fnOf "__len__" "Shelf.__len__" (defArgs s_Shelf_len) (defBody s_Shelf_len) (defScope s_Shelf_len) .none kV_hlen dc_hlen pm_hlen an_hlen cd_hlen ct_hlen), sl_hlen⟩)
    (c_hlen : PySem.W.codeIn K cd_hlen "Shelf.__len__" = true)
    (k_hlen : PySem.W.keepIn K (.ref f_hlen) = true)
    (i_hlen : PySem.W.isFn K (.ref f_hlen) = true)
    (a_hall : PySem.W.findIn K (.ref C) "do_all" = some (some (.ref f_hall)))
    (l_hall : K.lookup f_hall = some ⟨oc_hall, od_hall, .func (PySem.W.fnOf "do_all" "Shelf.do_all" (defArgs s_Shelf_do_all) (defBody s_Shelf_do_all) (defScope s_Shelf_do_all) .none (.ref kD_hall) dc_hall pm_hall an_hall cd_hall ct_hall), sl_hall⟩)
    (c_hall : PySem.W.codeIn K cd_hall "Shelf.do_all" = true)
    (k_hall : PySem.W.keepIn K (.ref f_hall) = true)
    (i_hall : PySem.W.isFn K (.ref f_hall) = true)
    (w_hall : PySem.W.nsIn K kD_hall "watch" = some (some .none))
    (atC : PySem.W.nsIn K mainGlobals "Trial" = some (some (.ref Ct)))
    (a_it : PySem.W.findIn K (.ref Ct) "__init__" = some (some (.ref f_it)))
    (l_it : K.lookup f_it = some ⟨oc_it, od_it, .func (PySem.W.fnOf "__init__" "Trial.__init__" (defArgs s_Trial_init) (defBody s_Trial_init) (defScope s_Trial_init) .none kV_it dc_it pm_it an_it cd_it ct_it), sl_it⟩)
    (c_it : PySem.W.codeIn K cd_it "Trial.__init__" = true)
    (k_it : PySem.W.keepIn K (.ref f_it) = true)
    (i_it : PySem.W.isFn K (.ref f_it) = true)
    (pgt : PySem.W.plainGet K Ct Str.empty = true)
    (hdt : PySem.W.hasDictIn K Ct = true)
    (pot : PySem.W.plainOver K Ct = true)
    (sat : PySem.W.findIn K (.ref Ct) "__setattr__" = some (some (.builtin "object.__setattr__")))
    (mktC : PySem.W.makesIn K Ct = true)
    (ktC : PySem.W.keepIn K (.ref Ct) = true)
    (nt_shelf : PySem.W.findIn K (.ref Ct) "shelf" = some none)
    (nt_entry : PySem.W.findIn K (.ref Ct) "entry" = some none)
    (a_tm___enter__ : PySem.W.findIn K (.ref Ct) "__enter__" = some (some (.ref f_tm___enter__)))
    (l_tm___enter__ : K.lookup f_tm___enter__ = some ⟨oc_tm___enter__, od_tm___enter__, .func (PySem.W.fnOf "__enter__" "Trial.__enter__" (defArgs s_Trial_enter) (defBody s_Trial_enter) (defScope s_Trial_enter) .none kV_tm___enter__ dc_tm___enter__ pm_tm___enter__ an_tm___enter__ cd_tm___enter__ ct_tm___enter__), sl_tm___enter__⟩)
    (c_tm___enter__ : PySem.W.codeIn K cd_tm___enter__ "Trial.__enter__" = true)
    (k_tm___enter__ : PySem.W.keepIn K (.ref f_tm___enter__) = true)
    (i_tm___enter__ : PySem.W.isFn K (.ref f_tm___enter__) = true)
    (a_tm___exit__ : PySem.W.findIn K (.ref Ct) "__exit__" = some (some (.ref f_tm___exit__)))
    (l_tm___exit__ : K.lookup f_tm___exit__ = some ⟨oc_tm___exit__, od_tm___exit__, .func (PySem.W.fnOf "__exit__" "Trial.__exit__" (defArgs s_Trial_exit) (defBody s_Trial_exit) (defScope s_Trial_exit) .none kV_tm___exit__ dc_tm___exit__ pm_tm___exit__ an_tm___exit__ cd_tm___exit__ ct_tm___exit__), sl_tm___exit__⟩)
    (c_tm___exit__ : PySem.W.codeIn K cd_tm___exit__ "Trial.__exit__" = true)
    (k_tm___exit__ : PySem.W.keepIn K (.ref f_tm___exit__) = true)
    (i_tm___exit__ : PySem.W.isFn K (.ref f_tm___exit__) = true)
    (aeC : PySem.W.nsIn K mainGlobals "Entry" = some (some (.ref Ce)))
    (a_ie : PySem.W.findIn K (.ref Ce) "__init__" = some (some (.ref f_ie)))
    (l_ie : K.lookup f_ie = some ⟨oc_ie, od_ie, .func (PySem.W.fnOf "__init__" "Entry.__init__" (defArgs s_Entry_init) (defBody s_Entry_init) (defScope s_Entry_init) .none kV_ie dc_ie pm_ie an_ie cd_ie ct_ie), sl_ie⟩)
    (c_ie : PySem.W.codeIn K cd_ie "Entry.__init__" = true)
    (k_ie : PySem.W.keepIn K (.ref f_ie) = true)
    (i_ie : PySem.W.isFn K (.ref f_ie) = true)
    (pge : PySem.W.plainGet K Ce Str.empty = true)
    (hde : PySem.W.hasDictIn K Ce = true)
    (poe : PySem.W.plainOver K Ce = true)
    (sae : PySem.W.findIn K (.ref Ce) "__setattr__" = some (some (.builtin "object.__setattr__")))
    (mkeC : PySem.W.makesIn K Ce = true)
    (keC : PySem.W.keepIn K (.ref Ce) = true)
    (ne_texts : PySem.W.findIn K (.ref Ce) "texts" = some none)
    (ne_names : PySem.W.findIn K (.ref Ce) "names" = some none)
    (ne_past : PySem.W.findIn K (.ref Ce) "past" = some none)
    (ne_outer : PySem.W.findIn K (.ref Ce) "outer" = some none)
    (ea_InputError : PySem.W.nsIn K mainGlobals "InputError" = some (some (.ref U_InputError)))
    (ex_InputError : K.lookup U_InputError = some (excClassObj "InputError" q_InputError U_InputError M_InputError bs_InputError [.type "ValueError", .type "Exception", .type "BaseException", .type "object"] true sn_InputError sub_InputError ab_InputError col_InputError dd_InputError m0_InputError m1_InputError m2_InputError m3_InputError m5_InputError "ValueError.__new__"))
    (et_InputError : PySem.W.typeIn K (.ref U_InputError) = some (.type "type"))
    (ea_SizeError : PySem.W.nsIn K mainGlobals "SizeError" = some (some (.ref U_SizeError)))
    (ex_SizeError : K.lookup U_SizeError = some (excClassObj "SizeError" q_SizeError U_SizeError M_SizeError bs_SizeError [.type "ArithmeticError", .type "Exception", .type "BaseException", .type "object"] true sn_SizeError sub_SizeError ab_SizeError col_SizeError dd_SizeError m0_SizeError m1_SizeError m2_SizeError m3_SizeError m5_SizeError "ArithmeticError.__new__"))
    (et_SizeError : PySem.W.typeIn K (.ref U_SizeError) = some (.type "type"))
    (ea_StateError : PySem.W.nsIn K mainGlobals "StateError" = some (some (.ref U_StateError)))
    (ex_StateError : K.lookup U_StateError = some (excClassObj "StateError" q_StateError U_StateError M_StateError bs_StateError [.type "LookupError", .type "Exception", .type "BaseException", .type "object"] true sn_StateError sub_StateError ab_StateError col_StateError dd_StateError m0_StateError m1_StateError m2_StateError m3_StateError m5_StateError "LookupError.__new__"))
    (et_StateError : PySem.W.typeIn K (.ref U_StateError) = some (.type "type"))
    (ea_InvalidNumber : PySem.W.nsIn K mainGlobals "InvalidNumber" = some (some (.ref E_InvalidNumber)))
    (ex_InvalidNumber : K.lookup E_InvalidNumber = some (excClassObj "InvalidNumber" q_InvalidNumber E_InvalidNumber M_InvalidNumber bs_InvalidNumber (.ref U_InputError :: [.type "ValueError", .type "Exception", .type "BaseException", .type "object"]) true sn_InvalidNumber sub_InvalidNumber ab_InvalidNumber col_InvalidNumber dd_InvalidNumber m0_InvalidNumber m1_InvalidNumber m2_InvalidNumber m3_InvalidNumber m5_InvalidNumber "ValueError.__new__"))
    (et_InvalidNumber : PySem.W.typeIn K (.ref E_InvalidNumber) = some (.type "type"))
    (eset_InvalidNumber : PySem.W.findIn K (.ref E_InvalidNumber) "__setattr__" = some (some (.builtin "object.__setattr__")))
    (eget_InvalidNumber : PySem.W.findIn K (.ref E_InvalidNumber) "__getattribute__" = some (some (.builtin "BaseException.__getattribute__")))
    (ecla_InvalidNumber : PySem.W.findIn K (.ref E_InvalidNumber) "__class__" = some (some (.builtin "object.__class__")))
    (egg_InvalidNumber : PySem.W.findIn K (.ref E_InvalidNumber) "__getattr__" = some none)
    (ek_InvalidNumber : PySem.W.keepIn K (.ref E_InvalidNumber) = true)
    (en_InvalidNumber : PySem.W.findIn K (.ref E_InvalidNumber) "value" = some none)
    (a_xInvalidNumber : PySem.W.findIn K (.ref E_InvalidNumber) "__init__" = some (some (.ref f_xInvalidNumber)))
    (l_xInvalidNumber : K.lookup f_xInvalidNumber = some ⟨oc_xInvalidNumber, od_xInvalidNumber, .func (PySem.W.fnOf "__init__" "InvalidNumber.__init__" (defArgs s_InvalidNumber_init) (defBody s_InvalidNumber_init) (defScope s_InvalidNumber_init) .none kV_xInvalidNumber dc_xInvalidNumber pm_xInvalidNumber an_xInvalidNumber cd_xInvalidNumber ct_xInvalidNumber), sl_xInvalidNumber⟩)
    (c_xInvalidNumber : PySem.W.codeIn K cd_xInvalidNumber "InvalidNumber.__init__" = true)
    (k_xInvalidNumber : PySem.W.keepIn K (.ref f_xInvalidNumber) = true)
    (ei_InvalidNumber : PySem.W.typeIn K (.ref f_xInvalidNumber) = some (.type "function"))
    (ea_InvalidMark : PySem.W.nsIn K mainGlobals "InvalidMark" = some (some (.ref E_InvalidMark)))
    (ex_InvalidMark : K.lookup E_InvalidMark = some (excClassObj "InvalidMark" q_InvalidMark E_InvalidMark M_InvalidMark bs_InvalidMark (.ref U_InputError :: [.type "ValueError", .type "Exception", .type "BaseException", .type "object"]) true sn_InvalidMark sub_InvalidMark ab_InvalidMark col_InvalidMark dd_InvalidMark m0_InvalidMark m1_InvalidMark m2_InvalidMark m3_InvalidMark m5_InvalidMark "ValueError.__new__"))
    (et_InvalidMark : PySem.W.typeIn K (.ref E_InvalidMark) = some (.type "type"))
    (eset_InvalidMark : PySem.W.findIn K (.ref E_InvalidMark) "__setattr__" = some (some (.builtin "object.__setattr__")))
    (eget_InvalidMark : PySem.W.findIn K (.ref E_InvalidMark) "__getattribute__" = some (some (.builtin "BaseException.__getattribute__")))
    (ecla_InvalidMark : PySem.W.findIn K (.ref E_InvalidMark) "__class__" = some (some (.builtin "object.__class__")))
    (egg_InvalidMark : PySem.W.findIn K (.ref E_InvalidMark) "__getattr__" = some none)
    (ek_InvalidMark : PySem.W.keepIn K (.ref E_InvalidMark) = true)
    (en_InvalidMark : PySem.W.findIn K (.ref E_InvalidMark) "value" = some none)
    (a_xInvalidMark : PySem.W.findIn K (.ref E_InvalidMark) "__init__" = some (some (.ref f_xInvalidMark)))
    (l_xInvalidMark : K.lookup f_xInvalidMark = some ⟨oc_xInvalidMark, od_xInvalidMark, .func (PySem.W.fnOf "__init__" "InvalidMark.__init__" (defArgs s_InvalidMark_init) (defBody s_InvalidMark_init) (defScope s_InvalidMark_init) .none kV_xInvalidMark dc_xInvalidMark pm_xInvalidMark an_xInvalidMark cd_xInvalidMark ct_xInvalidMark), sl_xInvalidMark⟩)
    (c_xInvalidMark : PySem.W.codeIn K cd_xInvalidMark "InvalidMark.__init__" = true)
    (k_xInvalidMark : PySem.W.keepIn K (.ref f_xInvalidMark) = true)
    (ei_InvalidMark : PySem.W.typeIn K (.ref f_xInvalidMark) = some (.type "function"))
    (ea_InvalidText : PySem.W.nsIn K mainGlobals "InvalidText" = some (some (.ref E_InvalidText)))
    (ex_InvalidText : K.lookup E_InvalidText = some (excClassObj "InvalidText" q_InvalidText E_InvalidText M_InvalidText bs_InvalidText (.ref U_InputError :: [.type "ValueError", .type "Exception", .type "BaseException", .type "object"]) true sn_InvalidText sub_InvalidText ab_InvalidText col_InvalidText dd_InvalidText m0_InvalidText m1_InvalidText m2_InvalidText m3_InvalidText m5_InvalidText "ValueError.__new__"))
    (et_InvalidText : PySem.W.typeIn K (.ref E_InvalidText) = some (.type "type"))
    (eset_InvalidText : PySem.W.findIn K (.ref E_InvalidText) "__setattr__" = some (some (.builtin "object.__setattr__")))
    (eget_InvalidText : PySem.W.findIn K (.ref E_InvalidText) "__getattribute__" = some (some (.builtin "BaseException.__getattribute__")))
    (ecla_InvalidText : PySem.W.findIn K (.ref E_InvalidText) "__class__" = some (some (.builtin "object.__class__")))
    (egg_InvalidText : PySem.W.findIn K (.ref E_InvalidText) "__getattr__" = some none)
    (ek_InvalidText : PySem.W.keepIn K (.ref E_InvalidText) = true)
    (en_InvalidText : PySem.W.findIn K (.ref E_InvalidText) "value" = some none)
    (a_xInvalidText : PySem.W.findIn K (.ref E_InvalidText) "__init__" = some (some (.ref f_xInvalidText)))
    (l_xInvalidText : K.lookup f_xInvalidText = some ⟨oc_xInvalidText, od_xInvalidText, .func (PySem.W.fnOf "__init__" "InvalidText.__init__" (defArgs s_InvalidText_init) (defBody s_InvalidText_init) (defScope s_InvalidText_init) .none kV_xInvalidText dc_xInvalidText pm_xInvalidText an_xInvalidText cd_xInvalidText ct_xInvalidText), sl_xInvalidText⟩)
    (c_xInvalidText : PySem.W.codeIn K cd_xInvalidText "InvalidText.__init__" = true)
    (k_xInvalidText : PySem.W.keepIn K (.ref f_xInvalidText) = true)
    (ei_InvalidText : PySem.W.typeIn K (.ref f_xInvalidText) = some (.type "function"))
    (ea_InvalidLength : PySem.W.nsIn K mainGlobals "InvalidLength" = some (some (.ref E_InvalidLength)))
    (ex_InvalidLength : K.lookup E_InvalidLength = some (excClassObj "InvalidLength" q_InvalidLength E_InvalidLength M_InvalidLength bs_InvalidLength (.ref U_InputError :: [.type "ValueError", .type "Exception", .type "BaseException", .type "object"]) true sn_InvalidLength sub_InvalidLength ab_InvalidLength col_InvalidLength dd_InvalidLength m0_InvalidLength m1_InvalidLength m2_InvalidLength m3_InvalidLength m5_InvalidLength "ValueError.__new__"))
    (et_InvalidLength : PySem.W.typeIn K (.ref E_InvalidLength) = some (.type "type"))
    (eset_InvalidLength : PySem.W.findIn K (.ref E_InvalidLength) "__setattr__" = some (some (.builtin "object.__setattr__")))
    (eget_InvalidLength : PySem.W.findIn K (.ref E_InvalidLength) "__getattribute__" = some (some (.builtin "BaseException.__getattribute__")))
    (ecla_InvalidLength : PySem.W.findIn K (.ref E_InvalidLength) "__class__" = some (some (.builtin "object.__class__")))
    (egg_InvalidLength : PySem.W.findIn K (.ref E_InvalidLength) "__getattr__" = some none)
    (ek_InvalidLength : PySem.W.keepIn K (.ref E_InvalidLength) = true)
    (en_InvalidLength : PySem.W.findIn K (.ref E_InvalidLength) "value" = some none)
    (a_xInvalidLength : PySem.W.findIn K (.ref E_InvalidLength) "__init__" = some (some (.ref f_xInvalidLength)))
    (l_xInvalidLength : K.lookup f_xInvalidLength = some ⟨oc_xInvalidLength, od_xInvalidLength, .func (PySem.W.fnOf "__init__" "InvalidLength.__init__" (defArgs s_InvalidLength_init) (defBody s_InvalidLength_init) (defScope s_InvalidLength_init) .none kV_xInvalidLength dc_xInvalidLength pm_xInvalidLength an_xInvalidLength cd_xInvalidLength ct_xInvalidLength), sl_xInvalidLength⟩)
    (c_xInvalidLength : PySem.W.codeIn K cd_xInvalidLength "InvalidLength.__init__" = true)
    (k_xInvalidLength : PySem.W.keepIn K (.ref f_xInvalidLength) = true)
    (ei_InvalidLength : PySem.W.typeIn K (.ref f_xInvalidLength) = some (.type "function"))
    (ea_InvalidRule : PySem.W.nsIn K mainGlobals "InvalidRule" = some (some (.ref E_InvalidRule)))
    (ex_InvalidRule : K.lookup E_InvalidRule = some (excClassObj "InvalidRule" q_InvalidRule E_InvalidRule M_InvalidRule bs_InvalidRule (.ref U_InputError :: [.type "ValueError", .type "Exception", .type "BaseException", .type "object"]) true sn_InvalidRule sub_InvalidRule ab_InvalidRule col_InvalidRule dd_InvalidRule m0_InvalidRule m1_InvalidRule m2_InvalidRule m3_InvalidRule m5_InvalidRule "ValueError.__new__"))
    (et_InvalidRule : PySem.W.typeIn K (.ref E_InvalidRule) = some (.type "type"))
    (eset_InvalidRule : PySem.W.findIn K (.ref E_InvalidRule) "__setattr__" = some (some (.builtin "object.__setattr__")))
    (eget_InvalidRule : PySem.W.findIn K (.ref E_InvalidRule) "__getattribute__" = some (some (.builtin "BaseException.__getattribute__")))
    (ecla_InvalidRule : PySem.W.findIn K (.ref E_InvalidRule) "__class__" = some (some (.builtin "object.__class__")))
    (egg_InvalidRule : PySem.W.findIn K (.ref E_InvalidRule) "__getattr__" = some none)
    (ek_InvalidRule : PySem.W.keepIn K (.ref E_InvalidRule) = true)
    (en_InvalidRule : PySem.W.findIn K (.ref E_InvalidRule) "value" = some none)
    (a_xInvalidRule : PySem.W.findIn K (.ref E_InvalidRule) "__init__" = some (some (.ref f_xInvalidRule)))
    (l_xInvalidRule : K.lookup f_xInvalidRule = some ⟨oc_xInvalidRule, od_xInvalidRule, .func (PySem.W.fnOf "__init__" "InvalidRule.__init__" (defArgs s_InvalidRule_init) (defBody s_InvalidRule_init) (defScope s_InvalidRule_init) .none kV_xInvalidRule dc_xInvalidRule pm_xInvalidRule an_xInvalidRule cd_xInvalidRule ct_xInvalidRule), sl_xInvalidRule⟩)
    (c_xInvalidRule : PySem.W.codeIn K cd_xInvalidRule "InvalidRule.__init__" = true)
    (k_xInvalidRule : PySem.W.keepIn K (.ref f_xInvalidRule) = true)
    (ei_InvalidRule : PySem.W.typeIn K (.ref f_xInvalidRule) = some (.type "function"))
    (ea_InvalidWidth : PySem.W.nsIn K mainGlobals "InvalidWidth" = some (some (.ref E_InvalidWidth)))
    (ex_InvalidWidth : K.lookup E_InvalidWidth = some (excClassObj "InvalidWidth" q_InvalidWidth E_InvalidWidth M_InvalidWidth bs_InvalidWidth (.ref U_InputError :: [.type "ValueError", .type "Exception", .type "BaseException", .type "object"]) true sn_InvalidWidth sub_InvalidWidth ab_InvalidWidth col_InvalidWidth dd_InvalidWidth m0_InvalidWidth m1_InvalidWidth m2_InvalidWidth m3_InvalidWidth m5_InvalidWidth "ValueError.__new__"))
    (et_InvalidWidth : PySem.W.typeIn K (.ref E_InvalidWidth) = some (.type "type"))
    (eset_InvalidWidth : PySem.W.findIn K (.ref E_InvalidWidth) "__setattr__" = some (some (.builtin "object.__setattr__")))
    (eget_InvalidWidth : PySem.W.findIn K (.ref E_InvalidWidth) "__getattribute__" = some (some (.builtin "BaseException.__getattribute__")))
    (ecla_InvalidWidth : PySem.W.findIn K (.ref E_InvalidWidth) "__class__" = some (some (.builtin "object.__class__")))
    (egg_InvalidWidth : PySem.W.findIn K (.ref E_InvalidWidth) "__getattr__" = some none)
    (ek_InvalidWidth : PySem.W.keepIn K (.ref E_InvalidWidth) = true)
    (en_InvalidWidth : PySem.W.findIn K (.ref E_InvalidWidth) "value" = some none)
    (a_xInvalidWidth : PySem.W.findIn K (.ref E_InvalidWidth) "__init__" = some (some (.ref f_xInvalidWidth)))
    (l_xInvalidWidth : K.lookup f_xInvalidWidth = some ⟨oc_xInvalidWidth, od_xInvalidWidth, .func (PySem.W.fnOf "__init__" "InvalidWidth.__init__" (defArgs s_InvalidWidth_init) (defBody s_InvalidWidth_init) (defScope s_InvalidWidth_init) .none kV_xInvalidWidth dc_xInvalidWidth pm_xInvalidWidth an_xInvalidWidth cd_xInvalidWidth ct_xInvalidWidth), sl_xInvalidWidth⟩)
    (c_xInvalidWidth : PySem.W.codeIn K cd_xInvalidWidth "InvalidWidth.__init__" = true)
    (k_xInvalidWidth : PySem.W.keepIn K (.ref f_xInvalidWidth) = true)
    (ei_InvalidWidth : PySem.W.typeIn K (.ref f_xInvalidWidth) = some (.type "function"))
    (ea_InvalidPlace : PySem.W.nsIn K mainGlobals "InvalidPlace" = some (some (.ref E_InvalidPlace)))
    (ex_InvalidPlace : K.lookup E_InvalidPlace = some (excClassObj "InvalidPlace" q_InvalidPlace E_InvalidPlace M_InvalidPlace bs_InvalidPlace (.ref U_InputError :: [.type "ValueError", .type "Exception", .type "BaseException", .type "object"]) true sn_InvalidPlace sub_InvalidPlace ab_InvalidPlace col_InvalidPlace dd_InvalidPlace m0_InvalidPlace m1_InvalidPlace m2_InvalidPlace m3_InvalidPlace m5_InvalidPlace "ValueError.__new__"))
    (et_InvalidPlace : PySem.W.typeIn K (.ref E_InvalidPlace) = some (.type "type"))
    (eset_InvalidPlace : PySem.W.findIn K (.ref E_InvalidPlace) "__setattr__" = some (some (.builtin "object.__setattr__")))
    (eget_InvalidPlace : PySem.W.findIn K (.ref E_InvalidPlace) "__getattribute__" = some (some (.builtin "BaseException.__getattribute__")))
    (ecla_InvalidPlace : PySem.W.findIn K (.ref E_InvalidPlace) "__class__" = some (some (.builtin "object.__class__")))
    (egg_InvalidPlace : PySem.W.findIn K (.ref E_InvalidPlace) "__getattr__" = some none)
    (ek_InvalidPlace : PySem.W.keepIn K (.ref E_InvalidPlace) = true)
    (en_InvalidPlace : PySem.W.findIn K (.ref E_InvalidPlace) "value" = some none)
    (a_xInvalidPlace : PySem.W.findIn K (.ref E_InvalidPlace) "__init__" = some (some (.ref f_xInvalidPlace)))
    (l_xInvalidPlace : K.lookup f_xInvalidPlace = some ⟨oc_xInvalidPlace, od_xInvalidPlace, .func (PySem.W.fnOf "__init__" "InvalidPlace.__init__" (defArgs s_InvalidPlace_init) (defBody s_InvalidPlace_init) (defScope s_InvalidPlace_init) .none kV_xInvalidPlace dc_xInvalidPlace pm_xInvalidPlace an_xInvalidPlace cd_xInvalidPlace ct_xInvalidPlace), sl_xInvalidPlace⟩)
    (c_xInvalidPlace : PySem.W.codeIn K cd_xInvalidPlace "InvalidPlace.__init__" = true)
    (k_xInvalidPlace : PySem.W.keepIn K (.ref f_xInvalidPlace) = true)
    (ei_InvalidPlace : PySem.W.typeIn K (.ref f_xInvalidPlace) = some (.type "function"))
    (ea_InvalidLine : PySem.W.nsIn K mainGlobals "InvalidLine" = some (some (.ref E_InvalidLine)))
    (ex_InvalidLine : K.lookup E_InvalidLine = some (excClassObj "InvalidLine" q_InvalidLine E_InvalidLine M_InvalidLine bs_InvalidLine (.ref U_InputError :: [.type "ValueError", .type "Exception", .type "BaseException", .type "object"]) true sn_InvalidLine sub_InvalidLine ab_InvalidLine col_InvalidLine dd_InvalidLine m0_InvalidLine m1_InvalidLine m2_InvalidLine m3_InvalidLine m5_InvalidLine "ValueError.__new__"))
    (et_InvalidLine : PySem.W.typeIn K (.ref E_InvalidLine) = some (.type "type"))
    (eset_InvalidLine : PySem.W.findIn K (.ref E_InvalidLine) "__setattr__" = some (some (.builtin "object.__setattr__")))
    (eget_InvalidLine : PySem.W.findIn K (.ref E_InvalidLine) "__getattribute__" = some (some (.builtin "BaseException.__getattribute__")))
    (ecla_InvalidLine : PySem.W.findIn K (.ref E_InvalidLine) "__class__" = some (some (.builtin "object.__class__")))
    (egg_InvalidLine : PySem.W.findIn K (.ref E_InvalidLine) "__getattr__" = some none)
    (ek_InvalidLine : PySem.W.keepIn K (.ref E_InvalidLine) = true)
    (en_InvalidLine : PySem.W.findIn K (.ref E_InvalidLine) "value" = some none)
    (a_xInvalidLine : PySem.W.findIn K (.ref E_InvalidLine) "__init__" = some (some (.ref f_xInvalidLine)))
    (l_xInvalidLine : K.lookup f_xInvalidLine = some ⟨oc_xInvalidLine, od_xInvalidLine, .func (PySem.W.fnOf "__init__" "InvalidLine.__init__" (defArgs s_InvalidLine_init) (defBody s_InvalidLine_init) (defScope s_InvalidLine_init) .none kV_xInvalidLine dc_xInvalidLine pm_xInvalidLine an_xInvalidLine cd_xInvalidLine ct_xInvalidLine), sl_xInvalidLine⟩)
    (c_xInvalidLine : PySem.W.codeIn K cd_xInvalidLine "InvalidLine.__init__" = true)
    (k_xInvalidLine : PySem.W.keepIn K (.ref f_xInvalidLine) = true)
    (ei_InvalidLine : PySem.W.typeIn K (.ref f_xInvalidLine) = some (.type "function"))
    (ea_NotANamer : PySem.W.nsIn K mainGlobals "NotANamer" = some (some (.ref E_NotANamer)))
    (ex_NotANamer : K.lookup E_NotANamer = some (excClassObj "NotANamer" q_NotANamer E_NotANamer M_NotANamer bs_NotANamer (.ref U_InputError :: [.type "ValueError", .type "Exception", .type "BaseException", .type "object"]) true sn_NotANamer sub_NotANamer ab_NotANamer col_NotANamer dd_NotANamer m0_NotANamer m1_NotANamer m2_NotANamer m3_NotANamer m5_NotANamer "ValueError.__new__"))
    (et_NotANamer : PySem.W.typeIn K (.ref E_NotANamer) = some (.type "type"))
    (eset_NotANamer : PySem.W.findIn K (.ref E_NotANamer) "__setattr__" = some (some (.builtin "object.__setattr__")))
    (eget_NotANamer : PySem.W.findIn K (.ref E_NotANamer) "__getattribute__" = some (some (.builtin "BaseException.__getattribute__")))
    (ecla_NotANamer : PySem.W.findIn K (.ref E_NotANamer) "__class__" = some (some (.builtin "object.__class__")))
    (egg_NotANamer : PySem.W.findIn K (.ref E_NotANamer) "__getattr__" = some none)
    (ek_NotANamer : PySem.W.keepIn K (.ref E_NotANamer) = true)
    (en_NotANamer : PySem.W.findIn K (.ref E_NotANamer) "value" = some none)
    (a_xNotANamer : PySem.W.findIn K (.ref E_NotANamer) "__init__" = some (some (.ref f_xNotANamer)))
    (l_xNotANamer : K.lookup f_xNotANamer = some ⟨oc_xNotANamer, od_xNotANamer, .func (PySem.W.fnOf "__init__" "NotANamer.__init__" (defArgs s_NotANamer_init) (defBody s_NotANamer_init) (defScope s_NotANamer_init) .none kV_xNotANamer dc_xNotANamer pm_xNotANamer an_xNotANamer cd_xNotANamer ct_xNotANamer), sl_xNotANamer⟩)
    (c_xNotANamer : PySem.W.codeIn K cd_xNotANamer "NotANamer.__init__" = true)
    (k_xNotANamer : PySem.W.keepIn K (.ref f_xNotANamer) = true)
    (ei_NotANamer : PySem.W.typeIn K (.ref f_xNotANamer) = some (.type "function"))
    (ea_NotAShelf : PySem.W.nsIn K mainGlobals "NotAShelf" = some (some (.ref E_NotAShelf)))
    (ex_NotAShelf : K.lookup E_NotAShelf = some (excClassObj "NotAShelf" q_NotAShelf E_NotAShelf M_NotAShelf bs_NotAShelf (.ref U_InputError :: [.type "ValueError", .type "Exception", .type "BaseException", .type "object"]) true sn_NotAShelf sub_NotAShelf ab_NotAShelf col_NotAShelf dd_NotAShelf m0_NotAShelf m1_NotAShelf m2_NotAShelf m3_NotAShelf m5_NotAShelf "ValueError.__new__"))
    (et_NotAShelf : PySem.W.typeIn K (.ref E_NotAShelf) = some (.type "type"))
    (eset_NotAShelf : PySem.W.findIn K (.ref E_NotAShelf) "__setattr__" = some (some (.builtin "object.__setattr__")))
    (eget_NotAShelf : PySem.W.findIn K (.ref E_NotAShelf) "__getattribute__" = some (some (.builtin "BaseException.__getattribute__")))
    (ecla_NotAShelf : PySem.W.findIn K (.ref E_NotAShelf) "__class__" = some (some (.builtin "object.__class__")))
    (egg_NotAShelf : PySem.W.findIn K (.ref E_NotAShelf) "__getattr__" = some none)
    (ek_NotAShelf : PySem.W.keepIn K (.ref E_NotAShelf) = true)
    (en_NotAShelf : PySem.W.findIn K (.ref E_NotAShelf) "value" = some none)
    (a_xNotAShelf : PySem.W.findIn K (.ref E_NotAShelf) "__init__" = some (some (.ref f_xNotAShelf)))
    (l_xNotAShelf : K.lookup f_xNotAShelf = some ⟨oc_xNotAShelf, od_xNotAShelf, .func (PySem.W.fnOf "__init__" "NotAShelf.__init__" (defArgs s_NotAShelf_init) (defBody s_NotAShelf_init) (defScope s_NotAShelf_init) .none kV_xNotAShelf dc_xNotAShelf pm_xNotAShelf an_xNotAShelf cd_xNotAShelf ct_xNotAShelf), sl_xNotAShelf⟩)
    (c_xNotAShelf : PySem.W.codeIn K cd_xNotAShelf "NotAShelf.__init__" = true)
    (k_xNotAShelf : PySem.W.keepIn K (.ref f_xNotAShelf) = true)
    (ei_NotAShelf : PySem.W.typeIn K (.ref f_xNotAShelf) = some (.type "function"))
    (ea_InvalidRow : PySem.W.nsIn K mainGlobals "InvalidRow" = some (some (.ref E_InvalidRow)))
    (ex_InvalidRow : K.lookup E_InvalidRow = some (excClassObj "InvalidRow" q_InvalidRow E_InvalidRow M_InvalidRow bs_InvalidRow (.ref U_InputError :: [.type "ValueError", .type "Exception", .type "BaseException", .type "object"]) true sn_InvalidRow sub_InvalidRow ab_InvalidRow col_InvalidRow dd_InvalidRow m0_InvalidRow m1_InvalidRow m2_InvalidRow m3_InvalidRow m5_InvalidRow "ValueError.__new__"))
    (et_InvalidRow : PySem.W.typeIn K (.ref E_InvalidRow) = some (.type "type"))
    (eset_InvalidRow : PySem.W.findIn K (.ref E_InvalidRow) "__setattr__" = some (some (.builtin "object.__setattr__")))
    (eget_InvalidRow : PySem.W.findIn K (.ref E_InvalidRow) "__getattribute__" = some (some (.builtin "BaseException.__getattribute__")))
    (ecla_InvalidRow : PySem.W.findIn K (.ref E_InvalidRow) "__class__" = some (some (.builtin "object.__class__")))
    (egg_InvalidRow : PySem.W.findIn K (.ref E_InvalidRow) "__getattr__" = some none)
    (ek_InvalidRow : PySem.W.keepIn K (.ref E_InvalidRow) = true)
    (en_InvalidRow : PySem.W.findIn K (.ref E_InvalidRow) "index" = some none)
    (a_xInvalidRow : PySem.W.findIn K (.ref E_InvalidRow) "__init__" = some (some (.ref f_xInvalidRow)))
    (l_xInvalidRow : K.lookup f_xInvalidRow = some ⟨oc_xInvalidRow, od_xInvalidRow, .func (PySem.W.fnOf "__init__" "InvalidRow.__init__" (defArgs s_InvalidRow_init) (defBody s_InvalidRow_init) (defScope s_InvalidRow_init) .none kV_xInvalidRow dc_xInvalidRow pm_xInvalidRow an_xInvalidRow cd_xInvalidRow ct_xInvalidRow), sl_xInvalidRow⟩)
    (c_xInvalidRow : PySem.W.codeIn K cd_xInvalidRow "InvalidRow.__init__" = true)
    (k_xInvalidRow : PySem.W.keepIn K (.ref f_xInvalidRow) = true)
    (ei_InvalidRow : PySem.W.typeIn K (.ref f_xInvalidRow) = some (.type "function"))
    (ea_InvalidViews : PySem.W.nsIn K mainGlobals "InvalidViews" = some (some (.ref E_InvalidViews)))
    (ex_InvalidViews : K.lookup E_InvalidViews = some (excClassObj "InvalidViews" q_InvalidViews E_InvalidViews M_InvalidViews bs_InvalidViews (.ref U_InputError :: [.type "ValueError", .type "Exception", .type "BaseException", .type "object"]) true sn_InvalidViews sub_InvalidViews ab_InvalidViews col_InvalidViews dd_InvalidViews m0_InvalidViews m1_InvalidViews m2_InvalidViews m3_InvalidViews m5_InvalidViews "ValueError.__new__"))
    (et_InvalidViews : PySem.W.typeIn K (.ref E_InvalidViews) = some (.type "type"))
    (eset_InvalidViews : PySem.W.findIn K (.ref E_InvalidViews) "__setattr__" = some (some (.builtin "object.__setattr__")))
    (eget_InvalidViews : PySem.W.findIn K (.ref E_InvalidViews) "__getattribute__" = some (some (.builtin "BaseException.__getattribute__")))
    (ecla_InvalidViews : PySem.W.findIn K (.ref E_InvalidViews) "__class__" = some (some (.builtin "object.__class__")))
    (egg_InvalidViews : PySem.W.findIn K (.ref E_InvalidViews) "__getattr__" = some none)
    (ek_InvalidViews : PySem.W.keepIn K (.ref E_InvalidViews) = true)
    (en_InvalidViews : PySem.W.findIn K (.ref E_InvalidViews) "index" = some none)
    (a_xInvalidViews : PySem.W.findIn K (.ref E_InvalidViews) "__init__" = some (some (.ref f_xInvalidViews)))
    (l_xInvalidViews : K.lookup f_xInvalidViews = some ⟨oc_xInvalidViews, od_xInvalidViews, .func (PySem.W.fnOf "__init__" "InvalidViews.__init__" (defArgs s_InvalidViews_init) (defBody s_InvalidViews_init) (defScope s_InvalidViews_init) .none kV_xInvalidViews dc_xInvalidViews pm_xInvalidViews an_xInvalidViews cd_xInvalidViews ct_xInvalidViews), sl_xInvalidViews⟩)
    (c_xInvalidViews : PySem.W.codeIn K cd_xInvalidViews "InvalidViews.__init__" = true)
    (k_xInvalidViews : PySem.W.keepIn K (.ref f_xInvalidViews) = true)
    (ei_InvalidViews : PySem.W.typeIn K (.ref f_xInvalidViews) = some (.type "function"))
    (ea_InvalidTexts : PySem.W.nsIn K mainGlobals "InvalidTexts" = some (some (.ref E_InvalidTexts)))
    (ex_InvalidTexts : K.lookup E_InvalidTexts = some (excClassObj "InvalidTexts" q_InvalidTexts E_InvalidTexts M_InvalidTexts bs_InvalidTexts (.ref U_InputError :: [.type "ValueError", .type "Exception", .type "BaseException", .type "object"]) true sn_InvalidTexts sub_InvalidTexts ab_InvalidTexts col_InvalidTexts dd_InvalidTexts m0_InvalidTexts m1_InvalidTexts m2_InvalidTexts m3_InvalidTexts m5_InvalidTexts "ValueError.__new__"))
    (et_InvalidTexts : PySem.W.typeIn K (.ref E_InvalidTexts) = some (.type "type"))
    (eset_InvalidTexts : PySem.W.findIn K (.ref E_InvalidTexts) "__setattr__" = some (some (.builtin "object.__setattr__")))
    (eget_InvalidTexts : PySem.W.findIn K (.ref E_InvalidTexts) "__getattribute__" = some (some (.builtin "BaseException.__getattribute__")))
    (ecla_InvalidTexts : PySem.W.findIn K (.ref E_InvalidTexts) "__class__" = some (some (.builtin "object.__class__")))
    (egg_InvalidTexts : PySem.W.findIn K (.ref E_InvalidTexts) "__getattr__" = some none)
    (ek_InvalidTexts : PySem.W.keepIn K (.ref E_InvalidTexts) = true)
    (en_InvalidTexts : PySem.W.findIn K (.ref E_InvalidTexts) "index" = some none)
    (a_xInvalidTexts : PySem.W.findIn K (.ref E_InvalidTexts) "__init__" = some (some (.ref f_xInvalidTexts)))
    (l_xInvalidTexts : K.lookup f_xInvalidTexts = some ⟨oc_xInvalidTexts, od_xInvalidTexts, .func (PySem.W.fnOf "__init__" "InvalidTexts.__init__" (defArgs s_InvalidTexts_init) (defBody s_InvalidTexts_init) (defScope s_InvalidTexts_init) .none kV_xInvalidTexts dc_xInvalidTexts pm_xInvalidTexts an_xInvalidTexts cd_xInvalidTexts ct_xInvalidTexts), sl_xInvalidTexts⟩)
    (c_xInvalidTexts : PySem.W.codeIn K cd_xInvalidTexts "InvalidTexts.__init__" = true)
    (k_xInvalidTexts : PySem.W.keepIn K (.ref f_xInvalidTexts) = true)
    (ei_InvalidTexts : PySem.W.typeIn K (.ref f_xInvalidTexts) = some (.type "function"))
    (ea_InvalidDeeds : PySem.W.nsIn K mainGlobals "InvalidDeeds" = some (some (.ref E_InvalidDeeds)))
    (ex_InvalidDeeds : K.lookup E_InvalidDeeds = some (excClassObj "InvalidDeeds" q_InvalidDeeds E_InvalidDeeds M_InvalidDeeds bs_InvalidDeeds (.ref U_InputError :: [.type "ValueError", .type "Exception", .type "BaseException", .type "object"]) true sn_InvalidDeeds sub_InvalidDeeds ab_InvalidDeeds col_InvalidDeeds dd_InvalidDeeds m0_InvalidDeeds m1_InvalidDeeds m2_InvalidDeeds m3_InvalidDeeds m5_InvalidDeeds "ValueError.__new__"))
    (et_InvalidDeeds : PySem.W.typeIn K (.ref E_InvalidDeeds) = some (.type "type"))
    (eset_InvalidDeeds : PySem.W.findIn K (.ref E_InvalidDeeds) "__setattr__" = some (some (.builtin "object.__setattr__")))
    (eget_InvalidDeeds : PySem.W.findIn K (.ref E_InvalidDeeds) "__getattribute__" = some (some (.builtin "BaseException.__getattribute__")))
    (ecla_InvalidDeeds : PySem.W.findIn K (.ref E_InvalidDeeds) "__class__" = some (some (.builtin "object.__class__")))
    (egg_InvalidDeeds : PySem.W.findIn K (.ref E_InvalidDeeds) "__getattr__" = some none)
    (ek_InvalidDeeds : PySem.W.keepIn K (.ref E_InvalidDeeds) = true)
    (en_InvalidDeeds : PySem.W.findIn K (.ref E_InvalidDeeds) "index" = some none)
    (a_xInvalidDeeds : PySem.W.findIn K (.ref E_InvalidDeeds) "__init__" = some (some (.ref f_xInvalidDeeds)))
    (l_xInvalidDeeds : K.lookup f_xInvalidDeeds = some ⟨oc_xInvalidDeeds, od_xInvalidDeeds, .func (PySem.W.fnOf "__init__" "InvalidDeeds.__init__" (defArgs s_InvalidDeeds_init) (defBody s_InvalidDeeds_init) (defScope s_InvalidDeeds_init) .none kV_xInvalidDeeds dc_xInvalidDeeds pm_xInvalidDeeds an_xInvalidDeeds cd_xInvalidDeeds ct_xInvalidDeeds), sl_xInvalidDeeds⟩)
    (c_xInvalidDeeds : PySem.W.codeIn K cd_xInvalidDeeds "InvalidDeeds.__init__" = true)
    (k_xInvalidDeeds : PySem.W.keepIn K (.ref f_xInvalidDeeds) = true)
    (ei_InvalidDeeds : PySem.W.typeIn K (.ref f_xInvalidDeeds) = some (.type "function"))
    (ea_NothingToUndo : PySem.W.nsIn K mainGlobals "NothingToUndo" = some (some (.ref E_NothingToUndo)))
    (ex_NothingToUndo : K.lookup E_NothingToUndo = some (excClassObj "NothingToUndo" q_NothingToUndo E_NothingToUndo M_NothingToUndo bs_NothingToUndo (.ref U_StateError :: [.type "LookupError", .type "Exception", .type "BaseException", .type "object"]) true sn_NothingToUndo sub_NothingToUndo ab_NothingToUndo col_NothingToUndo dd_NothingToUndo m0_NothingToUndo m1_NothingToUndo m2_NothingToUndo m3_NothingToUndo m5_NothingToUndo "LookupError.__new__"))
    (et_NothingToUndo : PySem.W.typeIn K (.ref E_NothingToUndo) = some (.type "type"))
    (eset_NothingToUndo : PySem.W.findIn K (.ref E_NothingToUndo) "__setattr__" = some (some (.builtin "object.__setattr__")))
    (eget_NothingToUndo : PySem.W.findIn K (.ref E_NothingToUndo) "__getattribute__" = some (some (.builtin "BaseException.__getattribute__")))
    (ecla_NothingToUndo : PySem.W.findIn K (.ref E_NothingToUndo) "__class__" = some (some (.builtin "object.__class__")))
    (egg_NothingToUndo : PySem.W.findIn K (.ref E_NothingToUndo) "__getattr__" = some none)
    (ek_NothingToUndo : PySem.W.keepIn K (.ref E_NothingToUndo) = true)
    (ea_Busy : PySem.W.nsIn K mainGlobals "Busy" = some (some (.ref E_Busy)))
    (ex_Busy : K.lookup E_Busy = some (excClassObj "Busy" q_Busy E_Busy M_Busy bs_Busy (.ref U_StateError :: [.type "LookupError", .type "Exception", .type "BaseException", .type "object"]) true sn_Busy sub_Busy ab_Busy col_Busy dd_Busy m0_Busy m1_Busy m2_Busy m3_Busy m5_Busy "LookupError.__new__"))
    (et_Busy : PySem.W.typeIn K (.ref E_Busy) = some (.type "type"))
    (eset_Busy : PySem.W.findIn K (.ref E_Busy) "__setattr__" = some (some (.builtin "object.__setattr__")))
    (eget_Busy : PySem.W.findIn K (.ref E_Busy) "__getattribute__" = some (some (.builtin "BaseException.__getattribute__")))
    (ecla_Busy : PySem.W.findIn K (.ref E_Busy) "__class__" = some (some (.builtin "object.__class__")))
    (egg_Busy : PySem.W.findIn K (.ref E_Busy) "__getattr__" = some none)
    (ek_Busy : PySem.W.keepIn K (.ref E_Busy) = true)
    (ea_UnknownName : PySem.W.nsIn K mainGlobals "UnknownName" = some (some (.ref E_UnknownName)))
    (ex_UnknownName : K.lookup E_UnknownName = some (excClassObj "UnknownName" q_UnknownName E_UnknownName M_UnknownName bs_UnknownName (.ref U_StateError :: [.type "LookupError", .type "Exception", .type "BaseException", .type "object"]) true sn_UnknownName sub_UnknownName ab_UnknownName col_UnknownName dd_UnknownName m0_UnknownName m1_UnknownName m2_UnknownName m3_UnknownName m5_UnknownName "LookupError.__new__"))
    (et_UnknownName : PySem.W.typeIn K (.ref E_UnknownName) = some (.type "type"))
    (eset_UnknownName : PySem.W.findIn K (.ref E_UnknownName) "__setattr__" = some (some (.builtin "object.__setattr__")))
    (eget_UnknownName : PySem.W.findIn K (.ref E_UnknownName) "__getattribute__" = some (some (.builtin "BaseException.__getattribute__")))
    (ecla_UnknownName : PySem.W.findIn K (.ref E_UnknownName) "__class__" = some (some (.builtin "object.__class__")))
    (egg_UnknownName : PySem.W.findIn K (.ref E_UnknownName) "__getattr__" = some none)
    (ek_UnknownName : PySem.W.keepIn K (.ref E_UnknownName) = true)
    (en_UnknownName : PySem.W.findIn K (.ref E_UnknownName) "value" = some none)
    (a_xUnknownName : PySem.W.findIn K (.ref E_UnknownName) "__init__" = some (some (.ref f_xUnknownName)))
    (l_xUnknownName : K.lookup f_xUnknownName = some ⟨oc_xUnknownName, od_xUnknownName, .func (PySem.W.fnOf "__init__" "UnknownName.__init__" (defArgs s_UnknownName_init) (defBody s_UnknownName_init) (defScope s_UnknownName_init) .none kV_xUnknownName dc_xUnknownName pm_xUnknownName an_xUnknownName cd_xUnknownName ct_xUnknownName), sl_xUnknownName⟩)
    (c_xUnknownName : PySem.W.codeIn K cd_xUnknownName "UnknownName.__init__" = true)
    (k_xUnknownName : PySem.W.keepIn K (.ref f_xUnknownName) = true)
    (ei_UnknownName : PySem.W.typeIn K (.ref f_xUnknownName) = some (.type "function"))
    (ea_TooMany : PySem.W.nsIn K mainGlobals "TooMany" = some (some (.ref E_TooMany)))
    (ex_TooMany : K.lookup E_TooMany = some (excClassObj "TooMany" q_TooMany E_TooMany M_TooMany bs_TooMany (.ref U_SizeError :: [.type "ArithmeticError", .type "Exception", .type "BaseException", .type "object"]) true sn_TooMany sub_TooMany ab_TooMany col_TooMany dd_TooMany m0_TooMany m1_TooMany m2_TooMany m3_TooMany m5_TooMany "ArithmeticError.__new__"))
    (et_TooMany : PySem.W.typeIn K (.ref E_TooMany) = some (.type "type"))
    (eset_TooMany : PySem.W.findIn K (.ref E_TooMany) "__setattr__" = some (some (.builtin "object.__setattr__")))
    (eget_TooMany : PySem.W.findIn K (.ref E_TooMany) "__getattribute__" = some (some (.builtin "BaseException.__getattribute__")))
    (ecla_TooMany : PySem.W.findIn K (.ref E_TooMany) "__class__" = some (some (.builtin "object.__class__")))
    (egg_TooMany : PySem.W.findIn K (.ref E_TooMany) "__getattr__" = some none)
    (ek_TooMany : PySem.W.keepIn K (.ref E_TooMany) = true)
    (en_TooMany : PySem.W.findIn K (.ref E_TooMany) "limit" = some none)
    (a_xTooMany : PySem.W.findIn K (.ref E_TooMany) "__init__" = some (some (.ref f_xTooMany)))
    (l_xTooMany : K.lookup f_xTooMany = some ⟨oc_xTooMany, od_xTooMany, .func (PySem.W.fnOf "__init__" "TooMany.__init__" (defArgs s_TooMany_init) (defBody s_TooMany_init) (defScope s_TooMany_init) .none kV_xTooMany dc_xTooMany pm_xTooMany an_xTooMany cd_xTooMany ct_xTooMany), sl_xTooMany⟩)
    (c_xTooMany : PySem.W.codeIn K cd_xTooMany "TooMany.__init__" = true)
    (k_xTooMany : PySem.W.keepIn K (.ref f_xTooMany) = true)
    (ei_TooMany : PySem.W.typeIn K (.ref f_xTooMany) = some (.type "function"))
    (tab_law_right : PySem.W.tabIn K "_law_right" = some (cc_law_right, PP_law_right))
    (cde_law_right : cd_law_right = .ref cc_law_right)
    (notab_law_right : K.lookup PP_law_right = none)
    (rec_law_right : (recsOf q).find? (fun e => e.name == ("_law_right" : Str)) = some rd_law_right)
    (z_ArithmeticError : PySem.W.nsIn K mainGlobals "ArithmeticError" = some none)
    (z_LookupError : PySem.W.nsIn K mainGlobals "LookupError" = some none)
    (z_ValueError : PySem.W.nsIn K mainGlobals "ValueError" = some none)
    (z_abs : PySem.W.nsIn K mainGlobals "abs" = some none)
    (z_all : PySem.W.nsIn K mainGlobals "all" = some none)
    (z_bool : PySem.W.nsIn K mainGlobals "bool" = some none)
    (z_divmod : PySem.W.nsIn K mainGlobals "divmod" = some none)
    (z_enumerate : PySem.W.nsIn K mainGlobals "enumerate" = some none)
    (z_int : PySem.W.nsIn K mainGlobals "int" = some none)
    (z_isinstance : PySem.W.nsIn K mainGlobals "isinstance" = some none)
    (z_len : PySem.W.nsIn K mainGlobals "len" = some none)
    (z_max : PySem.W.nsIn K mainGlobals "max" = some none)
    (z_min : PySem.W.nsIn K mainGlobals "min" = some none)
    (z_range : PySem.W.nsIn K mainGlobals "range" = some none)
    (z_repr : PySem.W.nsIn K mainGlobals "repr" = some none)
    (z_str : PySem.W.nsIn K mainGlobals "str" = some none)
    (z_tuple : PySem.W.nsIn K mainGlobals "tuple" = some none)
    (z_MOST_SIGNS : PySem.W.nsIn K mainGlobals "MOST_SIGNS" = some (some (.int 40 u_MOST_SIGNS)))
    (z_MOST_TEXT : PySem.W.nsIn K mainGlobals "MOST_TEXT" = some (some (.int 200 u_MOST_TEXT)))
    (z_MOST_SHELVED : PySem.W.nsIn K mainGlobals "MOST_SHELVED" = some (some (.int 20 u_MOST_SHELVED)))
    (z_SIGNS : PySem.W.nsIn K mainGlobals "SIGNS" = some (some (.str ".0123456789abcdefghijklmnopqrstuvwxyz~" u_SIGNS)))
    (z_RULES : PySem.W.nsIn K mainGlobals "RULES" = some (some (.ref T_RULES)))
    (zl_RULES : K.lookup T_RULES = some ⟨.type "tuple", td_RULES, .seq #[.str "count" e_RULES_0, .str "free" e_RULES_1, .str "tight" e_RULES_2] tn_RULES, ts_RULES⟩)
    (z_LEAST_WIDTH : PySem.W.nsIn K mainGlobals "LEAST_WIDTH" = some (some (.int 6 u_LEAST_WIDTH)))
    (z_DEED_WORDS : PySem.W.nsIn K mainGlobals "DEED_WORDS" = some (some (.ref T_DEED_WORDS)))
    (zl_DEED_WORDS : K.lookup T_DEED_WORDS = some ⟨.type "tuple", td_DEED_WORDS, .seq #[.str "add" e_DEED_WORDS_0, .str "remove" e_DEED_WORDS_1] tn_DEED_WORDS, ts_DEED_WORDS⟩) :
    ∃ (fd : FuncData) (cs : List (Addr × Addr)) (sp : Sp), (∀ p ∈ cs, PySem.W.CodeHd h p.1 p.2 ∧ h.get? p.2 = some tabNil ∧ K.lookup p.2 = none) ∧ (∀ (s : Shared) (u : Value), BindsTo s fd ⟨[u], []⟩ [("_law_script", u)]) ∧ (∀ (H : Hp) (a : Addr) (ns : List Int), ns.length ≤ 63 → (∀ p ∈ cs, H p.2 = some (.tbl #[])) → Sys H → SqL K H a (ns.map V.int) → sp [.ref a] H (fun v _ => v = .bl true) fun _ _ _ => False) ∧ ∀ base : Heap, K.In base → base.Ns mainGlobals mg → (∀ p ∈ cs, LamX.TabB base mg p.1 p.2) → FnG l.prog w K mg base 17 fa fd ["_law_script"] sp := by
  have e := hfa.symm.trans (PySem.W.mg_of X G a_law)
  cases e
  have B : Bi mg := ⟨PySem.W.mg_none_of X G z_ArithmeticError, PySem.W.mg_none_of X G z_LookupError, PySem.W.mg_none_of X G z_ValueError, PySem.W.mg_none_of X G z_abs, PySem.W.mg_none_of X G z_all, PySem.W.mg_none_of X G z_bool, PySem.W.mg_none_of X G z_divmod, PySem.W.mg_none_of X G z_enumerate, PySem.W.mg_none_of X G z_int, PySem.W.mg_none_of X G z_isinstance, PySem.W.mg_none_of X G z_len, PySem.W.mg_none_of X G z_max, PySem.W.mg_none_of X G z_min, PySem.W.mg_none_of X G z_range, PySem.W.mg_none_of X G z_repr, PySem.W.mg_none_of X G z_str, PySem.W.mg_none_of X G z_tuple, cst_mk X G ⟨_, rfl⟩ z_MOST_SIGNS, cst_mk X G ⟨_, rfl⟩ z_MOST_TEXT, cst_mk X G ⟨_, rfl⟩ z_MOST_SHELVED, cst_mk X G ⟨_, rfl⟩ z_SIGNS, cst_mk X G ⟨_, rfl⟩ z_LEAST_WIDTH⟩
  have T_DEED_WORDS : TupC K mg "DEED_WORDS" ["add", "remove"] := ⟨⟨T_DEED_WORDS, PySem.W.mg_of X G z_DEED_WORDS, fun H => .inr ⟨_, _, _, zl_DEED_WORDS, rfl, rfl, by show 2 ≤ sizeLine; decide, (.cons ⟨_, rfl⟩ (.cons ⟨_, rfl⟩ .nil))⟩⟩⟩
  have Sn : NmC K mg N := ⟨⟨pgn, hdn, pon, san⟩, nn_rule, nn_width, PySem.W.mg_of X G anC, qan, qn, qt, qmn, if_pos (beq_self_eq_true _), ⟨T_RULES, PySem.W.mg_of X G z_RULES, fun H => .inr ⟨_, _, _, zl_RULES, rfl, rfl, by show 3 ≤ sizeLine; decide, (.cons ⟨_, rfl⟩ (.cons ⟨_, rfl⟩ (.cons ⟨_, rfl⟩ .nil)))⟩⟩⟩
  have In : NInitAt K N := ⟨f_in, _, ⟨mknC, a_in, i_in, knC⟩, fun_mk l_in c_in k_in, (fun_mk l_in c_in k_in).binds fun _ _ _ _ _ _ us hl => match us, hl with | [_, _, _], _ => rfl⟩
  have Sh : ShlC K mg C := ⟨⟨pgh, hdh, poh, sah⟩, nh_namer, nh_busy, nh_texts, nh_names, nh_past, PySem.W.mg_of X G ahC⟩
  have D_Shelf_become : MethAt K C "become" "Shelf.become" s_Shelf_become ps_Shelf_become := ⟨f_hm_become, _, ⟨a_hm_become, i_hm_become, k_hm_become⟩, fun_mk l_hm_become c_hm_become k_hm_become, (fun_mk l_hm_become c_hm_become k_hm_become).binds fun _ _ _ _ _ _ us hl => match us, hl with | [_, _, _], _ => rfl⟩
  have D_Shelf_let_come : MethAt K C "let_come" "Shelf.let_come" s_Shelf_let_come ps_Shelf_let_come := ⟨f_hm_let_come, _, ⟨a_hm_let_come, i_hm_let_come, k_hm_let_come⟩, fun_mk l_hm_let_come c_hm_let_come k_hm_let_come, (fun_mk l_hm_let_come c_hm_let_come k_hm_let_come).binds fun _ _ _ _ _ _ us hl => match us, hl with | [_, _], _ => rfl⟩
  have D_Shelf_let_go : MethAt K C "let_go" "Shelf.let_go" s_Shelf_let_go ps_Shelf_let_go := ⟨f_hm_let_go, _, ⟨a_hm_let_go, i_hm_let_go, k_hm_let_go⟩, fun_mk l_hm_let_go c_hm_let_go k_hm_let_go, (fun_mk l_hm_let_go c_hm_let_go k_hm_let_go).binds fun _ _ _ _ _ _ us hl => match us, hl with | [_, _], _ => rfl⟩
  have D_Shelf_check_not_busy : MethAt K C "check_not_busy" "Shelf.check_not_busy" s_Shelf_check_not_busy ps_Shelf_check_not_busy := ⟨f_hm_check_not_busy, _, ⟨a_hm_check_not_busy, i_hm_check_not_busy, k_hm_check_not_busy⟩, fun_mk l_hm_check_not_busy c_hm_check_not_busy k_hm_check_not_busy, (fun_mk l_hm_check_not_busy c_hm_check_not_busy k_hm_check_not_busy).binds fun _ _ _ _ _ _ us hl => match us, hl with | [_], _ => rfl⟩
  have D_Shelf_add : MethAt K C "add" "Shelf.add" s_Shelf_add ps_Shelf_add := ⟨f_hm_add, _, ⟨a_hm_add, i_hm_add, k_hm_add⟩, fun_mk l_hm_add c_hm_add k_hm_add, (fun_mk l_hm_add c_hm_add k_hm_add).binds fun _ _ _ _ _ _ us hl => match us, hl with | [_, _], _ => rfl⟩
  have D_Shelf_remove : MethAt K C "remove" "Shelf.remove" s_Shelf_remove ps_Shelf_remove := ⟨f_hm_remove, _, ⟨a_hm_remove, i_hm_remove, k_hm_remove⟩, fun_mk l_hm_remove c_hm_remove k_hm_remove, (fun_mk l_hm_remove c_hm_remove k_hm_remove).binds fun _ _ _ _ _ _ us hl => match us, hl with | [_, _], _ => rfl⟩
  have D_Shelf_undo : MethAt K C "undo" "Shelf.undo" s_Shelf_undo ps_Shelf_undo := ⟨f_hm_undo, _, ⟨a_hm_undo, i_hm_undo, k_hm_undo⟩, fun_mk l_hm_undo c_hm_undo k_hm_undo, (fun_mk l_hm_undo c_hm_undo k_hm_undo).binds fun _ _ _ _ _ _ us hl => match us, hl with | [_], _ => rfl⟩
  have D_Shelf_do_deed : MethAt K C "do_deed" "Shelf.do_deed" s_Shelf_do_deed ps_Shelf_do_deed := ⟨f_hm_do_deed, _, ⟨a_hm_do_deed, i_hm_do_deed, k_hm_do_deed⟩, fun_mk l_hm_do_deed c_hm_do_deed k_hm_do_deed, (fun_mk l_hm_do_deed c_hm_do_deed k_hm_do_deed).binds fun _ _ _ _ _ _ us hl => match us, hl with | [_, _], _ => rfl⟩
  have D_Shelf_trial : MethAt K C "trial" "Shelf.trial" s_Shelf_trial ps_Shelf_trial := ⟨f_hm_trial, _, ⟨a_hm_trial, i_hm_trial, k_hm_trial⟩, fun_mk l_hm_trial c_hm_trial k_hm_trial, (fun_mk l_hm_trial c_hm_trial k_hm_trial).binds fun _ _ _ _ _ _ us hl => match us, hl with | [_], _ => rfl⟩
  have D_Shelf_len : LenFn K C := ⟨f_hlen, _, a_hlen, i_hlen, fun_mk l_hlen c_hlen k_hlen, (fun_mk l_hlen c_hlen k_hlen).binds fun _ _ _ _ _ _ us hl => match us, hl with | [_], _ => rfl⟩
  have D_Shelf_do_all : DoAllAt K C := ⟨f_hall, kD_hall, oc_hall, dc_hall, pm_hall, cd_hall, ct_hall, od_hall, an_hall, sl_hall, ⟨a_hall, i_hall, k_hall⟩, l_hall, c_hall, w_hall⟩
  have Yh : ShlI K C := ⟨fun e => .base (.ins e ⟨pgh, hdh, poh, sah⟩ qah qn qt qmh), if_pos (beq_self_eq_true _), .own _⟩
  have Ih : ShInitAt K C := ⟨f_ih, _, ⟨mkhC, a_ih, i_ih, khC⟩, fun_mk l_ih c_ih k_ih, (fun_mk l_ih c_ih k_ih).binds fun _ _ _ _ _ _ us hl => match us, hl with | [_, _], _ => rfl⟩
  have St : TriC K mg Ct := ⟨⟨pgt, hdt, pot, sat⟩, nt_shelf, nt_entry, PySem.W.mg_of X G atC⟩
  have D_Trial_enter : MethAt K Ct "__enter__" "Trial.__enter__" s_Trial_enter ps_Trial_enter := ⟨f_tm___enter__, _, ⟨a_tm___enter__, i_tm___enter__, k_tm___enter__⟩, fun_mk l_tm___enter__ c_tm___enter__ k_tm___enter__, (fun_mk l_tm___enter__ c_tm___enter__ k_tm___enter__).binds fun _ _ _ _ _ _ us hl => match us, hl with | [_], _ => rfl⟩
  have D_Trial_exit : MethAt K Ct "__exit__" "Trial.__exit__" s_Trial_exit ps_Trial_exit := ⟨f_tm___exit__, _, ⟨a_tm___exit__, i_tm___exit__, k_tm___exit__⟩, fun_mk l_tm___exit__ c_tm___exit__ k_tm___exit__, (fun_mk l_tm___exit__ c_tm___exit__ k_tm___exit__).binds fun _ _ _ _ _ _ us hl => match us, hl with | [_, _, _, _], _ => rfl⟩
  have It : TriInitAt K Ct := ⟨f_it, _, ⟨mktC, a_it, i_it, ktC⟩, fun_mk l_it c_it k_it, (fun_mk l_it c_it k_it).binds fun _ _ _ _ _ _ us hl => match us, hl with | [_, _], _ => rfl⟩
  have Se : EntC K mg Ce := ⟨⟨pge, hde, poe, sae⟩, ne_texts, ne_names, ne_past, ne_outer, PySem.W.mg_of X G aeC⟩
  have Ie : EntInitAt K Ce := ⟨f_ie, _, ⟨mkeC, a_ie, i_ie, keC⟩, fun_mk l_ie c_ie k_ie, (fun_mk l_ie c_ie k_ie).binds fun _ _ _ _ _ _ us hl => match us, hl with | [_, _, _], _ => rfl⟩
  have UK_InputError : UpK K mg bVE "InputError" U_InputError := ⟨PySem.W.mg_of X G ea_InputError, ⟨_, _, _, _, _, _, _, _, _, _, _, _, _, ex_InputError⟩, et_InputError⟩
  have UK_SizeError : UpK K mg bAE "SizeError" U_SizeError := ⟨PySem.W.mg_of X G ea_SizeError, ⟨_, _, _, _, _, _, _, _, _, _, _, _, _, ex_SizeError⟩, et_SizeError⟩
  have UK_StateError : UpK K mg bLE "StateError" U_StateError := ⟨PySem.W.mg_of X G ea_StateError, ⟨_, _, _, _, _, _, _, _, _, _, _, _, _, ex_StateError⟩, et_StateError⟩
  have EK_InvalidNumber : ErrK K mg bVE U_InputError "InvalidNumber" E_InvalidNumber := ⟨bVE_ok, PySem.W.mg_of X G ea_InvalidNumber, ⟨_, _, _, _, _, _, _, _, _, _, _, _, _, ex_InvalidNumber⟩, eset_InvalidNumber, eget_InvalidNumber, egg_InvalidNumber, ek_InvalidNumber, et_InvalidNumber, ecla_InvalidNumber, qn, qt⟩
  have EF_InvalidNumber : ErrF K "InvalidNumber" "value" E_InvalidNumber := ⟨.inl rfl, en_InvalidNumber, f_xInvalidNumber, s_InvalidNumber_init, ⟨_, _, _, _, _, _⟩, _, a_xInvalidNumber, ei_InvalidNumber, by rw [show (("InvalidNumber" : Str) ++ ".__init__" : Str) = "InvalidNumber.__init__" by decide +kernel]; exact fun_mk l_xInvalidNumber c_xInvalidNumber k_xInvalidNumber, rfl, rfl, rfl⟩
  have EK_InvalidMark : ErrK K mg bVE U_InputError "InvalidMark" E_InvalidMark := ⟨bVE_ok, PySem.W.mg_of X G ea_InvalidMark, ⟨_, _, _, _, _, _, _, _, _, _, _, _, _, ex_InvalidMark⟩, eset_InvalidMark, eget_InvalidMark, egg_InvalidMark, ek_InvalidMark, et_InvalidMark, ecla_InvalidMark, qn, qt⟩
  have EF_InvalidMark : ErrF K "InvalidMark" "value" E_InvalidMark := ⟨.inl rfl, en_InvalidMark, f_xInvalidMark, s_InvalidMark_init, ⟨_, _, _, _, _, _⟩, _, a_xInvalidMark, ei_InvalidMark, by rw [show (("InvalidMark" : Str) ++ ".__init__" : Str) = "InvalidMark.__init__" by decide +kernel]; exact fun_mk l_xInvalidMark c_xInvalidMark k_xInvalidMark, rfl, rfl, rfl⟩
  have EK_InvalidText : ErrK K mg bVE U_InputError "InvalidText" E_InvalidText := ⟨bVE_ok, PySem.W.mg_of X G ea_InvalidText, ⟨_, _, _, _, _, _, _, _, _, _, _, _, _, ex_InvalidText⟩, eset_InvalidText, eget_InvalidText, egg_InvalidText, ek_InvalidText, et_InvalidText, ecla_InvalidText, qn, qt⟩
  have EF_InvalidText : ErrF K "InvalidText" "value" E_InvalidText := ⟨.inl rfl, en_InvalidText, f_xInvalidText, s_InvalidText_init, ⟨_, _, _, _, _, _⟩, _, a_xInvalidText, ei_InvalidText, by rw [show (("InvalidText" : Str) ++ ".__init__" : Str) = "InvalidText.__init__" by decide +kernel]; exact fun_mk l_xInvalidText c_xInvalidText k_xInvalidText, rfl, rfl, rfl⟩
  have EK_InvalidLength : ErrK K mg bVE U_InputError "InvalidLength" E_InvalidLength := ⟨bVE_ok, PySem.W.mg_of X G ea_InvalidLength, ⟨_, _, _, _, _, _, _, _, _, _, _, _, _, ex_InvalidLength⟩, eset_InvalidLength, eget_InvalidLength, egg_InvalidLength, ek_InvalidLength, et_InvalidLength, ecla_InvalidLength, qn, qt⟩
  have EF_InvalidLength : ErrF K "InvalidLength" "value" E_InvalidLength := ⟨.inl rfl, en_InvalidLength, f_xInvalidLength, s_InvalidLength_init, ⟨_, _, _, _, _, _⟩, _, a_xInvalidLength, ei_InvalidLength, by rw [show (("InvalidLength" : Str) ++ ".__init__" : Str) = "InvalidLength.__init__" by decide +kernel]; exact fun_mk l_xInvalidLength c_xInvalidLength k_xInvalidLength, rfl, rfl, rfl⟩
  have EK_InvalidRule : ErrK K mg bVE U_InputError "InvalidRule" E_InvalidRule := ⟨bVE_ok, PySem.W.mg_of X G ea_InvalidRule, ⟨_, _, _, _, _, _, _, _, _, _, _, _, _, ex_InvalidRule⟩, eset_InvalidRule, eget_InvalidRule, egg_InvalidRule, ek_InvalidRule, et_InvalidRule, ecla_InvalidRule, qn, qt⟩
  have EF_InvalidRule : ErrF K "InvalidRule" "value" E_InvalidRule := ⟨.inl rfl, en_InvalidRule, f_xInvalidRule, s_InvalidRule_init, ⟨_, _, _, _, _, _⟩, _, a_xInvalidRule, ei_InvalidRule, by rw [show (("InvalidRule" : Str) ++ ".__init__" : Str) = "InvalidRule.__init__" by decide +kernel]; exact fun_mk l_xInvalidRule c_xInvalidRule k_xInvalidRule, rfl, rfl, rfl⟩
  have EK_InvalidWidth : ErrK K mg bVE U_InputError "InvalidWidth" E_InvalidWidth := ⟨bVE_ok, PySem.W.mg_of X G ea_InvalidWidth, ⟨_, _, _, _, _, _, _, _, _, _, _, _, _, ex_InvalidWidth⟩, eset_InvalidWidth, eget_InvalidWidth, egg_InvalidWidth, ek_InvalidWidth, et_InvalidWidth, ecla_InvalidWidth, qn, qt⟩
  have EF_InvalidWidth : ErrF K "InvalidWidth" "value" E_InvalidWidth := ⟨.inl rfl, en_InvalidWidth, f_xInvalidWidth, s_InvalidWidth_init, ⟨_, _, _, _, _, _⟩, _, a_xInvalidWidth, ei_InvalidWidth, by rw [show (("InvalidWidth" : Str) ++ ".__init__" : Str) = "InvalidWidth.__init__" by decide +kernel]; exact fun_mk l_xInvalidWidth c_xInvalidWidth k_xInvalidWidth, rfl, rfl, rfl⟩
  have EK_InvalidPlace : ErrK K mg bVE U_InputError "InvalidPlace" E_InvalidPlace := ⟨bVE_ok, PySem.W.mg_of X G ea_InvalidPlace, ⟨_, _, _, _, _, _, _, _, _, _, _, _, _, ex_InvalidPlace⟩, eset_InvalidPlace, eget_InvalidPlace, egg_InvalidPlace, ek_InvalidPlace, et_InvalidPlace, ecla_InvalidPlace, qn, qt⟩
  have EF_InvalidPlace : ErrF K "InvalidPlace" "value" E_InvalidPlace := ⟨.inl rfl, en_InvalidPlace, f_xInvalidPlace, s_InvalidPlace_init, ⟨_, _, _, _, _, _⟩, _, a_xInvalidPlace, ei_InvalidPlace, by rw [show (("InvalidPlace" : Str) ++ ".__init__" : Str) = "InvalidPlace.__init__" by decide +kernel]; exact fun_mk l_xInvalidPlace c_xInvalidPlace k_xInvalidPlace, rfl, rfl, rfl⟩
  have EK_InvalidLine : ErrK K mg bVE U_InputError "InvalidLine" E_InvalidLine := ⟨bVE_ok, PySem.W.mg_of X G ea_InvalidLine, ⟨_, _, _, _, _, _, _, _, _, _, _, _, _, ex_InvalidLine⟩, eset_InvalidLine, eget_InvalidLine, egg_InvalidLine, ek_InvalidLine, et_InvalidLine, ecla_InvalidLine, qn, qt⟩
  have EF_InvalidLine : ErrF K "InvalidLine" "value" E_InvalidLine := ⟨.inl rfl, en_InvalidLine, f_xInvalidLine, s_InvalidLine_init, ⟨_, _, _, _, _, _⟩, _, a_xInvalidLine, ei_InvalidLine, by rw [show (("InvalidLine" : Str) ++ ".__init__" : Str) = "InvalidLine.__init__" by decide +kernel]; exact fun_mk l_xInvalidLine c_xInvalidLine k_xInvalidLine, rfl, rfl, rfl⟩
  have EK_NotANamer : ErrK K mg bVE U_InputError "NotANamer" E_NotANamer := ⟨bVE_ok, PySem.W.mg_of X G ea_NotANamer, ⟨_, _, _, _, _, _, _, _, _, _, _, _, _, ex_NotANamer⟩, eset_NotANamer, eget_NotANamer, egg_NotANamer, ek_NotANamer, et_NotANamer, ecla_NotANamer, qn, qt⟩
  have EF_NotANamer : ErrF K "NotANamer" "value" E_NotANamer := ⟨.inl rfl, en_NotANamer, f_xNotANamer, s_NotANamer_init, ⟨_, _, _, _, _, _⟩, _, a_xNotANamer, ei_NotANamer, by rw [show (("NotANamer" : Str) ++ ".__init__" : Str) = "NotANamer.__init__" by decide +kernel]; exact fun_mk l_xNotANamer c_xNotANamer k_xNotANamer, rfl, rfl, rfl⟩
  have EK_NotAShelf : ErrK K mg bVE U_InputError "NotAShelf" E_NotAShelf := ⟨bVE_ok, PySem.W.mg_of X G ea_NotAShelf, ⟨_, _, _, _, _, _, _, _, _, _, _, _, _, ex_NotAShelf⟩, eset_NotAShelf, eget_NotAShelf, egg_NotAShelf, ek_NotAShelf, et_NotAShelf, ecla_NotAShelf, qn, qt⟩
  have EF_NotAShelf : ErrF K "NotAShelf" "value" E_NotAShelf := ⟨.inl rfl, en_NotAShelf, f_xNotAShelf, s_NotAShelf_init, ⟨_, _, _, _, _, _⟩, _, a_xNotAShelf, ei_NotAShelf, by rw [show (("NotAShelf" : Str) ++ ".__init__" : Str) = "NotAShelf.__init__" by decide +kernel]; exact fun_mk l_xNotAShelf c_xNotAShelf k_xNotAShelf, rfl, rfl, rfl⟩
  have EK_InvalidRow : ErrK K mg bVE U_InputError "InvalidRow" E_InvalidRow := ⟨bVE_ok, PySem.W.mg_of X G ea_InvalidRow, ⟨_, _, _, _, _, _, _, _, _, _, _, _, _, ex_InvalidRow⟩, eset_InvalidRow, eget_InvalidRow, egg_InvalidRow, ek_InvalidRow, et_InvalidRow, ecla_InvalidRow, qn, qt⟩
  have EF_InvalidRow : ErrF K "InvalidRow" "index" E_InvalidRow := ⟨.inr (.inl rfl), en_InvalidRow, f_xInvalidRow, s_InvalidRow_init, ⟨_, _, _, _, _, _⟩, _, a_xInvalidRow, ei_InvalidRow, by rw [show (("InvalidRow" : Str) ++ ".__init__" : Str) = "InvalidRow.__init__" by decide +kernel]; exact fun_mk l_xInvalidRow c_xInvalidRow k_xInvalidRow, rfl, rfl, rfl⟩
  have EK_InvalidViews : ErrK K mg bVE U_InputError "InvalidViews" E_InvalidViews := ⟨bVE_ok, PySem.W.mg_of X G ea_InvalidViews, ⟨_, _, _, _, _, _, _, _, _, _, _, _, _, ex_InvalidViews⟩, eset_InvalidViews, eget_InvalidViews, egg_InvalidViews, ek_InvalidViews, et_InvalidViews, ecla_InvalidViews, qn, qt⟩
  have EF_InvalidViews : ErrF K "InvalidViews" "index" E_InvalidViews := ⟨.inr (.inl rfl), en_InvalidViews, f_xInvalidViews, s_InvalidViews_init, ⟨_, _, _, _, _, _⟩, _, a_xInvalidViews, ei_InvalidViews, by rw [show (("InvalidViews" : Str) ++ ".__init__" : Str) = "InvalidViews.__init__" by decide +kernel]; exact fun_mk l_xInvalidViews c_xInvalidViews k_xInvalidViews, rfl, rfl, rfl⟩
  have EK_InvalidTexts : ErrK K mg bVE U_InputError "InvalidTexts" E_InvalidTexts := ⟨bVE_ok, PySem.W.mg_of X G ea_InvalidTexts, ⟨_, _, _, _, _, _, _, _, _, _, _, _, _, ex_InvalidTexts⟩, eset_InvalidTexts, eget_InvalidTexts, egg_InvalidTexts, ek_InvalidTexts, et_InvalidTexts, ecla_InvalidTexts, qn, qt⟩
  have EF_InvalidTexts : ErrF K "InvalidTexts" "index" E_InvalidTexts := ⟨.inr (.inl rfl), en_InvalidTexts, f_xInvalidTexts, s_InvalidTexts_init, ⟨_, _, _, _, _, _⟩, _, a_xInvalidTexts, ei_InvalidTexts, by rw [show (("InvalidTexts" : Str) ++ ".__init__" : Str) = "InvalidTexts.__init__" by decide +kernel]; exact fun_mk l_xInvalidTexts c_xInvalidTexts k_xInvalidTexts, rfl, rfl, rfl⟩
  have EK_InvalidDeeds : ErrK K mg bVE U_InputError "InvalidDeeds" E_InvalidDeeds := ⟨bVE_ok, PySem.W.mg_of X G ea_InvalidDeeds, ⟨_, _, _, _, _, _, _, _, _, _, _, _, _, ex_InvalidDeeds⟩, eset_InvalidDeeds, eget_InvalidDeeds, egg_InvalidDeeds, ek_InvalidDeeds, et_InvalidDeeds, ecla_InvalidDeeds, qn, qt⟩
  have EF_InvalidDeeds : ErrF K "InvalidDeeds" "index" E_InvalidDeeds := ⟨.inr (.inl rfl), en_InvalidDeeds, f_xInvalidDeeds, s_InvalidDeeds_init, ⟨_, _, _, _, _, _⟩, _, a_xInvalidDeeds, ei_InvalidDeeds, by rw [show (("InvalidDeeds" : Str) ++ ".__init__" : Str) = "InvalidDeeds.__init__" by decide +kernel]; exact fun_mk l_xInvalidDeeds c_xInvalidDeeds k_xInvalidDeeds, rfl, rfl, rfl⟩
  have EK_NothingToUndo : ErrK K mg bLE U_StateError "NothingToUndo" E_NothingToUndo := ⟨bLE_ok, PySem.W.mg_of X G ea_NothingToUndo, ⟨_, _, _, _, _, _, _, _, _, _, _, _, _, ex_NothingToUndo⟩, eset_NothingToUndo, eget_NothingToUndo, egg_NothingToUndo, ek_NothingToUndo, et_NothingToUndo, ecla_NothingToUndo, qn, qt⟩
  have EK_Busy : ErrK K mg bLE U_StateError "Busy" E_Busy := ⟨bLE_ok, PySem.W.mg_of X G ea_Busy, ⟨_, _, _, _, _, _, _, _, _, _, _, _, _, ex_Busy⟩, eset_Busy, eget_Busy, egg_Busy, ek_Busy, et_Busy, ecla_Busy, qn, qt⟩
  have EK_UnknownName : ErrK K mg bLE U_StateError "UnknownName" E_UnknownName := ⟨bLE_ok, PySem.W.mg_of X G ea_UnknownName, ⟨_, _, _, _, _, _, _, _, _, _, _, _, _, ex_UnknownName⟩, eset_UnknownName, eget_UnknownName, egg_UnknownName, ek_UnknownName, et_UnknownName, ecla_UnknownName, qn, qt⟩
  have EF_UnknownName : ErrF K "UnknownName" "value" E_UnknownName := ⟨.inl rfl, en_UnknownName, f_xUnknownName, s_UnknownName_init, ⟨_, _, _, _, _, _⟩, _, a_xUnknownName, ei_UnknownName, by rw [show (("UnknownName" : Str) ++ ".__init__" : Str) = "UnknownName.__init__" by decide +kernel]; exact fun_mk l_xUnknownName c_xUnknownName k_xUnknownName, rfl, rfl, rfl⟩
  have EK_TooMany : ErrK K mg bAE U_SizeError "TooMany" E_TooMany := ⟨bAE_ok, PySem.W.mg_of X G ea_TooMany, ⟨_, _, _, _, _, _, _, _, _, _, _, _, _, ex_TooMany⟩, eset_TooMany, eget_TooMany, egg_TooMany, ek_TooMany, et_TooMany, ecla_TooMany, qn, qt⟩
  have EF_TooMany : ErrF K "TooMany" "limit" E_TooMany := ⟨.inr (.inr rfl), en_TooMany, f_xTooMany, s_TooMany_init, ⟨_, _, _, _, _, _⟩, _, a_xTooMany, ei_TooMany, by rw [show (("TooMany" : Str) ++ ".__init__" : Str) = "TooMany.__init__" by decide +kernel]; exact fun_mk l_xTooMany c_xTooMany k_xTooMany, rfl, rfl, rfl⟩
  have AC_law_right : AtC K mg "_law_right" s_law_right ps_law_right cc_law_right := ⟨f_law_right, _, fun_mk l_law_right c_law_right k_law_right, (fun_mk l_law_right c_law_right k_law_right).binds (fun _ _ _ _ _ _ us hl => match us, hl with | [_], _ => rfl), PySem.W.mg_of X G a_law_right, cde_law_right⟩
  have TO_law_right := TO "_law_right" rd_law_right cc_law_right PP_law_right rec_law_right tab_law_right
  have A_is_integer : At K mg "is_integer" s_is_integer ps_is_integer := at_mk X G (fun _ _ _ _ _ _ us hl => match us, hl with | [_, _, _], _ => rfl) a_is_integer l_is_integer c_is_integer k_is_integer
  have A_is_tuple : At K mg "is_tuple" s_is_tuple ps_is_tuple := at_mk X G (fun _ _ _ _ _ _ us hl => match us, hl with | [_, _, _], _ => rfl) a_is_tuple l_is_tuple c_is_tuple k_is_tuple
  have A_is_text : At K mg "is_text" s_is_text ps_is_text := at_mk X G (fun _ _ _ _ _ _ us hl => match us, hl with | [_, _], _ => rfl) a_is_text l_is_text c_is_text k_is_text
  have A_check_text : At K mg "check_text" s_check_text ps_check_text := at_mk X G (fun _ _ _ _ _ _ us hl => match us, hl with | [_], _ => rfl) a_check_text l_check_text c_check_text k_check_text
  have A_check_namer : At K mg "check_namer" s_check_namer ps_check_namer := at_mk X G (fun _ _ _ _ _ _ us hl => match us, hl with | [_], _ => rfl) a_check_namer l_check_namer c_check_namer k_check_namer
  have A_base_of : At K mg "base_of" s_base_of ps_base_of := at_mk X G (fun _ _ _ _ _ _ us hl => match us, hl with | [_, _], _ => rfl) a_base_of l_base_of c_base_of k_base_of
  have A_numbered : At K mg "numbered" s_numbered ps_numbered := at_mk X G (fun _ _ _ _ _ _ us hl => match us, hl with | [_, _, _], _ => rfl) a_numbered l_numbered c_numbered k_numbered
  have A_counted_name : At K mg "counted_name" s_counted_name ps_counted_name := at_mk X G (fun _ _ _ _ _ _ us hl => match us, hl with | [_, _, _], _ => rfl) a_counted_name l_counted_name c_counted_name k_counted_name
  have A_free_name : At K mg "free_name" s_free_name ps_free_name := at_mk X G (fun _ _ _ _ _ _ us hl => match us, hl with | [_, _, _], _ => rfl) a_free_name l_free_name c_free_name k_free_name
  have A_name_of_next : At K mg "name_of_next" s_name_of_next ps_name_of_next := at_mk X G (fun _ _ _ _ _ _ us hl => match us, hl with | [_, _, _, _], _ => rfl) a_name_of_next l_name_of_next c_name_of_next k_name_of_next
  have A_is_deed : At K mg "is_deed" s_is_deed ps_is_deed := at_mk X G (fun _ _ _ _ _ _ us hl => match us, hl with | [_], _ => rfl) a_is_deed l_is_deed c_is_deed k_is_deed
  have A_check_deeds : At K mg "check_deeds" s_check_deeds ps_check_deeds := at_mk X G (fun _ _ _ _ _ _ us hl => match us, hl with | [_], _ => rfl) a_check_deeds l_check_deeds c_check_deeds k_check_deeds
  have A_within : At K mg "within" s_within ps_within := at_mk X G (fun _ _ _ _ _ _ us hl => match us, hl with | [_, _], _ => rfl) a_within l_within c_within k_within
  have A_attempt : At K mg "attempt" s_attempt ps_attempt := at_mk X G (fun _ _ _ _ _ _ us hl => match us, hl with | [_, _], _ => rfl) a_attempt l_attempt c_attempt k_attempt
  have A_law_source : At K mg "_law_source" s_law_source ps_law_source := at_mk X G (fun _ _ _ _ _ _ us hl => match us, hl with | [_, _], _ => rfl) a_law_source l_law_source c_law_source k_law_source
  have A_law_draw : At K mg "_law_draw" s_law_draw ps_law_draw := at_mk X G (fun _ _ _ _ _ _ us hl => match us, hl with | [_, _], _ => rfl) a_law_draw l_law_draw c_law_draw k_law_draw
  have A_law_one : At K mg "_law_one" s_law_one ps_law_one := at_mk X G (fun _ _ _ _ _ _ us hl => match us, hl with | [_, _], _ => rfl) a_law_one l_law_one c_law_one k_law_one
  have A_law_stem : At K mg "_law_stem" s_law_stem ps_law_stem := at_mk X G (fun _ _ _ _ _ _ us hl => match us, hl with | [_, _], _ => rfl) a_law_stem l_law_stem c_law_stem k_law_stem
  have A_law_word : At K mg "_law_word" s_law_word ps_law_word := at_mk X G (fun _ _ _ _ _ _ us hl => match us, hl with | [_, _], _ => rfl) a_law_word l_law_word c_law_word k_law_word
  have A_law_refusal : At K mg "_law_refusal" s_law_refusal ps_law_refusal := at_mk X G (fun _ _ _ _ _ _ us hl => match us, hl with | [_], _ => rfl) a_law_refusal l_law_refusal c_law_refusal k_law_refusal
  have A_law_tried : At K mg "_law_tried" s_law_tried ps_law_tried := at_mk X G (fun _ _ _ _ _ _ us hl => match us, hl with | [_], _ => rfl) a_law_tried l_law_tried c_law_tried k_law_tried
  have A_law_all_gone : At K mg "_law_all_gone" s_law_all_gone ps_law_all_gone := at_mk X G (fun _ _ _ _ _ _ us hl => match us, hl with | [_, _], _ => rfl) a_law_all_gone l_law_all_gone c_law_all_gone k_law_all_gone
  have A_law_gone_and_back : At K mg "_law_gone_and_back" s_law_gone_and_back ps_law_gone_and_back := at_mk X G (fun _ _ _ _ _ _ us hl => match us, hl with | [_, _], _ => rfl) a_law_gone_and_back l_law_gone_and_back c_law_gone_and_back k_law_gone_and_back
  have A_law_fails : At K mg "_law_fails" s_law_fails ps_law_fails := at_mk X G (fun _ _ _ _ _ _ us hl => match us, hl with | [_, _], _ => rfl) a_law_fails l_law_fails c_law_fails k_law_fails
  refine ⟨PySem.W.fnOf "law" "law" (defArgs s_law) (defBody s_law) (defScope s_law) .none kV_law dc_law pm_law an_law cd_law ct_law, [(cc_law_right, PP_law_right)], spLawT [(PP_law_right, lamQ_law_right)] K, fun p hp => by
      simp only [List.mem_cons, List.not_mem_nil, or_false] at hp
      subst hp
      exact ⟨TO_law_right.1, TO_law_right.2, notab_law_right⟩
, fun s v => .of_eq rfl, fun H a ns hl hT hY hS => ⟨a, ns, rfl, hS, hl, Tabs.nil (fun p hp => ?_), hY, fun _ => rfl⟩, fun base _ _ tb => ?_⟩
  · simp only [List.mem_cons, List.not_mem_nil, or_false] at hp
    subst hp
    exact (hT (cc_law_right, PP_law_right) (by simp))
  · exact fin B UK_InputError UK_SizeError UK_StateError EK_InvalidNumber EF_InvalidNumber EK_InvalidMark EF_InvalidMark EK_InvalidText EF_InvalidText EK_InvalidLength EF_InvalidLength EK_InvalidRule EF_InvalidRule EK_InvalidWidth EF_InvalidWidth EK_InvalidPlace EF_InvalidPlace EK_InvalidLine EF_InvalidLine EK_NotANamer EF_NotANamer EK_NotAShelf EF_NotAShelf EK_InvalidRow EF_InvalidRow EK_InvalidViews EF_InvalidViews EK_InvalidTexts EF_InvalidTexts EK_InvalidDeeds EF_InvalidDeeds EK_NothingToUndo EK_Busy EK_UnknownName EF_UnknownName EK_TooMany EF_TooMany AC_law_right (tb (cc_law_right, PP_law_right) (by simp)) T_DEED_WORDS Sn In Sh Ih Yh D_Shelf_become D_Shelf_let_come D_Shelf_let_go D_Shelf_check_not_busy D_Shelf_add D_Shelf_remove D_Shelf_undo D_Shelf_do_deed D_Shelf_trial D_Shelf_len D_Shelf_do_all St It D_Trial_enter D_Trial_exit Se Ie A_is_integer A_is_tuple A_is_text A_check_text A_check_namer A_base_of A_numbered A_counted_name A_free_name A_name_of_next A_is_deed A_check_deeds A_within A_attempt A_law_source A_law_draw A_law_one A_law_stem A_law_word A_law_refusal A_law_tried A_law_all_gone A_law_gone_and_back A_law_fails (fun_mk l_law c_law k_law)
end Gu
namespace Gu
open PySem PySem.W PySem.Calls PyProof.Rows
theorem join0 {A B C D E F G J I : Type} {v u : A × B × C × D × E × F × G × J × I} (a2 : c1 v = u.1) (b2 : c25 v = (u.2.1, u.2.2.1, u.2.2.2.1, u.2.2.2.2.1)) (c2 : c69 v = u.2.2.2.2.2) : v = u := by
  obtain ⟨v1, v2, v3, v4, v5, v6, v7, v8, v9⟩ := v
  obtain ⟨u1, u2, u3, u4, u5, u6, u7, u8, u9⟩ := u
  have a2 : v1 = u1 := a2
  have b2 : (v2, v3, v4, v5) = (u2, u3, u4, u5) := b2
  have c2 : (v6, v7, v8, v9) = (u6, u7, u8, u9) := c2
  cases a2
  cases b2
  cases c2
  rfl
theorem some0 {α β : Type} {o : Option α} {f : α → β} {b : β} (h : o.map f = some b) : ∃ s, o = some s ∧ f s = b := Option.map_eq_some_iff.mp h
theorem head_km {r : OpenRow} {q : Program} {M : Nat} {loose : List PySem.Str} {K : Params → Frag} {as : List Addr} {e0 : ∀ P, as = (K P).map (·.1)} {ts : List Addr} {H : Hook} (hH : H = kmHook K as e0 ts) {d : DefRec} {kwd : List (PySem.Str × PySem.Expr)}
    (runA : ∀ (w : World) (os : OsState), (HandSHeadRun.endF (HandSHeadRun.stepQ (HandSHeadRun.denQ HandSHeadRun.tabQ) r.prog w) M r.prog w os).map (fun s => (HandSHeadRun.looksF r.prog (boot_heap w.params) s.abs, c1 (HandSHeadRun.seenQ q loose (importedModules r.prog.main.body) (fun s => xlAt q [] s && recOk r.toRowW.records s) s.abs))) = some (true, (openGood q loose).1))
    (runB : ∀ (w : World) (os : OsState), (HandSHeadRun.endF (HandSHeadRun.stepQ (HandSHeadRun.denQ HandSHeadRun.tabQ) r.prog w) M r.prog w os).map (fun s => c25 (HandSHeadRun.seenQ q loose (importedModules r.prog.main.body) (fun s => xlAt q [] s && recOk r.toRowW.records s) s.abs)) = some ((openGood q loose).2.1, (openGood q loose).2.2.1, (openGood q loose).2.2.2.1, (openGood q loose).2.2.2.2.1))
    (runC : ∀ (w : World) (os : OsState), (HandSHeadRun.endF (HandSHeadRun.stepQ (HandSHeadRun.denQ HandSHeadRun.tabQ) r.prog w) M r.prog w os).map (fun s => c69 (HandSHeadRun.seenQ q loose (importedModules r.prog.main.body) (fun s => xlAt q [] s && recOk r.toRowW.records s) s.abs)) = some (openGood q loose).2.2.2.2.2)
    (run : ∀ (w : World) (os : OsState), (HandSHeadRun.endF (HandSHeadRun.stepQ (HandSHeadRun.denQ HandSHeadRun.tabQ) r.prog w) M r.prog w os).map (fun s => (as.map (HandSHeadRun.getT s), ts.map (HandSHeadRun.getT s))) = some ((kmHook K as e0 ts).val w))
    (e : opening r.prog = plainProg r.prog.main.scope.names) (f : ∀ s, fenceModules? r.prog s = some s)
    (hdef : defOf q r.name = some (d, kwd)) (hp : r.prog.theDef r.name = some (d.params, d.body, d.scope)) (hk : kwWritten? d.params.kwonlyargs d.params.kw_defaults = some kwd)
    (hwr : (!r.writes || r.records.isEmpty) = true) (k1 : r.wellSaid = true) (ok : (chainsOk q && opensWell r.prog && (frees r.toRowW && r.within.isEmpty)) = true) (hb : r.prog.bare) (hw : r.toRowW.promised)
    (call : WalkO q loose (XL q []) H.says r.toRowW d kwd fun f vs => PySem.call f vs) : r.Holds := by
  subst hH
  exact HandSHeadRun.head_any (ob := fun s => (as.map (HandSHeadRun.getT s), ts.map (HandSHeadRun.getT s))) (M := M) (fun s => by
    have g : HandSHeadRun.getT s = s.abs.heap.get? := funext fun a => HandSHeadRun.getT_eq s a
    show (as.map (HandSHeadRun.getT s), ts.map (HandSHeadRun.getT s)) = (as.map s.abs.heap.get?, ts.map s.abs.heap.get?)
    rw [g]) e f (fun w os => by
    obtain ⟨s, hs, hA⟩ := some0 (runA w os)
    obtain ⟨s2, hs2, hB⟩ := some0 (runB w os)
    obtain ⟨s3, hs3, hC⟩ := some0 (runC w os)
    obtain ⟨s4, hs4, hD⟩ := some0 (run w os)
    have e2 : s2 = s := Option.some.inj (hs2.symm.trans hs)
    have e3 : s3 = s := Option.some.inj (hs3.symm.trans hs)
    have e4 : s4 = s := Option.some.inj (hs4.symm.trans hs)
    subst e2 e3 e4
    rw [hs]
    exact congrArg some (Prod.ext (Prod.mk.inj hA).1 (Prod.ext (join0 (Prod.mk.inj hA).2 hB hC) hD))) hdef hp hk hwr k1 ok hb hw call
end Gu
set_option maxHeartbeats 0
local macro_rules | `(tactic| o_head $H) => `(tactic| refine Gu.head_km (H := $H) rfl (kwd := []) Gu.run0a Gu.run0b Gu.run0c (fun w os => by kernel_rfl) (by kernel_rfl) (fun s => by kernel_rfl) (by rfl) (by rfl) (by rfl) (by rfl) (by first | assumption | decide +kernel) (by decide +kernel) ⟨rfl, rfl, rfl, rfl, rfl, by decide +kernel⟩ ?hw ?hc)
open PySem PySem.W PyProof.Rows
set_option maxHeartbeats 0 in
theorem PySem.Challenge.cw_shownshort_k60_whole_texts_that_come_bac_holds : PySem.Challenge.rw_shownshort_k60_whole_texts_that_come_bac.Holds := by
  w_on; o_law; k_head
  · w_witness2
  k_fill
  refine Gu.walkGT (l := PySem.Challenge.rw_shownshort_k60_whole_texts_that_come_bac) (n := 63) (k := 17) (x := "_law_script") rfl (by decide) rfl ⟨rfl, by decide, by decide⟩ ?alone ?noSys (fun w h Y => PySem.W.km_in_of Y) ?F
  case alone => first | rfl | decide +kernel
  case noSys => first | (intro w; rfl) | (intro w; k_is)
  case F =>
    intro w mg fa h KX G TO hmg
    refine' Gu.all_mk KX G TO hmg ?a_is_integer ?l_is_integer ?c_is_integer ?k_is_integer ?a_is_tuple ?l_is_tuple ?c_is_tuple ?k_is_tuple ?a_is_text ?l_is_text ?c_is_text ?k_is_text ?a_check_text ?l_check_text ?c_check_text ?k_check_text ?a_check_namer ?l_check_namer ?c_check_namer ?k_check_namer ?a_base_of ?l_base_of ?c_base_of ?k_base_of ?a_numbered ?l_numbered ?c_numbered ?k_numbered ?a_counted_name ?l_counted_name ?c_counted_name ?k_counted_name ?a_free_name ?l_free_name ?c_free_name ?k_free_name ?a_name_of_next ?l_name_of_next ?c_name_of_next ?k_name_of_next ?a_is_deed ?l_is_deed ?c_is_deed ?k_is_deed ?a_check_deeds ?l_check_deeds ?c_check_deeds ?k_check_deeds ?a_within ?l_within ?c_within ?k_within ?a_attempt ?l_attempt ?c_attempt ?k_attempt ?a_law_source ?l_law_source ?c_law_source ?k_law_source ?a_law_draw ?l_law_draw ?c_law_draw ?k_law_draw ?a_law_one ?l_law_one ?c_law_one ?k_law_one ?a_law_stem ?l_law_stem ?c_law_stem ?k_law_stem ?a_law_word ?l_law_word ?c_law_word ?k_law_word ?a_law_refusal ?l_law_refusal ?c_law_refusal ?k_law_refusal ?a_law_tried ?l_law_tried ?c_law_tried ?k_law_tried ?a_law_all_gone ?l_law_all_gone ?c_law_all_gone ?k_law_all_gone ?a_law_gone_and_back ?l_law_gone_and_back ?c_law_gone_and_back ?k_law_gone_and_back ?a_law_fails ?l_law_fails ?c_law_fails ?k_law_fails ?a_law_right ?l_law_right ?c_law_right ?k_law_right ?a_law ?l_law ?c_law ?k_law ?qn ?qt ?anC ?a_in ?l_in ?c_in ?k_in ?i_in ?pgn ?hdn ?pon ?san ?mknC ?knC ?nn_rule ?nn_width ?qan ?qmn ?ahC ?a_ih ?l_ih ?c_ih ?k_ih ?i_ih ?pgh ?hdh ?poh ?sah ?mkhC ?khC ?nh_namer ?nh_busy ?nh_texts ?nh_names ?nh_past ?qah ?qmh ?a_hm_become ?l_hm_become ?c_hm_become ?k_hm_become ?i_hm_become ?a_hm_let_come ?l_hm_let_come ?c_hm_let_come ?k_hm_let_come ?i_hm_let_come ?a_hm_let_go ?l_hm_let_go ?c_hm_let_go ?k_hm_let_go ?i_hm_let_go ?a_hm_check_not_busy ?l_hm_check_not_busy ?c_hm_check_not_busy ?k_hm_check_not_busy ?i_hm_check_not_busy ?a_hm_add ?l_hm_add ?c_hm_add ?k_hm_add ?i_hm_add ?a_hm_remove ?l_hm_remove ?c_hm_remove ?k_hm_remove ?i_hm_remove ?a_hm_undo ?l_hm_undo ?c_hm_undo ?k_hm_undo ?i_hm_undo ?a_hm_do_deed ?l_hm_do_deed ?c_hm_do_deed ?k_hm_do_deed ?i_hm_do_deed ?a_hm_trial ?l_hm_trial ?c_hm_trial ?k_hm_trial ?i_hm_trial ?a_hlen ?l_hlen ?c_hlen ?k_hlen ?i_hlen ?a_hall ?l_hall ?c_hall ?k_hall ?i_hall ?w_hall ?atC ?a_it ?l_it ?c_it ?k_it ?i_it ?pgt ?hdt ?pot ?sat ?mktC ?ktC ?nt_shelf ?nt_entry ?a_tm___enter__ ?l_tm___enter__ ?c_tm___enter__ ?k_tm___enter__ ?i_tm___enter__ ?a_tm___exit__ ?l_tm___exit__ ?c_tm___exit__ ?k_tm___exit__ ?i_tm___exit__ ?aeC ?a_ie ?l_ie ?c_ie ?k_ie ?i_ie ?pge ?hde ?poe ?sae ?mkeC ?keC ?ne_texts ?ne_names ?ne_past ?ne_outer ?ea_InputError ?ex_InputError ?et_InputError ?ea_SizeError ?ex_SizeError ?et_SizeError ?ea_StateError ?ex_StateError ?et_StateError ?ea_InvalidNumber ?ex_InvalidNumber ?et_InvalidNumber ?eset_InvalidNumber ?eget_InvalidNumber ?ecla_InvalidNumber ?egg_InvalidNumber ?ek_InvalidNumber ?en_InvalidNumber ?a_xInvalidNumber ?l_xInvalidNumber ?c_xInvalidNumber ?k_xInvalidNumber ?ei_InvalidNumber ?ea_InvalidMark ?ex_InvalidMark ?et_InvalidMark ?eset_InvalidMark ?eget_InvalidMark ?ecla_InvalidMark ?egg_InvalidMark ?ek_InvalidMark ?en_InvalidMark ?a_xInvalidMark ?l_xInvalidMark ?c_xInvalidMark ?k_xInvalidMark ?ei_InvalidMark ?ea_InvalidText ?ex_InvalidText ?et_InvalidText ?eset_InvalidText ?eget_InvalidText ?ecla_InvalidText ?egg_InvalidText ?ek_InvalidText ?en_InvalidText ?a_xInvalidText ?l_xInvalidText ?c_xInvalidText ?k_xInvalidText ?ei_InvalidText ?ea_InvalidLength ?ex_InvalidLength ?et_InvalidLength ?eset_InvalidLength ?eget_InvalidLength ?ecla_InvalidLength ?egg_InvalidLength ?ek_InvalidLength ?en_InvalidLength ?a_xInvalidLength ?l_xInvalidLength ?c_xInvalidLength ?k_xInvalidLength ?ei_InvalidLength ?ea_InvalidRule ?ex_InvalidRule ?et_InvalidRule ?eset_InvalidRule ?eget_InvalidRule ?ecla_InvalidRule ?egg_InvalidRule ?ek_InvalidRule ?en_InvalidRule ?a_xInvalidRule ?l_xInvalidRule ?c_xInvalidRule ?k_xInvalidRule ?ei_InvalidRule ?ea_InvalidWidth ?ex_InvalidWidth ?et_InvalidWidth ?eset_InvalidWidth ?eget_InvalidWidth ?ecla_InvalidWidth ?egg_InvalidWidth ?ek_InvalidWidth ?en_InvalidWidth ?a_xInvalidWidth ?l_xInvalidWidth ?c_xInvalidWidth ?k_xInvalidWidth ?ei_InvalidWidth ?ea_InvalidPlace ?ex_InvalidPlace ?et_InvalidPlace ?eset_InvalidPlace ?eget_InvalidPlace ?ecla_InvalidPlace ?egg_InvalidPlace ?ek_InvalidPlace ?en_InvalidPlace ?a_xInvalidPlace ?l_xInvalidPlace ?c_xInvalidPlace ?k_xInvalidPlace ?ei_InvalidPlace ?ea_InvalidLine ?ex_InvalidLine ?et_InvalidLine ?eset_InvalidLine ?eget_InvalidLine ?ecla_InvalidLine ?egg_InvalidLine ?ek_InvalidLine ?en_InvalidLine ?a_xInvalidLine ?l_xInvalidLine ?c_xInvalidLine ?k_xInvalidLine ?ei_InvalidLine ?ea_NotANamer ?ex_NotANamer ?et_NotANamer ?eset_NotANamer ?eget_NotANamer ?ecla_NotANamer ?egg_NotANamer ?ek_NotANamer ?en_NotANamer ?a_xNotANamer ?l_xNotANamer ?c_xNotANamer ?k_xNotANamer ?ei_NotANamer ?ea_NotAShelf ?ex_NotAShelf ?et_NotAShelf ?eset_NotAShelf ?eget_NotAShelf ?ecla_NotAShelf ?egg_NotAShelf ?ek_NotAShelf ?en_NotAShelf ?a_xNotAShelf ?l_xNotAShelf ?c_xNotAShelf ?k_xNotAShelf ?ei_NotAShelf ?ea_InvalidRow ?ex_InvalidRow ?et_InvalidRow ?eset_InvalidRow ?eget_InvalidRow ?ecla_InvalidRow ?egg_InvalidRow ?ek_InvalidRow ?en_InvalidRow ?a_xInvalidRow ?l_xInvalidRow ?c_xInvalidRow ?k_xInvalidRow ?ei_InvalidRow ?ea_InvalidViews ?ex_InvalidViews ?et_InvalidViews ?eset_InvalidViews ?eget_InvalidViews ?ecla_InvalidViews ?egg_InvalidViews ?ek_InvalidViews ?en_InvalidViews ?a_xInvalidViews ?l_xInvalidViews ?c_xInvalidViews ?k_xInvalidViews ?ei_InvalidViews ?ea_InvalidTexts ?ex_InvalidTexts ?et_InvalidTexts ?eset_InvalidTexts ?eget_InvalidTexts ?ecla_InvalidTexts ?egg_InvalidTexts ?ek_InvalidTexts ?en_InvalidTexts ?a_xInvalidTexts ?l_xInvalidTexts ?c_xInvalidTexts ?k_xInvalidTexts ?ei_InvalidTexts ?ea_InvalidDeeds ?ex_InvalidDeeds ?et_InvalidDeeds ?eset_InvalidDeeds ?eget_InvalidDeeds ?ecla_InvalidDeeds ?egg_InvalidDeeds ?ek_InvalidDeeds ?en_InvalidDeeds ?a_xInvalidDeeds ?l_xInvalidDeeds ?c_xInvalidDeeds ?k_xInvalidDeeds ?ei_InvalidDeeds ?ea_NothingToUndo ?ex_NothingToUndo ?et_NothingToUndo ?eset_NothingToUndo ?eget_NothingToUndo ?ecla_NothingToUndo ?egg_NothingToUndo ?ek_NothingToUndo ?ea_Busy ?ex_Busy ?et_Busy ?eset_Busy ?eget_Busy ?ecla_Busy ?egg_Busy ?ek_Busy ?ea_UnknownName ?ex_UnknownName ?et_UnknownName ?eset_UnknownName ?eget_UnknownName ?ecla_UnknownName ?egg_UnknownName ?ek_UnknownName ?en_UnknownName ?a_xUnknownName ?l_xUnknownName ?c_xUnknownName ?k_xUnknownName ?ei_UnknownName ?ea_TooMany ?ex_TooMany ?et_TooMany ?eset_TooMany ?eget_TooMany ?ecla_TooMany ?egg_TooMany ?ek_TooMany ?en_TooMany ?a_xTooMany ?l_xTooMany ?c_xTooMany ?k_xTooMany ?ei_TooMany ?tab_law_right ?cde_law_right ?notab_law_right ?rec_law_right ?z_ArithmeticError ?z_LookupError ?z_ValueError ?z_abs ?z_all ?z_bool ?z_divmod ?z_enumerate ?z_int ?z_isinstance ?z_len ?z_max ?z_min ?z_range ?z_repr ?z_str ?z_tuple ?z_MOST_SIGNS ?z_MOST_TEXT ?z_MOST_SHELVED ?z_SIGNS ?z_RULES ?zl_RULES ?z_LEAST_WIDTH ?z_DEED_WORDS ?zl_DEED_WORDS
    (case a_is_integer => k_is)
    (case l_is_integer => k_is)
    (case c_is_integer => k_is)
    (case k_is_integer => k_is)
    (case a_is_tuple => k_is)
    (case l_is_tuple => k_is)
    (case c_is_tuple => k_is)
    (case k_is_tuple => k_is)
    (case a_is_text => k_is)
    (case l_is_text => k_is)
    (case c_is_text => k_is)
    (case k_is_text => k_is)
    (case a_check_text => k_is)
    (case l_check_text => k_is)
    (case c_check_text => k_is)
    (case k_check_text => k_is)
    (case a_check_namer => k_is)
    (case l_check_namer => k_is)
    (case c_check_namer => k_is)
    (case k_check_namer => k_is)
    (case a_base_of => k_is)
    (case l_base_of => k_is)
    (case c_base_of => k_is)
    (case k_base_of => k_is)
    (case a_numbered => k_is)
    (case l_numbered => k_is)
    (case c_numbered => k_is)
    (case k_numbered => k_is)
    (case a_counted_name => k_is)
    (case l_counted_name => k_is)
    (case c_counted_name => k_is)
    (case k_counted_name => k_is)
    (case a_free_name => k_is)
    (case l_free_name => k_is)
    (case c_free_name => k_is)
    (case k_free_name => k_is)
    (case a_name_of_next => k_is)
    (case l_name_of_next => k_is)
    (case c_name_of_next => k_is)
    (case k_name_of_next => k_is)
    (case a_is_deed => k_is)
    (case l_is_deed => k_is)
    (case c_is_deed => k_is)
    (case k_is_deed => k_is)
    (case a_check_deeds => k_is)
    (case l_check_deeds => k_is)
    (case c_check_deeds => k_is)
    (case k_check_deeds => k_is)
    (case a_within => k_is)
    (case l_within => k_is)
    (case c_within => k_is)
    (case k_within => k_is)
    (case a_attempt => k_is)
    (case l_attempt => k_is)
    (case c_attempt => k_is)
    (case k_attempt => k_is)
    (case a_law_source => k_is)
    (case l_law_source => k_is)
    (case c_law_source => k_is)
    (case k_law_source => k_is)
    (case a_law_draw => k_is)
    (case l_law_draw => k_is)
    (case c_law_draw => k_is)
    (case k_law_draw => k_is)
    (case a_law_one => k_is)
    (case l_law_one => k_is)
    (case c_law_one => k_is)
    (case k_law_one => k_is)
    (case a_law_stem => k_is)
    (case l_law_stem => k_is)
    (case c_law_stem => k_is)
    (case k_law_stem => k_is)
    (case a_law_word => k_is)
    (case l_law_word => k_is)
    (case c_law_word => k_is)
    (case k_law_word => k_is)
    (case a_law_refusal => k_is)
    (case l_law_refusal => k_is)
    (case c_law_refusal => k_is)
    (case k_law_refusal => k_is)
    (case a_law_tried => k_is)
    (case l_law_tried => k_is)
    (case c_law_tried => k_is)
    (case k_law_tried => k_is)
    (case a_law_all_gone => k_is)
    (case l_law_all_gone => k_is)
    (case c_law_all_gone => k_is)
    (case k_law_all_gone => k_is)
    (case a_law_gone_and_back => k_is)
    (case l_law_gone_and_back => k_is)
    (case c_law_gone_and_back => k_is)
    (case k_law_gone_and_back => k_is)
    (case a_law_fails => k_is)
    (case l_law_fails => k_is)
    (case c_law_fails => k_is)
    (case k_law_fails => k_is)
    (case a_law_right => k_is)
    (case l_law_right => k_is)
    (case c_law_right => k_is)
    (case k_law_right => k_is)
    (case a_law => k_is)
    (case l_law => k_is)
    (case c_law => k_is)
    (case k_law => k_is)
    (case qn => k_is)
    (case qt => k_is)
    (case anC => k_is)
    (case a_in => k_is)
    (case l_in => k_is)
    (case c_in => k_is)
    (case k_in => k_is)
    (case i_in => k_is)
    (case pgn => k_is)
    (case hdn => k_is)
    (case pon => k_is)
    (case san => k_is)
    (case mknC => k_is)
    (case knC => k_is)
    (case nn_rule => k_is)
    (case nn_width => k_is)
    (case qan => k_is)
    (case qmn => k_is)
    (case ahC => k_is)
    (case a_ih => k_is)
    (case l_ih => k_is)
    (case c_ih => k_is)
    (case k_ih => k_is)
    (case i_ih => k_is)
    (case pgh => k_is)
    (case hdh => k_is)
    (case poh => k_is)
    (case sah => k_is)
    (case mkhC => k_is)
    (case khC => k_is)
    (case nh_namer => k_is)
    (case nh_busy => k_is)
    (case nh_texts => k_is)
    (case nh_names => k_is)
    (case nh_past => k_is)
    (case qah => k_is)
    (case qmh => k_is)
    (case a_hm_become => k_is)
    (case l_hm_become => k_is)
    (case c_hm_become => k_is)
    (case k_hm_become => k_is)
    (case i_hm_become => k_is)
    (case a_hm_let_come => k_is)
    (case l_hm_let_come => k_is)
    (case c_hm_let_come => k_is)
    (case k_hm_let_come => k_is)
    (case i_hm_let_come => k_is)
    (case a_hm_let_go => k_is)
    (case l_hm_let_go => k_is)
    (case c_hm_let_go => k_is)
    (case k_hm_let_go => k_is)
    (case i_hm_let_go => k_is)
    (case a_hm_check_not_busy => k_is)
    (case l_hm_check_not_busy => k_is)
    (case c_hm_check_not_busy => k_is)
    (case k_hm_check_not_busy => k_is)
    (case i_hm_check_not_busy => k_is)
    (case a_hm_add => k_is)
    (case l_hm_add => k_is)
    (case c_hm_add => k_is)
    (case k_hm_add => k_is)
    (case i_hm_add => k_is)
    (case a_hm_remove => k_is)
    (case l_hm_remove => k_is)
    (case c_hm_remove => k_is)
    (case k_hm_remove => k_is)
    (case i_hm_remove => k_is)
    (case a_hm_undo => k_is)
    (case l_hm_undo => k_is)
    (case c_hm_undo => k_is)
    (case k_hm_undo => k_is)
    (case i_hm_undo => k_is)
    (case a_hm_do_deed => k_is)
    (case l_hm_do_deed => k_is)
    (case c_hm_do_deed => k_is)
    (case k_hm_do_deed => k_is)
    (case i_hm_do_deed => k_is)
    (case a_hm_trial => k_is)
    (case l_hm_trial => k_is)
    (case c_hm_trial => k_is)
    (case k_hm_trial => k_is)
    (case i_hm_trial => k_is)
    (case a_hlen => k_is)
    (case l_hlen => k_is)
    (case c_hlen => k_is)
    (case k_hlen => k_is)
    (case i_hlen => k_is)
    (case a_hall => k_is)
    (case l_hall => k_is)
    (case c_hall => k_is)
    (case k_hall => k_is)
    (case i_hall => k_is)
    (case w_hall => k_is)
    (case atC => k_is)
    (case a_it => k_is)
    (case l_it => k_is)
    (case c_it => k_is)
    (case k_it => k_is)
    (case i_it => k_is)
    (case pgt => k_is)
    (case hdt => k_is)
    (case pot => k_is)
    (case sat => k_is)
    (case mktC => k_is)
    (case ktC => k_is)
    (case nt_shelf => k_is)
    (case nt_entry => k_is)
    (case a_tm___enter__ => k_is)
    (case l_tm___enter__ => k_is)
    (case c_tm___enter__ => k_is)
    (case k_tm___enter__ => k_is)
    (case i_tm___enter__ => k_is)
    (case a_tm___exit__ => k_is)
    (case l_tm___exit__ => k_is)
    (case c_tm___exit__ => k_is)
    (case k_tm___exit__ => k_is)
    (case i_tm___exit__ => k_is)
    (case aeC => k_is)
    (case a_ie => k_is)
    (case l_ie => k_is)
    (case c_ie => k_is)
    (case k_ie => k_is)
    (case i_ie => k_is)
    (case pge => k_is)
    (case hde => k_is)
    (case poe => k_is)
    (case sae => k_is)
    (case mkeC => k_is)
    (case keC => k_is)
    (case ne_texts => k_is)
    (case ne_names => k_is)
    (case ne_past => k_is)
    (case ne_outer => k_is)
    (case ea_InputError => k_is)
    (case ex_InputError => k_is)
    (case et_InputError => k_is)
    (case ea_SizeError => k_is)
    (case ex_SizeError => k_is)
    (case et_SizeError => k_is)
    (case ea_StateError => k_is)
    (case ex_StateError => k_is)
    (case et_StateError => k_is)
    (case ea_InvalidNumber => k_is)
    (case ex_InvalidNumber => k_is)
    (case et_InvalidNumber => k_is)
    (case eset_InvalidNumber => k_is)
    (case eget_InvalidNumber => k_is)
    (case ecla_InvalidNumber => k_is)
    (case egg_InvalidNumber => k_is)
    (case ek_InvalidNumber => k_is)
    (case en_InvalidNumber => k_is)
    (case a_xInvalidNumber => k_is)
    (case l_xInvalidNumber => k_is)
    (case c_xInvalidNumber => k_is)
    (case k_xInvalidNumber => k_is)
    (case ei_InvalidNumber => k_is)
    (case ea_InvalidMark => k_is)
    (case ex_InvalidMark => k_is)
    (case et_InvalidMark => k_is)
    (case eset_InvalidMark => k_is)
    (case eget_InvalidMark => k_is)
    (case ecla_InvalidMark => k_is)
    (case egg_InvalidMark => k_is)
    (case ek_InvalidMark => k_is)
    (case en_InvalidMark => k_is)
    (case a_xInvalidMark => k_is)
    (case l_xInvalidMark => k_is)
    (case c_xInvalidMark => k_is)
    (case k_xInvalidMark => k_is)
    (case ei_InvalidMark => k_is)
    (case ea_InvalidText => k_is)
    (case ex_InvalidText => k_is)
    (case et_InvalidText => k_is)
    (case eset_InvalidText => k_is)
    (case eget_InvalidText => k_is)
    (case ecla_InvalidText => k_is)
    (case egg_InvalidText => k_is)
    (case ek_InvalidText => k_is)
    (case en_InvalidText => k_is)
    (case a_xInvalidText => k_is)
    (case l_xInvalidText => k_is)
    (case c_xInvalidText => k_is)
    (case k_xInvalidText => k_is)
    (case ei_InvalidText => k_is)
    (case ea_InvalidLength => k_is)
    (case ex_InvalidLength => k_is)
    (case et_InvalidLength => k_is)
    (case eset_InvalidLength => k_is)
    (case eget_InvalidLength => k_is)
    (case ecla_InvalidLength => k_is)
    (case egg_InvalidLength => k_is)
    (case ek_InvalidLength => k_is)
    (case en_InvalidLength => k_is)
    (case a_xInvalidLength => k_is)
    (case l_xInvalidLength => k_is)
    (case c_xInvalidLength => k_is)
    (case k_xInvalidLength => k_is)
    (case ei_InvalidLength => k_is)
    (case ea_InvalidRule => k_is)
    (case ex_InvalidRule => k_is)
    (case et_InvalidRule => k_is)
    (case eset_InvalidRule => k_is)
    (case eget_InvalidRule => k_is)
    (case ecla_InvalidRule => k_is)
    (case egg_InvalidRule => k_is)
    (case ek_InvalidRule => k_is)
    (case en_InvalidRule => k_is)
    (case a_xInvalidRule => k_is)
    (case l_xInvalidRule => k_is)
    (case c_xInvalidRule => k_is)
    (case k_xInvalidRule => k_is)
    (case ei_InvalidRule => k_is)
    (case ea_InvalidWidth => k_is)
    (case ex_InvalidWidth => k_is)
    (case et_InvalidWidth => k_is)
    (case eset_InvalidWidth => k_is)
    (case eget_InvalidWidth => k_is)
    (case ecla_InvalidWidth => k_is)
    (case egg_InvalidWidth => k_is)
    (case ek_InvalidWidth => k_is)
    (case en_InvalidWidth => k_is)
    (case a_xInvalidWidth => k_is)
    (case l_xInvalidWidth => k_is)
    (case c_xInvalidWidth => k_is)
    (case k_xInvalidWidth => k_is)
    (case ei_InvalidWidth => k_is)
    (case ea_InvalidPlace => k_is)
    (case ex_InvalidPlace => k_is)
    (case et_InvalidPlace => k_is)
    (case eset_InvalidPlace => k_is)
    (case eget_InvalidPlace => k_is)
    (case ecla_InvalidPlace => k_is)
    (case egg_InvalidPlace => k_is)
    (case ek_InvalidPlace => k_is)
    (case en_InvalidPlace => k_is)
    (case a_xInvalidPlace => k_is)
    (case l_xInvalidPlace => k_is)
    (case c_xInvalidPlace => k_is)
    (case k_xInvalidPlace => k_is)
    (case ei_InvalidPlace => k_is)
    (case ea_InvalidLine => k_is)
    (case ex_InvalidLine => k_is)
    (case et_InvalidLine => k_is)
    (case eset_InvalidLine => k_is)
    (case eget_InvalidLine => k_is)
    (case ecla_InvalidLine => k_is)
    (case egg_InvalidLine => k_is)
    (case ek_InvalidLine => k_is)
    (case en_InvalidLine => k_is)
    (case a_xInvalidLine => k_is)
    (case l_xInvalidLine => k_is)
    (case c_xInvalidLine => k_is)
    (case k_xInvalidLine => k_is)
    (case ei_InvalidLine => k_is)
    (case ea_NotANamer => k_is)
    (case ex_NotANamer => k_is)
    (case et_NotANamer => k_is)
    (case eset_NotANamer => k_is)
    (case eget_NotANamer => k_is)
    (case ecla_NotANamer => k_is)
    (case egg_NotANamer => k_is)
    (case ek_NotANamer => k_is)
    (case en_NotANamer => k_is)
    (case a_xNotANamer => k_is)
    (case l_xNotANamer => k_is)
    (case c_xNotANamer => k_is)
    (case k_xNotANamer => k_is)
    (case ei_NotANamer => k_is)
    (case ea_NotAShelf => k_is)
    (case ex_NotAShelf => k_is)
    (case et_NotAShelf => k_is)
    (case eset_NotAShelf => k_is)
    (case eget_NotAShelf => k_is)
    (case ecla_NotAShelf => k_is)
    (case egg_NotAShelf => k_is)
    (case ek_NotAShelf => k_is)
    (case en_NotAShelf => k_is)
    (case a_xNotAShelf => k_is)
    (case l_xNotAShelf => k_is)
    (case c_xNotAShelf => k_is)
    (case k_xNotAShelf => k_is)
    (case ei_NotAShelf => k_is)
    (case ea_InvalidRow => k_is)
    (case ex_InvalidRow => k_is)
    (case et_InvalidRow => k_is)
    (case eset_InvalidRow => k_is)
    (case eget_InvalidRow => k_is)
    (case ecla_InvalidRow => k_is)
    (case egg_InvalidRow => k_is)
    (case ek_InvalidRow => k_is)
    (case en_InvalidRow => k_is)
    (case a_xInvalidRow => k_is)
    (case l_xInvalidRow => k_is)
    (case c_xInvalidRow => k_is)
    (case k_xInvalidRow => k_is)
    (case ei_InvalidRow => k_is)
    (case ea_InvalidViews => k_is)
    (case ex_InvalidViews => k_is)
    (case et_InvalidViews => k_is)
    (case eset_InvalidViews => k_is)
    (case eget_InvalidViews => k_is)
    (case ecla_InvalidViews => k_is)
    (case egg_InvalidViews => k_is)
    (case ek_InvalidViews => k_is)
    (case en_InvalidViews => k_is)
    (case a_xInvalidViews => k_is)
    (case l_xInvalidViews => k_is)
    (case c_xInvalidViews => k_is)
    (case k_xInvalidViews => k_is)
    (case ei_InvalidViews => k_is)
    (case ea_InvalidTexts => k_is)
    (case ex_InvalidTexts => k_is)
    (case et_InvalidTexts => k_is)
    (case eset_InvalidTexts => k_is)
    (case eget_InvalidTexts => k_is)
    (case ecla_InvalidTexts => k_is)
    (case egg_InvalidTexts => k_is)
    (case ek_InvalidTexts => k_is)
    (case en_InvalidTexts => k_is)
    (case a_xInvalidTexts => k_is)
    (case l_xInvalidTexts => k_is)
    (case c_xInvalidTexts => k_is)
    (case k_xInvalidTexts => k_is)
    (case ei_InvalidTexts => k_is)
    (case ea_InvalidDeeds => k_is)
    (case ex_InvalidDeeds => k_is)
    (case et_InvalidDeeds => k_is)
    (case eset_InvalidDeeds => k_is)
    (case eget_InvalidDeeds => k_is)
    (case ecla_InvalidDeeds => k_is)
    (case egg_InvalidDeeds => k_is)
    (case ek_InvalidDeeds => k_is)
    (case en_InvalidDeeds => k_is)
    (case a_xInvalidDeeds => k_is)
    (case l_xInvalidDeeds => k_is)
    (case c_xInvalidDeeds => k_is)
    (case k_xInvalidDeeds => k_is)
    (case ei_InvalidDeeds => k_is)
    (case ea_NothingToUndo => k_is)
    (case ex_NothingToUndo => k_is)
    (case et_NothingToUndo => k_is)
    (case eset_NothingToUndo => k_is)
    (case eget_NothingToUndo => k_is)
    (case ecla_NothingToUndo => k_is)
    (case egg_NothingToUndo => k_is)
    (case ek_NothingToUndo => k_is)
    (case ea_Busy => k_is)
    (case ex_Busy => k_is)
    (case et_Busy => k_is)
    (case eset_Busy => k_is)
    (case eget_Busy => k_is)
    (case ecla_Busy => k_is)
    (case egg_Busy => k_is)
    (case ek_Busy => k_is)
    (case ea_UnknownName => k_is)
    (case ex_UnknownName => k_is)
    (case et_UnknownName => k_is)
    (case eset_UnknownName => k_is)
    (case eget_UnknownName => k_is)
    (case ecla_UnknownName => k_is)
    (case egg_UnknownName => k_is)
    (case ek_UnknownName => k_is)
    (case en_UnknownName => k_is)
    (case a_xUnknownName => k_is)
    (case l_xUnknownName => k_is)
    (case c_xUnknownName => k_is)
    (case k_xUnknownName => k_is)
    (case ei_UnknownName => k_is)
    (case ea_TooMany => k_is)
    (case ex_TooMany => k_is)
    (case et_TooMany => k_is)
    (case eset_TooMany => k_is)
    (case eget_TooMany => k_is)
    (case ecla_TooMany => k_is)
    (case egg_TooMany => k_is)
    (case ek_TooMany => k_is)
    (case en_TooMany => k_is)
    (case a_xTooMany => k_is)
    (case l_xTooMany => k_is)
    (case c_xTooMany => k_is)
    (case k_xTooMany => k_is)
    (case ei_TooMany => k_is)
    (case tab_law_right => first | rfl | decide +kernel | k_is)
    (case cde_law_right => rfl)
    (case notab_law_right => first | rfl | decide +kernel | k_is)
    (case rec_law_right => first | rfl | decide +kernel | k_is)
    (case z_ArithmeticError => k_is)
    (case z_LookupError => k_is)
    (case z_ValueError => k_is)
    (case z_abs => k_is)
    (case z_all => k_is)
    (case z_bool => k_is)
    (case z_divmod => k_is)
    (case z_enumerate => k_is)
    (case z_int => k_is)
    (case z_isinstance => k_is)
    (case z_len => k_is)
    (case z_max => k_is)
    (case z_min => k_is)
    (case z_range => k_is)
    (case z_repr => k_is)
    (case z_str => k_is)
    (case z_tuple => k_is)
    (case z_MOST_SIGNS => k_is)
    (case z_MOST_TEXT => k_is)
    (case z_MOST_SHELVED => k_is)
    (case z_SIGNS => k_is)
    (case z_RULES => k_is)
    (case zl_RULES => k_is)
    (case z_LEAST_WIDTH => k_is)
    (case z_DEED_WORDS => k_is)
    (case zl_DEED_WORDS => k_is)
