import PyProof.Rows.All
import Wide.All
import OpenK.AllK
import Wide.FinOn
import HandS.Base
import HandS.Call
import HandS.List
import HandS.Comp
import HandS.Ends
import HandS.Dict
import HandS.Iter
import HandS.Text
import HandS.Words
import HandS.WordsList
import HandS.WordsDict
import HandS.Conv
import HandS.Walk
import HandS.IsInst
import HandS.MakeKw
import HandS.MakeKwOnly
import HandS.Flow
import HandS.TupAny
import HandS.TupMul
import HandS.FStr
import HandS.Zip
import HandS.Style
import HandS.Codes
import HandS.TupLe
import HandS.SetKeys
import HandS.Strs
import HandS.SetFor
import HandS.Deep
import HandS.SortInts
import HandS.More
import HandS.CallLocal
import HandS.HeadHook3
import KE.GoesMore
import KE.GoesZip
import PyProof.TupleOfStr
import PySem.Challenge.RW_shownshort_k34_whole_lists_and_rows
set_option Elab.async false
set_option linter.all false
set_option maxRecDepth 100000
namespace Gu
open PySem PySem.Spec PyProof.Rows L2
/-! the text, by places -/
def topS (i : Nat) : Stmt := PySem.Challenge.pw_shownshort_k34_whole_lists_and_rows.main.body.getD i (.Pass ⟨0, 0, 0, 0⟩)
abbrev s_InvalidNumber_init : Stmt := inClass (topS 2) 0
abbrev ps_InvalidNumber_init : List Str := ["self", "value"]
theorem sc_InvalidNumber_init : FnScope ["self", "value"] ps_InvalidNumber_init (defScope s_InvalidNumber_init) := ⟨rfl, rfl, rfl, by decide +kernel, rfl, by decide +kernel, by decide +kernel⟩
abbrev s_InvalidMark_init : Stmt := inClass (topS 3) 0
abbrev ps_InvalidMark_init : List Str := ["self", "value"]
theorem sc_InvalidMark_init : FnScope ["self", "value"] ps_InvalidMark_init (defScope s_InvalidMark_init) := ⟨rfl, rfl, rfl, by decide +kernel, rfl, by decide +kernel, by decide +kernel⟩
abbrev s_InvalidText_init : Stmt := inClass (topS 4) 0
abbrev ps_InvalidText_init : List Str := ["self", "value"]
theorem sc_InvalidText_init : FnScope ["self", "value"] ps_InvalidText_init (defScope s_InvalidText_init) := ⟨rfl, rfl, rfl, by decide +kernel, rfl, by decide +kernel, by decide +kernel⟩
abbrev s_InvalidLength_init : Stmt := inClass (topS 5) 0
abbrev ps_InvalidLength_init : List Str := ["self", "value"]
theorem sc_InvalidLength_init : FnScope ["self", "value"] ps_InvalidLength_init (defScope s_InvalidLength_init) := ⟨rfl, rfl, rfl, by decide +kernel, rfl, by decide +kernel, by decide +kernel⟩
abbrev s_InvalidRule_init : Stmt := inClass (topS 6) 0
abbrev ps_InvalidRule_init : List Str := ["self", "value"]
theorem sc_InvalidRule_init : FnScope ["self", "value"] ps_InvalidRule_init (defScope s_InvalidRule_init) := ⟨rfl, rfl, rfl, by decide +kernel, rfl, by decide +kernel, by decide +kernel⟩
abbrev s_InvalidRow_init : Stmt := inClass (topS 7) 0
abbrev ps_InvalidRow_init : List Str := ["self", "index"]
theorem sc_InvalidRow_init : FnScope ["self", "index"] ps_InvalidRow_init (defScope s_InvalidRow_init) := ⟨rfl, rfl, rfl, by decide +kernel, rfl, by decide +kernel, by decide +kernel⟩
abbrev s_InvalidViews_init : Stmt := inClass (topS 8) 0
abbrev ps_InvalidViews_init : List Str := ["self", "index"]
theorem sc_InvalidViews_init : FnScope ["self", "index"] ps_InvalidViews_init (defScope s_InvalidViews_init) := ⟨rfl, rfl, rfl, by decide +kernel, rfl, by decide +kernel, by decide +kernel⟩
abbrev s_InvalidTexts_init : Stmt := inClass (topS 9) 0
abbrev ps_InvalidTexts_init : List Str := ["self", "index"]
theorem sc_InvalidTexts_init : FnScope ["self", "index"] ps_InvalidTexts_init (defScope s_InvalidTexts_init) := ⟨rfl, rfl, rfl, by decide +kernel, rfl, by decide +kernel, by decide +kernel⟩
abbrev s_is_integer : Stmt := topS 18
abbrev ps_is_integer : List Str := ["value", "least", "most"]
theorem sc_is_integer : FnScope ["value", "least", "most"] ps_is_integer (defScope s_is_integer) := ⟨rfl, rfl, rfl, by decide +kernel, rfl, by decide +kernel, by decide +kernel⟩
abbrev s_is_tuple : Stmt := topS 19
abbrev ps_is_tuple : List Str := ["value", "least", "most"]
theorem sc_is_tuple : FnScope ["value", "least", "most"] ps_is_tuple (defScope s_is_tuple) := ⟨rfl, rfl, rfl, by decide +kernel, rfl, by decide +kernel, by decide +kernel⟩
abbrev s_is_text : Stmt := topS 20
abbrev ps_is_text : List Str := ["value", "most"]
theorem sc_is_text : FnScope ["value", "most", "character"] ps_is_text (defScope s_is_text) := ⟨rfl, rfl, rfl, by decide +kernel, rfl, by decide +kernel, by decide +kernel⟩
abbrev s_least_raised_at : Stmt := topS 21
abbrev ps_least_raised_at : List Str := ["length", "place"]
theorem sc_least_raised_at : FnScope ["length", "place"] ps_least_raised_at (defScope s_least_raised_at) := ⟨rfl, rfl, rfl, by decide +kernel, rfl, by decide +kernel, by decide +kernel⟩
abbrev s_check_mark : Stmt := topS 22
abbrev ps_check_mark : List Str := ["mark"]
theorem sc_check_mark : FnScope ["mark"] ps_check_mark (defScope s_check_mark) := ⟨rfl, rfl, rfl, by decide +kernel, rfl, by decide +kernel, by decide +kernel⟩
abbrev s_check_text : Stmt := topS 23
abbrev ps_check_text : List Str := ["text"]
theorem sc_check_text : FnScope ["text"] ps_check_text (defScope s_check_text) := ⟨rfl, rfl, rfl, by decide +kernel, rfl, by decide +kernel, by decide +kernel⟩
abbrev s_check_length : Stmt := topS 24
abbrev ps_check_length : List Str := ["length"]
theorem sc_check_length : FnScope ["length"] ps_check_length (defScope s_check_length) := ⟨rfl, rfl, rfl, by decide +kernel, rfl, by decide +kernel, by decide +kernel⟩
abbrev s_check_texts : Stmt := topS 25
abbrev ps_check_texts : List Str := ["texts", "most"]
theorem sc_check_texts : FnScope ["texts", "most", "place", "text"] ps_check_texts (defScope s_check_texts) := ⟨rfl, rfl, rfl, by decide +kernel, rfl, by decide +kernel, by decide +kernel⟩
abbrev s_Shortener_init : Stmt := inClass (topS 27) 0
abbrev ps_Shortener_init : List Str := ["self", "limit", "head", "tail", "mark"]
theorem sc_Shortener_init : FnScope ["self", "limit", "head", "tail", "mark", "number"] ps_Shortener_init (defScope s_Shortener_init) := ⟨rfl, rfl, rfl, by decide +kernel, rfl, by decide +kernel, by decide +kernel⟩
abbrev s_Shortener_eq : Stmt := inClass (topS 27) 1
abbrev ps_Shortener_eq : List Str := ["self", "other"]
theorem sc_Shortener_eq : FnScope ["self", "other"] ps_Shortener_eq (defScope s_Shortener_eq) := ⟨rfl, rfl, rfl, by decide +kernel, rfl, by decide +kernel, by decide +kernel⟩
abbrev s_Shortener_repr : Stmt := inClass (topS 27) 2
abbrev ps_Shortener_repr : List Str := ["self"]
theorem sc_Shortener_repr : FnScope ["self"] ps_Shortener_repr (defScope s_Shortener_repr) := ⟨rfl, rfl, rfl, by decide +kernel, rfl, by decide +kernel, by decide +kernel⟩
abbrev s_is_row : Stmt := topS 28
abbrev ps_is_row : List Str := ["value"]
theorem sc_is_row : FnScope ["value", "part"] ps_is_row (defScope s_is_row) := ⟨rfl, rfl, rfl, by decide +kernel, rfl, by decide +kernel, by decide +kernel⟩
abbrev s_check_row : Stmt := topS 29
abbrev ps_check_row : List Str := ["row"]
theorem sc_check_row : FnScope ["row", "place", "shortener"] ps_check_row (defScope s_check_row) := ⟨rfl, rfl, rfl, by decide +kernel, rfl, by decide +kernel, by decide +kernel⟩
abbrev s_shortened : Stmt := topS 30
abbrev ps_shortened : List Str := ["shortener", "whole", "mark"]
theorem sc_shortened : FnScope ["shortener", "whole", "mark", "tail_start"] ps_shortened (defScope s_shortened) := ⟨rfl, rfl, rfl, by decide +kernel, rfl, by decide +kernel, by decide +kernel⟩
abbrev s_shown_by : Stmt := topS 31
abbrev ps_shown_by : List Str := ["row", "text"]
theorem sc_shown_by : FnScope ["row", "text", "shown", "shortener"] ps_shown_by (defScope s_shown_by) := ⟨rfl, rfl, rfl, by decide +kernel, rfl, by decide +kernel, by decide +kernel⟩
abbrev s_planned : Stmt := topS 32
abbrev ps_planned : List Str := ["row", "length"]
theorem sc_planned : FnScope ["row", "length", "sources", "shortener"] ps_planned (defScope s_planned) := ⟨rfl, rfl, rfl, by decide +kernel, rfl, by decide +kernel, by decide +kernel⟩
abbrev s_telling_lengths : Stmt := topS 33
abbrev ps_telling_lengths : List Str := []
theorem sc_telling_lengths : FnScope [] ps_telling_lengths (defScope s_telling_lengths) := ⟨rfl, rfl, rfl, by decide +kernel, rfl, by decide +kernel, by decide +kernel⟩
abbrev s_show : Stmt := topS 34
abbrev ps_show : List Str := ["row", "text"]
theorem sc_show : FnScope ["row", "text"] ps_show (defScope s_show) := ⟨rfl, rfl, rfl, by decide +kernel, rfl, by decide +kernel, by decide +kernel⟩
abbrev s_check_kind : Stmt := topS 38
abbrev ps_check_kind : List Str := ["kind"]
theorem sc_check_kind : FnScope ["kind"] ps_check_kind (defScope s_check_kind) := ⟨rfl, rfl, rfl, by decide +kernel, rfl, by decide +kernel, by decide +kernel⟩
abbrev s_widths_of : Stmt := topS 39
abbrev ps_widths_of : List Str := ["mark"]
theorem sc_widths_of : FnScope ["mark"] ps_widths_of (defScope s_widths_of) := ⟨rfl, rfl, rfl, by decide +kernel, rfl, by decide +kernel, by decide +kernel⟩
abbrev s_member_of : Stmt := topS 40
abbrev ps_member_of : List Str := ["kind", "mark", "width"]
theorem sc_member_of : FnScope ["kind", "mark", "width", "left"] ps_member_of (defScope s_member_of) := ⟨rfl, rfl, rfl, by decide +kernel, rfl, by decide +kernel, by decide +kernel⟩
abbrev s_separates : Stmt := topS 41
abbrev ps_separates : List Str := ["row", "texts"]
theorem sc_separates : FnScope ["row", "texts", "text"] ps_separates (defScope s_separates) := ⟨rfl, rfl, rfl, by decide +kernel, rfl, by decide +kernel, by decide +kernel⟩
abbrev s_groups : Stmt := topS 42
abbrev ps_groups : List Str := ["row", "texts"]
theorem sc_groups : FnScope ["row", "texts", "places", "place", "text", "shared"] ps_groups (defScope s_groups) := ⟨rfl, rfl, rfl, by decide +kernel, rfl, by decide +kernel, by decide +kernel⟩
abbrev s_tells_apart : Stmt := topS 43
abbrev ps_tells_apart : List Str := ["row", "texts"]
theorem sc_tells_apart : FnScope ["row", "texts"] ps_tells_apart (defScope s_tells_apart) := ⟨rfl, rfl, rfl, by decide +kernel, rfl, by decide +kernel, by decide +kernel⟩
abbrev s_widths : Stmt := topS 44
abbrev ps_widths : List Str := ["kind", "mark", "texts"]
theorem sc_widths : FnScope ["kind", "mark", "texts", "width"] ps_widths (defScope s_widths) := ⟨rfl, rfl, rfl, by decide +kernel, rfl, by decide +kernel, by decide +kernel⟩
abbrev s_filled_in : Stmt := topS 46
abbrev ps_filled_in : List Str := ["sources", "text"]
theorem sc_filled_in : FnScope ["sources", "text", "source"] ps_filled_in (defScope s_filled_in) := ⟨rfl, rfl, rfl, by decide +kernel, rfl, by decide +kernel, by decide +kernel⟩
abbrev s_differing_places : Stmt := topS 47
abbrev ps_differing_places : List Str := ["sources", "others"]
theorem sc_differing_places : FnScope ["sources", "others", "places", "source", "other", "place"] ps_differing_places (defScope s_differing_places) := ⟨rfl, rfl, rfl, by decide +kernel, rfl, by decide +kernel, by decide +kernel⟩
abbrev s_least_difference : Stmt := topS 48
abbrev ps_least_difference : List Str := ["sources", "others", "length"]
theorem sc_least_difference : FnScope ["sources", "others", "length", "least"] ps_least_difference (defScope s_least_difference) := ⟨rfl, rfl, rfl, by decide +kernel, rfl, by decide +kernel, by decide +kernel⟩
abbrev s_first_difference : Stmt := topS 49
abbrev ps_first_difference : List Str := ["shorteners", "others"]
theorem sc_first_difference : FnScope ["shorteners", "others", "length", "sources", "other_sources"] ps_first_difference (defScope s_first_difference) := ⟨rfl, rfl, rfl, by decide +kernel, rfl, by decide +kernel, by decide +kernel⟩
abbrev s_is_view : Stmt := topS 52
abbrev ps_is_view : List Str := ["value"]
theorem sc_is_view : FnScope ["value"] ps_is_view (defScope s_is_view) := ⟨rfl, rfl, rfl, by decide +kernel, rfl, by decide +kernel, by decide +kernel⟩
abbrev s_check_views : Stmt := topS 53
abbrev ps_check_views : List Str := ["views"]
theorem sc_check_views : FnScope ["views", "place", "view"] ps_check_views (defScope s_check_views) := ⟨rfl, rfl, rfl, by decide +kernel, rfl, by decide +kernel, by decide +kernel⟩
abbrev s_known_signs : Stmt := topS 54
abbrev ps_known_signs : List Str := ["views", "length"]
theorem sc_known_signs : FnScope ["views", "length", "known", "row", "shown", "sources", "source", "sign", "told"] ps_known_signs (defScope s_known_signs) := ⟨rfl, rfl, rfl, by decide +kernel, rfl, by decide +kernel, by decide +kernel⟩
abbrev s_written_out : Stmt := topS 55
abbrev ps_written_out : List Str := ["known", "length", "other"]
theorem sc_written_out : FnScope ["known", "length", "other", "place"] ps_written_out (defScope s_written_out) := ⟨rfl, rfl, rfl, by decide +kernel, rfl, by decide +kernel, by decide +kernel⟩
abbrev s_signs : Stmt := topS 56
abbrev ps_signs : List Str := ["views", "length"]
theorem sc_signs : FnScope ["views", "length", "known"] ps_signs (defScope s_signs) := ⟨rfl, rfl, rfl, by decide +kernel, rfl, by decide +kernel, by decide +kernel⟩
abbrev s_number_of : Stmt := topS 57
abbrev ps_number_of : List Str := ["views", "length"]
theorem sc_number_of : FnScope ["views", "length", "told", "number", "sign"] ps_number_of (defScope s_number_of) := ⟨rfl, rfl, rfl, by decide +kernel, rfl, by decide +kernel, by decide +kernel⟩
abbrev s_is_told : Stmt := topS 59
abbrev ps_is_told : List Str := ["value"]
theorem sc_is_told : FnScope ["value", "number"] ps_is_told (defScope s_is_told) := ⟨rfl, rfl, rfl, by decide +kernel, rfl, by decide +kernel, by decide +kernel⟩
abbrev s_is_told_row : Stmt := topS 60
abbrev ps_is_told_row : List Str := ["value"]
theorem sc_is_told_row : FnScope ["value", "part"] ps_is_told_row (defScope s_is_told_row) := ⟨rfl, rfl, rfl, by decide +kernel, rfl, by decide +kernel, by decide +kernel⟩
abbrev s_are_told_rows : Stmt := topS 61
abbrev ps_are_told_rows : List Str := ["parts", "many"]
theorem sc_are_told_rows : FnScope ["parts", "many", "part"] ps_are_told_rows (defScope s_are_told_rows) := ⟨rfl, rfl, rfl, by decide +kernel, rfl, by decide +kernel, by decide +kernel⟩
abbrev s_are_shown_parts : Stmt := topS 62
abbrev ps_are_shown_parts : List Str := ["parts"]
theorem sc_are_shown_parts : FnScope ["parts"] ps_are_shown_parts (defScope s_are_shown_parts) := ⟨rfl, rfl, rfl, by decide +kernel, rfl, by decide +kernel, by decide +kernel⟩
abbrev s_is_pair_of_texts : Stmt := topS 63
abbrev ps_is_pair_of_texts : List Str := ["value"]
theorem sc_is_pair_of_texts : FnScope ["value", "part"] ps_is_pair_of_texts (defScope s_is_pair_of_texts) := ⟨rfl, rfl, rfl, by decide +kernel, rfl, by decide +kernel, by decide +kernel⟩
abbrev s_row_of : Stmt := topS 64
abbrev ps_row_of : List Str := ["told_row"]
theorem sc_row_of : FnScope ["told_row", "limit", "head", "tail", "mark"] ps_row_of (defScope s_row_of) := ⟨rfl, rfl, rfl, by decide +kernel, rfl, by decide +kernel, by decide +kernel⟩
abbrev s_alike_holds : Stmt := topS 65
abbrev ps_alike_holds : List Str := ["parts", "paper"]
theorem sc_alike_holds : FnScope ["parts", "paper"] ps_alike_holds (defScope s_alike_holds) := ⟨rfl, rfl, rfl, by decide +kernel, rfl, by decide +kernel, by decide +kernel⟩
abbrev s_unlike_holds : Stmt := topS 66
abbrev ps_unlike_holds : List Str := ["parts", "paper"]
theorem sc_unlike_holds : FnScope ["parts", "paper"] ps_unlike_holds (defScope s_unlike_holds) := ⟨rfl, rfl, rfl, by decide +kernel, rfl, by decide +kernel, by decide +kernel⟩
abbrev s_stable_holds : Stmt := topS 67
abbrev ps_stable_holds : List Str := ["parts", "paper"]
theorem sc_stable_holds : FnScope ["parts", "paper", "row"] ps_stable_holds (defScope s_stable_holds) := ⟨rfl, rfl, rfl, by decide +kernel, rfl, by decide +kernel, by decide +kernel⟩
abbrev s_unstable_holds : Stmt := topS 68
abbrev ps_unstable_holds : List Str := ["parts", "paper"]
theorem sc_unstable_holds : FnScope ["parts", "paper", "row", "shown"] ps_unstable_holds (defScope s_unstable_holds) := ⟨rfl, rfl, rfl, by decide +kernel, rfl, by decide +kernel, by decide +kernel⟩
abbrev s_possible_holds : Stmt := topS 69
abbrev ps_possible_holds : List Str := ["parts", "paper"]
theorem sc_possible_holds : FnScope ["parts", "paper", "told_row", "shown", "length"] ps_possible_holds (defScope s_possible_holds) := ⟨rfl, rfl, rfl, by decide +kernel, rfl, by decide +kernel, by decide +kernel⟩
abbrev s_impossible_holds : Stmt := topS 70
abbrev ps_impossible_holds : List Str := ["parts", "paper"]
theorem sc_impossible_holds : FnScope ["parts", "paper", "told_row", "shown", "length"] ps_impossible_holds (defScope s_impossible_holds) := ⟨rfl, rfl, rfl, by decide +kernel, rfl, by decide +kernel, by decide +kernel⟩
abbrev s_confused_holds : Stmt := topS 71
abbrev ps_confused_holds : List Str := ["parts", "paper"]
theorem sc_confused_holds : FnScope ["parts", "paper", "row"] ps_confused_holds (defScope s_confused_holds) := ⟨rfl, rfl, rfl, by decide +kernel, rfl, by decide +kernel, by decide +kernel⟩
abbrev s_holds : Stmt := topS 73
abbrev ps_holds : List Str := ["claim", "paper"]
theorem sc_holds : FnScope ["claim", "paper", "check"] ps_holds (defScope s_holds) := ⟨rfl, rfl, rfl, by decide +kernel, rfl, by decide +kernel, by decide +kernel⟩
abbrev s_law_pot : Stmt := topS 75
abbrev ps_law_pot : List Str := ["_law_script", "_law_k"]
theorem sc_law_pot : FnScope ["_law_script", "_law_k", "_law_own", "_law_mixed", "_law_entry"] ps_law_pot (defScope s_law_pot) := ⟨rfl, rfl, rfl, by decide +kernel, rfl, by decide +kernel, by decide +kernel⟩
abbrev s_law_ladle : Stmt := topS 76
abbrev ps_law_ladle : List Str := ["_law_pot_here", "_law_many"]
theorem sc_law_ladle : FnScope ["_law_pot_here", "_law_many", "_law_digit"] ps_law_ladle (defScope s_law_ladle) := ⟨rfl, rfl, rfl, by decide +kernel, rfl, by decide +kernel, by decide +kernel⟩
abbrev s_law_one_of : Stmt := topS 77
abbrev ps_law_one_of : List Str := ["_law_pot_here", "_law_some"]
theorem sc_law_one_of : FnScope ["_law_pot_here", "_law_some"] ps_law_one_of (defScope s_law_one_of) := ⟨rfl, rfl, rfl, by decide +kernel, rfl, by decide +kernel, by decide +kernel⟩
abbrev s_law_told : Stmt := topS 78
abbrev ps_law_told : List Str := ["_law_pot_here"]
theorem sc_law_told : FnScope ["_law_pot_here", "_law_sign", "_law_way", "_law_bound", "_law_low", "_law_high"] ps_law_told (defScope s_law_told) := ⟨rfl, rfl, rfl, by decide +kernel, rfl, by decide +kernel, by decide +kernel⟩
abbrev s_law_tolds : Stmt := topS 79
abbrev ps_law_tolds : List Str := ["_law_pot_here"]
theorem sc_law_tolds : FnScope ["_law_pot_here", "_law_k"] ps_law_tolds (defScope s_law_tolds) := ⟨rfl, rfl, rfl, by decide +kernel, rfl, by decide +kernel, by decide +kernel⟩
abbrev s_law_made : Stmt := topS 80
abbrev ps_law_made : List Str := ["_law_tolds_here"]
theorem sc_law_made : FnScope ["_law_tolds_here", "_law_a", "_law_b", "_law_c", "_law_d"] ps_law_made (defScope s_law_made) := ⟨rfl, rfl, rfl, by decide +kernel, rfl, by decide +kernel, by decide +kernel⟩
abbrev s_law_cut : Stmt := topS 81
abbrev ps_law_cut : List Str := ["_law_tolds_here", "_law_things"]
theorem sc_law_cut : FnScope ["_law_tolds_here", "_law_things", "_law_bound", "_law_low", "_law_high", "_law_sign", "_law_front", "_law_back", "_law_each"] ps_law_cut (defScope s_law_cut) := ⟨rfl, rfl, rfl, by decide +kernel, rfl, by decide +kernel, by decide +kernel⟩
abbrev s_law_seen : Stmt := topS 82
abbrev ps_law_seen : List Str := ["_law_tolds_here", "_law_line_here"]
theorem sc_law_seen : FnScope ["_law_tolds_here", "_law_line_here", "_law_each"] ps_law_seen (defScope s_law_seen) := ⟨rfl, rfl, rfl, by decide +kernel, rfl, by decide +kernel, by decide +kernel⟩
abbrev s_law_line : Stmt := topS 83
abbrev ps_law_line : List Str := ["_law_pot_here", "_law_many"]
theorem sc_law_line : FnScope ["_law_pot_here", "_law_many", "_law_signs_here", "_law_k"] ps_law_line (defScope s_law_line) := ⟨rfl, rfl, rfl, by decide +kernel, rfl, by decide +kernel, by decide +kernel⟩
abbrev s_law_some_lines : Stmt := topS 84
abbrev ps_law_some_lines : List Str := ["_law_pot_here", "_law_many"]
theorem sc_law_some_lines : FnScope ["_law_pot_here", "_law_many", "_law_stem", "_law_found", "_law_k", "_law_way", "_law_at", "_law_line_here"] ps_law_some_lines (defScope s_law_some_lines) := ⟨rfl, rfl, rfl, by decide +kernel, rfl, by decide +kernel, by decide +kernel⟩
abbrev s_law_family : Stmt := topS 85
abbrev ps_law_family : List Str := ["_law_sort", "_law_sign", "_law_size_here"]
theorem sc_law_family : FnScope ["_law_sort", "_law_sign", "_law_size_here", "_law_rest"] ps_law_family (defScope s_law_family) := ⟨rfl, rfl, rfl, by decide +kernel, rfl, by decide +kernel, by decide +kernel⟩
abbrev s_law_right : Stmt := topS 86
abbrev ps_law_right : List Str := ["_law_pot_here"]
theorem sc_law_right : FnScope ["_law_pot_here", "_law_again", "_law_tolds_here", "_law_lines", "_law_made_here", "_law_sort", "_law_told_here", "_law_more", "_law_first", "_law_second", "_law_group", "_law_one", "_law_two", "_law_size_here"] ps_law_right (defScope s_law_right) := ⟨rfl, rfl, rfl, by decide +kernel, rfl, by decide +kernel, by decide +kernel⟩
abbrev s_law : Stmt := topS 87
abbrev ps_law : List Str := ["_law_script"]
theorem sc_law : FnScope ["_law_script", "_law_k"] ps_law (defScope s_law) := ⟨rfl, rfl, rfl, by decide +kernel, rfl, by decide +kernel, by decide +kernel⟩
/-- names that the module leaves to Python -/
structure Bi (mg : Str → Option Value) : Prop where
  ValueError : mg "ValueError" = none
  abs : mg "abs" = none
  all : mg "all" = none
  bool : mg "bool" = none
  divmod : mg "divmod" = none
  enumerate : mg "enumerate" = none
  int : mg "int" = none
  isinstance : mg "isinstance" = none
  len : mg "len" = none
  list : mg "list" = none
  max : mg "max" = none
  min : mg "min" = none
  range : mg "range" = none
  set : mg "set" = none
  str : mg "str" = none
  tuple : mg "tuple" = none
  zip : mg "zip" = none
  MOST_SIGNS : ∃ u, mg "MOST_SIGNS" = some u ∧ RelV (.int 40) u
  MOST_MARK : ∃ u, mg "MOST_MARK" = some u ∧ RelV (.int 3) u
  MOST_ROW : ∃ u, mg "MOST_ROW" = some u ∧ RelV (.int 4) u
  MOST_VIEWS : ∃ u, mg "MOST_VIEWS" = some u ∧ RelV (.int 4) u
  MOST_TEXT : ∃ u, mg "MOST_TEXT" = some u ∧ RelV (.int 200) u
  MOST_LENGTH : ∃ u, mg "MOST_LENGTH" = some u ∧ RelV (.int 500) u
  SIGNS : ∃ u, mg "SIGNS" = some u ∧ RelV (.str ".0123456789abcdefghijklmnopqrstuvwxyz~") u
  MOST_TEXTS : ∃ u, mg "MOST_TEXTS" = some u ∧ RelV (.int 20) u
  SEVERAL : ∃ u, mg "SEVERAL" = some u ∧ RelV (.str "?") u
end Gu
namespace Gu
open PySem PySem.Spec PyProof.Rows L2
/-! cuts -/
/-- from a middle state on -/
def tHalt (t u : TS) : TS := fun D σ H => ∃ M : L2.St → Hp → Prop, t { D with nx := M } σ H ∧ ∀ σ1 H1, M σ1 H1 → u D σ1 H1
/-! defs as they stand behind the top -/
structure At (K : PySem.W.Frag) (mg : Str → Option Value) (x : Str) (st : Stmt) (ps : List Str) : Prop where
  ex : ∃ (f : Addr) (fd : FuncData), Fun K x x st f fd ∧ Binds K fd ps [] ∧ mg x = some (.ref f)
structure Cal (P : Program) (w : World) (K : PySem.W.Frag) (mg : Str → Option Value) (base : Heap) (k : Nat) (x : Str) (ps : List Str) (sp : Sp) : Prop where
  ex : ∃ (f : Addr) (fd : FuncData), FnOk P w K mg base CX0 k f fd ps sp ∧ mg x = some (.ref f) ∧ PySem.W.keepIn K (.ref f) = true ∧ Binds K fd ps [] ∧ ∃ oc od sl, K.lookup f = some ⟨oc, od, .func fd, sl⟩
theorem At.cal {P : Program} {w : World} {K : PySem.W.Frag} {mg : Str → Option Value} {base : Heap} {x : Str} {st : Stmt} {N ps : List Str} {k : Nat} {sp : Sp} (D : At K mg x st ps) (S : FnScope N ps (defScope st)) (len : ∀ vs H Q E, sp vs H Q E → vs.length = ps.length)
    (body : ∀ (f : Addr) (cdv : Value) (A : Around) (outer : List Env) (s : Shared) (H : Hp) (vs : List V) (Q : VK) (E : XK), Room k (A.deeper (envOfC x (defScope st) s.heap.objs.size f cdv)) → sp vs H Q E →
      ∃ t, PSs (cxOf CX0 P w K mg base N x (defScope st) f cdv A outer s H E).nox (defBody st) t ∧ t { nx := fun _ H' => Q .non H', rt := Q } (start N vs) H) : Cal P w K mg base (k + 1) x ps sp := by
  obtain ⟨f, fd, F, b, g⟩ := D.ex
  obtain ⟨oc, od, kV, doc, pm, an, cdv, ct, osl, e, lk, hcd⟩ := F.ex
  exact ⟨f, fd, F.ok S len (body f), g, F.kp, b, oc, od, osl, lk⟩
section
variable {X : Cx} {k j : Nat} {x : Str} {ps : List Str} {sp : Sp} {p pos : Pos} {e : Expr} {es : List Expr} {t : TA}
theorem pe_own (c : Cal X.prog X.w X.K X.mg X.base k x ps sp) (hr : Room j X.A) (hk : k ≤ j) (hg : Gl X x) (ha : PA X (e :: es) t)
    (hdb : (x == ("__debug__" : Str)) = false := by decide) (he : starEach (e :: es) X.env = (false, eval e X.env) :: starEach es X.env := by rfl) (hpl : (backTo pos (starEach es X.env)).any (·.1) = false := by rfl) :
    PE X (.Call (.Name x p) (e :: es) [] pos) (tCall sp [] E0 t) := by
  obtain ⟨f, fd, F, hm, kp, b, _⟩ := c.ex
  exact pe_call F (hr.mono hk) hg hm kp b .nil pass0 ha hdb he hpl
theorem pe_cst {v : V} (h : ∃ u, X.mg x = some u ∧ RelV v u) (hg : Gl X x) (hdb : (x == ("__debug__" : Str)) = false := by decide) : PE X (.Name x pos) (tC v) := by
  obtain ⟨u, hm, r⟩ := h
  exact pe_glob hg hm r hdb
end
def tMid (t : TE) : TE := fun σ H Q => ∃ M : VK, t σ H M ∧ ∀ v G, M v G → Q v G
theorem pe_mid {X : Cx} {e : Expr} {t : TE} (d : PE X e t) : PE X e (tMid t) := ⟨fun pins s σ H Q I ⟨M, m, k⟩ => thn (d.run pins s σ H M I m) fun u s1 ⟨v, G, I1, r1, m1⟩ => ⟨v, G, I1, r1, k v G m1⟩⟩
/-! ### heaps -/
theorem same_new {H : Hp} {p : Addr} {o : HO} (h : H p = none) : Same H (upd H p o) := fun b x e => by
  rw [upd_ne (ne_of_none e h)]
  exact e
/-- a pot of three ints stands at p -/
def Pot (H : Hp) (p : Addr) : Prop := ∃ x y z : Int, H p = some (.lst [.int x, .int y, .int z])
/-- from H to G the pot at p may have changed, the rest stands -/
structure Ladled (p : Addr) (H G : Hp) : Prop where
  pot : Pot G p
  keep : ∀ b o, H b = some o → b ≠ p → G b = some o
theorem Pot.some {H : Hp} {p : Addr} (h : Pot H p) : ∃ o, H p = some o := by
  obtain ⟨x, y, z, e⟩ := h
  exact ⟨_, e⟩
theorem Pot.same {H G : Hp} {p : Addr} (s : Same H G) (h : Pot H p) : Pot G p := by
  obtain ⟨x, y, z, e⟩ := h
  exact ⟨x, y, z, s _ _ e⟩
theorem Ladled.refl {H : Hp} {p : Addr} (h : Pot H p) : Ladled p H H := ⟨h, fun _ _ e _ => e⟩
theorem Ladled.trans {H G J : Hp} {p : Addr} (a : Ladled p H G) (b : Ladled p G J) : Ladled p H J := ⟨b.pot, fun c o e n => b.keep c o (a.keep c o e n) n⟩
theorem Ladled.same {H G J : Hp} {p : Addr} (a : Ladled p H G) (b : Same G J) : Ladled p H J := ⟨a.pot.same b, fun c o e n => b _ _ (a.keep c o e n)⟩
theorem Ladled.ofSame {H G : Hp} {p : Addr} (h : Pot H p) (b : Same H G) : Ladled p H G := ⟨h.same b, fun c o e _ => b _ _ e⟩
theorem Ladled.new {H G : Hp} {p q : Addr} {o : HO} (a : Ladled p H G) (h : G q = none) : Ladled p H (upd G q o) := a.same (same_new h)
theorem Ladled.free {H G : Hp} {p l : Addr} (a : Ladled p H G) (h : G l = none) : H l = none := by
  cases q : H l with
  | none => rfl
  | some o =>
    by_cases e : l = p
    · subst e
      obtain ⟨u, hu⟩ := a.pot.some
      rw [hu] at h
      cases h
    · rw [a.keep l o q e] at h
      cases h
/-- what is not known at first may change -/
theorem Ladled.mut {H G : Hp} {p q : Addr} {o : HO} (a : Ladled p H G) (h : H q = none) (n : q ≠ p) : Ladled p H (upd G q o) := by
  refine ⟨?_, fun b u e nb => ?_⟩
  · obtain ⟨x, y, z, e⟩ := a.pot
    exact ⟨x, y, z, by rw [upd_ne (Ne.symm n)]; exact e⟩
  · rw [upd_ne (ne_of_none e h)]
    exact a.keep b u e nb
end Gu
namespace Gu
open PySem PySem.Spec PyProof.Rows L2
section
variable {P : Program} {w : World} {K : PySem.W.Frag} {mg : Str → Option Value} {base : Heap}
/-! ### _law_ladle -/
def spLadle : Sp := fun vs H Q _ => ∃ (p : Addr) (m : Int), vs = [.ref p, .int m] ∧ Pot H p ∧ 0 < m ∧ m < 1000000 ∧ ∀ d G, 0 ≤ d → d < m → Ladled p H G → Q (.int d) G
theorem cal_ladle (B : Bi mg) (D : At K mg "_law_ladle" s_law_ladle ps_law_ladle) : Cal P w K mg base 1 "_law_ladle" ps_law_ladle spLadle := by
  refine D.cal sc_law_ladle (fun vs H Q E h => ?_) (fun f cdv A outer s H vs Q E hr h => ?_)
  · obtain ⟨p, m, rfl, _⟩ := h
    rfl
  · obtain ⟨p, m, rfl, ⟨x, y, z, hp⟩, m0, m1, k⟩ := h
    refine ⟨_, (pss_cons (ps_asg (pe_op op_add (pe_ix ix_list (pv 0) pe_int (fun _ _ => rfl)) pe_int) (pg_sub (pv 0) pe_int set_list))
      (pss_cons (ps_if (pt_cmpR op_gt (pe_ix ix_list (pv 0) pe_int (fun _ _ => rfl)) pe_int (nomark _)) (pss_cons (ps_asg (pe_callB call_divmod (by rfl) B.divmod (by decide +kernel) (pa_cons (pe_callTy call_int1 (by rfl) B.int (by decide +kernel) (pa_cons (pe_ix ix_list (pv 0) pe_int (fun _ _ => rfl)) pa_nil)) (pa_cons (pv 1) pa_nil))) (pg_tup rfl (pgs_cons (pg_sub (pv 0) pe_int set_list) (pgs_cons (pg_name (i := 2) sc_law_ladle.nd rfl (.inl rfl)) pgs_nil))))
      (pss_one (ps_ret (pv 2)))) pss_nil)
      (pss_cons (ps_asg (pe_op op_mod (pe_callTy call_int1 (by rfl) B.int (by decide +kernel) (pa_cons (pe_op op_add (pe_op op_add (pe_op op_mul (pe_ix ix_list (pv 0) pe_int (fun _ _ => rfl)) pe_int) (pe_op op_mul (pe_ix ix_list (pv 0) pe_int (fun _ _ => rfl)) pe_int)) (pe_op op_mul (pe_op op_fdiv (pe_ix ix_list (pv 0) pe_int (fun _ _ => rfl)) pe_int) pe_int)) pa_nil)) pe_int) (pg_sub (pv 0) pe_int set_list))
      (pss_one (ps_ret (pe_op op_mod (pe_callTy call_int1 (by rfl) B.int (by decide +kernel) (pa_cons (pe_op op_fdiv (pe_ix ix_list (pv 0) pe_int (fun _ _ => rfl)) pe_int) pa_nil)) (pv 1))))))), ?_⟩
    refine ⟨_, rfl, p, _, _, _, rfl, rfl, .inl (.inl hp), (rfl : atI [V.int x, V.int y, V.int z] 1 = some (V.int y)), _, _, rfl, rfl, _, rfl, p, _, _, 1, rfl, rfl, hp, rfl, ?_⟩
    have h1 : upd H p (.lst ([V.int x, V.int y, V.int z].set 1 (.int (y + 3)))) p = some (.lst [.int x, .int (y + 3), .int z]) := upd_same
    refine ⟨_, rfl, p, _, _, _, rfl, rfl, .inl (.inl h1), (rfl : atI [V.int x, V.int (y + 3), V.int z] 0 = some (V.int x)), _, _, rfl, rfl, _, rfl, ite2 (fun _ => ?_) (fun _ => ?_)⟩
    · refine ⟨_, rfl, p, _, _, _, rfl, rfl, .inl (.inl h1), (rfl : atI [V.int x, V.int (y + 3), V.int z] 0 = some (V.int x)), .inl ⟨_, rfl, _, rfl, _, _, rfl, ⟨m0, by omega⟩, fun q hq => ?_⟩⟩
      have npq : p ≠ q := ne_of_none h1 hq
      refine ⟨q, _, rfl, .inl (.inl upd_same), rfl, _, _, rfl, ⟨_, rfl, p, _, _, 0, rfl, rfl, (by rw [upd_ne npq]; exact h1), rfl, _, _, rfl, rfl, ?_⟩⟩
      refine ⟨_, rfl, ?_⟩
      refine k (x % m) _ (Int.emod_nonneg _ (by omega)) (Int.emod_lt_of_pos _ m0) ⟨⟨_, _, _, upd_same⟩, fun b o e n => ?_⟩
      have hb : upd H p (.lst ([V.int x, V.int y, V.int z].set 1 (.int (y + 3)))) b = some o := by rw [upd_ne n]; exact e
      rw [upd_ne n, upd_ne (ne_of_none hb hq), upd_ne n]
      exact e
    · refine ⟨_, rfl, p, _, _, _, rfl, rfl, .inl (.inl h1), (rfl : atI [V.int x, V.int (y + 3), V.int z] 2 = some (V.int z)), _, _, rfl, rfl, .inr ⟨by decide, by decide⟩, _, rfl, p, _, _, _, rfl, rfl, .inl (.inl h1), (rfl : atI [V.int x, V.int (y + 3), V.int z] 1 = some (V.int (y + 3))), _, _, rfl, rfl, .inr ⟨by decide, by decide⟩, _, _, rfl, rfl, ?_⟩
      refine ⟨_, rfl, p, _, _, _, rfl, rfl, .inl (.inl h1), (rfl : atI [V.int x, V.int (y + 3), V.int z] 2 = some (V.int z)), _, _, rfl, rfl, ⟨by decide, by decide⟩, _, _, rfl, rfl, .inr ⟨by decide, by decide⟩, _, _, rfl, rfl, .inl ⟨_, rfl, _, _, rfl, rfl, (by decide : (0 : Int) < 1999999889), ?_⟩⟩
      refine ⟨_, rfl, p, _, _, 2, rfl, rfl, h1, rfl, ?_⟩
      refine ⟨_, rfl, p, _, _, _, rfl, rfl, .inl (.inl upd_same), rfl, _, _, rfl, rfl, ⟨by decide, by decide⟩, .inl ⟨_, rfl, _, rfl, _, _, rfl, rfl, m0, ?_⟩⟩
      refine k _ _ (Int.emod_nonneg _ (by omega)) (Int.emod_lt_of_pos _ m0) ⟨⟨_, _, _, upd_same⟩, fun b o e n => ?_⟩
      rw [upd_ne n, upd_ne n]
      exact e
/-! ### _law_one_of: of a list or of a text -/
def spOneOf (K : PySem.W.Frag) : Sp := fun vs H Q _ => ∃ (p : Addr), Pot H p ∧
  ((∃ (l : Addr) (xs : List V), vs = [.ref p, .ref l] ∧ SqL K H l xs ∧ l ≠ p ∧ 0 < xs.length ∧ xs.length < 1000 ∧ ∀ v G, v ∈ xs → Ladled p H G → Q v G) ∨
   (∃ (z : Str), vs = [.ref p, .str z] ∧ 0 < z.cps.toList.length ∧ z.cps.toList.length < 1000 ∧ ∀ c G, c ∈ z.cps.toList → Ladled p H G → Q (.str ⟨#[c]⟩) G))
theorem Ladled.seq {K : PySem.W.Frag} {H G : Hp} {p l : Addr} {xs : List V} (a : Ladled p H G) (n : l ≠ p) (h : SqL K H l xs) : SqL K G l xs := by
  rcases h with (h | ⟨o, h⟩) | h
  · exact .inl (.inl (a.keep _ _ h n))
  · exact .inl (.inr ⟨o, a.keep _ _ h n⟩)
  · exact .inr h
theorem at_in {α : Type} {xs : List α} {d : Int} (h0 : 0 ≤ d) (h1 : d < (xs.length : Int)) : ∃ v, v ∈ xs ∧ atI xs d = some v := by
  obtain ⟨j, rfl⟩ := Int.eq_ofNat_of_zero_le h0
  have hj : j < xs.length := by omega
  exact ⟨xs[j], List.getElem_mem hj, atI_nat (List.getElem?_eq_getElem hj)⟩
theorem cal_oneOf (B : Bi mg) (D : At K mg "_law_one_of" s_law_one_of ps_law_one_of) (C_law_ladle : Cal P w K mg base 1 "_law_ladle" ps_law_ladle spLadle) : Cal P w K mg base 2 "_law_one_of" ps_law_one_of (spOneOf K) := by
  refine D.cal sc_law_one_of (fun vs H Q E h => ?_) (fun f cdv A outer s H vs Q E hr h => ?_)
  · obtain ⟨p, _, ⟨l, xs, rfl, _⟩ | ⟨z, rfl, _⟩⟩ := h
    · rfl
    · rfl
  · refine ⟨_, (pss_one (ps_ret (pe_ix ix_seq (pv 1) (pe_own C_law_ladle hr (by decide) (by rfl) (pa_cons (pv 0) (pa_cons (pe_callB call_len (by rfl) B.len (by decide +kernel) (pa_cons (pv 1) pa_nil)) pa_nil))) (fun _ _ => rfl)))), ?_⟩
    obtain ⟨p, hp, ⟨l, xs, rfl, hl, np, l0, l1, k⟩ | ⟨z, rfl, l0, l1, k⟩⟩ := h
    · refine ⟨_, rfl, _, rfl, _, rfl, _, _, rfl, .inl ⟨_, hl, rfl⟩, p, _, rfl, hp, by omega, by omega, fun d G d0 d1 L => ?_⟩
      obtain ⟨v, hv, ha⟩ := at_in (xs := xs) d0 d1
      exact .inl ⟨l, xs, d, v, rfl, rfl, L.seq np hl, ha, k v G hv L⟩
    · have ez : z.length = z.cps.toList.length := rfl
      refine ⟨_, rfl, _, rfl, _, rfl, _, _, rfl, ⟨Nat.le_of_lt (small1000 (by omega)), rfl⟩, p, _, rfl, hp, by omega, by omega, fun d G d0 d1 L => ?_⟩
      obtain ⟨c, hc, ha⟩ := at_in (xs := z.cps.toList) d0 (by omega)
      exact .inr (.inr ⟨z, d, c, rfl, rfl, Nat.le_of_lt (small1000 (by omega)), ha, k c G hc L⟩)
/-! ### _law_pot -/
def spPot (K : PySem.W.Frag) : Sp := fun vs H Q _ => ∃ (a : Addr) (k : Nat) (ns : List Int), vs = [.ref a, .int (k : Int)] ∧ SqL K H a (ns.map V.int) ∧ k < 1000 ∧ ∀ p G, H p = none → Pot G p → Same H G → Q (.ref p) G
theorem cal_pot (B : Bi mg) (D : At K mg "_law_pot" s_law_pot ps_law_pot) : Cal P w K mg base 1 "_law_pot" ps_law_pot (spPot K) := by
  refine D.cal sc_law_pot (fun vs H Q E h => ?_) (fun f cdv A outer s H vs Q E hr h => ?_)
  · obtain ⟨a, k, ns, rfl, _⟩ := h
    rfl
  · obtain ⟨a, k, ns, rfl, hS, hk, q⟩ := h
    refine ⟨_, (pss_cons (ps_set (i := 2) sc_law_pot.nd rfl (.inl rfl) (pe_mid (pe_ifExp (pt_cmpR op_lt (pv 1) (pe_callB call_len_seq (by rfl) B.len (by decide +kernel) (pa_cons (pv 0) pa_nil)) (nomark _)) (pe_callTy call_int1 (by rfl) B.int (by decide +kernel) (pa_cons (pe_ix ix_list (pv 0) (pv 1) (fun _ _ => rfl)) pa_nil)) (pe_op op_add (pe_op op_mul pe_int (pv 1)) pe_int))))
      (pss_cons (ps_set (i := 3) sc_law_pot.nd rfl (.inl rfl) (pe_op op_add pe_int (pe_op op_mul pe_int (pv 1))))
      (pss_cons (ps_for PassesOwn.never rfl (pi_list (pe_slice sl_list (pv 0) po_none (po_some pe_int))) (pg_name (i := 4) sc_law_pot.nd rfl (.inl rfl))
      (pss_one (ps_set (i := 3) sc_law_pot.nd rfl (.inl rfl) (pe_op op_mod (pe_callTy call_int1 (by rfl) B.int (by decide +kernel) (pa_cons (pe_op op_add (pe_op op_mul (pv 3) pe_int) (pe_op op_mod (pe_callTy call_int1 (by rfl) B.int (by decide +kernel) (pa_cons (pv 4) pa_nil)) pe_int)) pa_nil)) pe_int))))
      (pss_one (ps_ret (pe_lst (pa_cons (pe_mid (pe_ifExp (PW.pt (pw_or (pt_cmpR op_lt (pv 2) pe_int (nomark _)) (pw_or1 (pt_cmpR op_ge (pv 2) (pe_op op_pow pe_int pe_int) (nomark _))))) (pe_callB call_abs (by rfl) B.abs (by decide +kernel) (pa_cons (pv 2) pa_nil)) pe_int)) (pa_cons pe_int (pa_cons (pe_op op_mod (pe_callTy call_int1 (by rfl) B.int (by decide +kernel) (pa_cons (pe_op op_add (pe_op op_mul (pv 3) pe_int) (pe_op op_mod (pv 2) pe_int)) pa_nil)) pe_int) pa_nil))))))))), ?_⟩
    refine ⟨fun v G => (∃ i : Int, v = .int i) ∧ G = H, ?_, ?_⟩
    · refine ⟨_, rfl, _, rfl, a, _, rfl, .inl hS, _, _, rfl, rfl, _, rfl, ite2 (fun e => ?_) (fun _ => ?_)⟩
      · have hlt := of_decide_eq_true e
        have hj : k < ns.length := by
          rw [List.length_map] at hlt
          omega
        refine ⟨_, rfl, _, rfl, a, _, _, _, rfl, rfl, hS, atI_nat (j := k) (v := .int ns[k]) (by rw [List.getElem?_map, List.getElem?_eq_getElem hj]; rfl), .inl ⟨_, rfl, ⟨_, rfl⟩, rfl⟩⟩
      · refine ⟨_, rfl, _, _, rfl, rfl, .inl ⟨by decide, by decide⟩, _, _, rfl, rfl, ⟨_, rfl⟩, rfl⟩
    · rintro _ H0 ⟨⟨own, rfl⟩, eH⟩
      subst eH
      refine ⟨_, rfl, _, _, rfl, rfl, .inl ⟨by decide, by decide⟩, _, _, rfl, rfl, ?_⟩
      refine ⟨_, rfl, 14, rfl, a, _, rfl, hS, fun c nc => ?_⟩
      have sc : Same H0 (upd H0 c (.lst (cutV (ns.map V.int) none (some 14)))) := same_new nc
      have hC : cutV (ns.map V.int) none (some 14) = (ns.take 14).map V.int := by
        unfold cutV
        rw [HT.sIx_none, show HT.sIx (ns.map V.int).length (ns.map V.int).length (some 14) = min 14 (ns.map V.int).length from HT.sIx_nat _ _ 14, List.drop_zero, Nat.sub_zero, List.map_take, List.take_eq_take_iff]
        omega
      refine ⟨c, rfl, ⟨_, .inl (.inl upd_same)⟩, for_list (K := K) (a := c) (xs := (ns.take 14).map V.int) (fun i σ J => ∃ (mx : Int) (u : Option V), σ = [some (.ref a), some (.int (k : Int)), some (.int own), some (.int mx), u] ∧ Same H0 J ∧ J c = some (.lst ((ns.take 14).map V.int)))
        ⟨_, none, rfl, sc, by rw [upd_same, hC]⟩ (fun i σ J _ ⟨_, _, _, _, e⟩ => .inl (.inl e)) ?_ ?_⟩
      · rintro i v σ J hi ⟨mx, u, rfl, sJ, eJ⟩
        obtain ⟨t, rfl⟩ : ∃ t, v = V.int t := by
          rw [List.getElem?_map] at hi
          cases e : (ns.take 14)[i]? with
          | none =>
            rw [e] at hi
            cases hi
          | some t =>
            rw [e] at hi
            exact ⟨t, (Option.some.inj hi).symm⟩
        refine ⟨_, rfl, _, _, rfl, rfl, .inr ⟨by decide, by decide⟩, _, rfl, .inl ⟨_, rfl, _, _, rfl, rfl, (by decide : (0 : Int) < 1999999889), _, _, rfl, rfl, .inl ⟨_, rfl, _, _, rfl, rfl, (by decide : (0 : Int) < 1999999889), ?_⟩⟩⟩
        exact ⟨_, _, rfl, sJ, eJ⟩
      · rintro σ J ⟨mx, u, rfl, sJ, eJ⟩
        refine ⟨fun v J1 => (∃ i : Int, v = .int i) ∧ J1 = J, ?_, ?_⟩
        · refine ⟨_, rfl, _, _, rfl, rfl, _, rfl, ite2 (fun _ => ?_) (fun _ => ?_)⟩
          · refine iteT ⟨_, rfl, _, rfl, ⟨_, rfl⟩, rfl⟩
          · refine ⟨_, rfl, _, _, rfl, rfl, ⟨by decide, by decide, by decide⟩, _, _, rfl, rfl, _, rfl, ite2 (fun _ => ⟨_, rfl, _, rfl, ⟨_, rfl⟩, rfl⟩) (fun _ => ⟨⟨_, rfl⟩, rfl⟩)⟩
        · rintro _ _ ⟨⟨x, rfl⟩, rfl⟩
          refine ⟨_, rfl, _, _, rfl, rfl, .inr ⟨by decide, by decide⟩, _, rfl, _, _, rfl, rfl, (by decide : (0 : Int) < 1999999889), _, _, rfl, rfl, .inl ⟨_, rfl, _, _, rfl, rfl, (by decide : (0 : Int) < 1999999889), ?_⟩⟩
          refine ⟨by show 3 ≤ sizeLine; decide, fun p np => ?_⟩
          exact q p _ (sJ.free np) ⟨_, _, _, upd_same⟩ (sJ.trans (same_new np))
end
end Gu
namespace Gu
open PySem PySem.Spec PyProof.Rows L2
/-! ### _law_told -/
def marks : List Str := ["", "~", "..", "...", "a.b", "~"]
/-- four things as they are drawn -/
structure Four (l h t : Int) (z : Str) : Prop where
  l0 : 0 ≤ l
  l1 : l ≤ 40
  h0 : 0 ≤ h
  h1 : h ≤ 40
  t0 : 0 ≤ t
  t1 : t ≤ 40
  z : z ∈ marks
theorem marks_len {z : Str} (h : z ∈ marks) : z.cps.toList.length ≤ 3 := by
  have a : ∀ y ∈ marks, y.cps.toList.length ≤ 3 := by decide +kernel
  exact a z h
end Gu
namespace Gu
open PySem PySem.Spec PyProof.Rows L2
section
variable {P : Program} {w : World} {K : PySem.W.Frag} {mg : Str → Option Value} {base : Heap}
def spTold : Sp := fun vs H Q _ => ∃ (p : Addr), vs = [.ref p] ∧ Pot H p ∧ ∀ (q : Addr) (G : Hp) (l h t : Int) (z : Str), H q = none → G q = some (.tup [.int l, .int h, .int t, .str z]) → Four l h t z → Ladled p H G → Q (.ref q) G
theorem cal_told (B : Bi mg) (D : At K mg "_law_told" s_law_told ps_law_told) (C_law_ladle : Cal P w K mg base 1 "_law_ladle" ps_law_ladle spLadle) (C_law_one_of : Cal P w K mg base 2 "_law_one_of" ps_law_one_of (spOneOf K)) : Cal P w K mg base 3 "_law_told" ps_law_told spTold := by
  refine D.cal sc_law_told (fun vs H Q E h => ?_) (fun f cdv A outer s H vs Q E hr h => ?_)
  · obtain ⟨p, rfl, _⟩ := h
    rfl
  · obtain ⟨p, rfl, hp, k⟩ := h
    refine ⟨_, (pss_cons (ps_set (i := 1) sc_law_told.nd rfl (.inl rfl) (pe_own C_law_one_of hr (by decide) (by rfl) (pa_cons (pv 0) (pa_cons (pe_lst (pa_cons pe_str (pa_cons pe_str (pa_cons pe_str (pa_cons pe_str (pa_cons pe_str (pa_cons pe_str pa_nil))))))) pa_nil))))
      (pss_cons (ps_par (i := 2) (j := 3) (by rfl) sc_law_told.nd rfl rfl (by decide) rfl rfl (pa_cons (pe_own C_law_ladle hr (by decide) (by rfl) (pa_cons (pv 0) (pa_cons pe_int pa_nil))) (pa_cons (pe_own C_law_one_of hr (by decide) (by rfl) (pa_cons (pv 0) (pa_cons (pe_lst (pa_cons pe_int (pa_cons pe_int (pa_cons pe_int (pa_cons pe_int pa_nil))))) pa_nil))) pa_nil)) (by rfl))
      (pss_cons (ps_par (i := 4) (j := 5) (by rfl) sc_law_told.nd rfl rfl (by decide) rfl rfl (pa_cons (pe_own C_law_ladle hr (by decide) (by rfl) (pa_cons (pv 0) (pa_cons (pv 3) pa_nil))) (pa_cons (pe_own C_law_ladle hr (by decide) (by rfl) (pa_cons (pv 0) (pa_cons (pv 3) pa_nil))) pa_nil)) (by rfl))
      (pss_cons (ps_if (pt_cmpR op_eq (pv 2) pe_int (nomark _)) (pss_one (ps_ret (pe_tup (pa_cons (pe_callB (call_min2 rfl) (by rfl) B.min (by decide +kernel) (pa_cons pe_int (pa_cons (pe_op op_add (pe_op op_add (pv 4) (pv 5)) (pe_callB call_len (by rfl) B.len (by decide +kernel) (pa_cons (pv 1) pa_nil))) pa_nil))) (pa_cons (pv 4) (pa_cons (pv 5) (pa_cons (pv 1) pa_nil))))))) pss_nil)
      (pss_cons (ps_if (pt_cmpR op_eq (pv 2) pe_int (nomark _)) (pss_one (ps_ret (pe_tup (pa_cons (pe_own C_law_ladle hr (by decide) (by rfl) (pa_cons (pv 0) (pa_cons (pv 3) pa_nil))) (pa_cons (pv 4) (pa_cons pe_int (pa_cons (pv 1) pa_nil))))))) pss_nil)
      (pss_one (ps_ret (pe_tup (pa_cons (pe_own C_law_ladle hr (by decide) (by rfl) (pa_cons (pv 0) (pa_cons (pv 3) pa_nil))) (pa_cons (pv 4) (pa_cons (pv 5) (pa_cons (pv 1) pa_nil)))))))))))), ?_⟩
    -- the sign
    refine ⟨_, rfl, by show 6 ≤ sizeLine; decide, fun q0 n0 => ?_⟩
    have hp0 : Pot (upd H q0 (.lst [.str "", .str "~", .str "..", .str "...", .str "a.b", .str "~"])) p := hp.same (same_new n0)
    have L0 : Ladled p H (upd H q0 (.lst [.str "", .str "~", .str "..", .str "...", .str "a.b", .str "~"])) := .ofSame hp (same_new n0)
    have np0 : q0 ≠ p := fun e => by
      subst e
      obtain ⟨o, ho⟩ := hp.some
      rw [n0] at ho
      cases ho
    refine ⟨p, hp0, .inl ⟨q0, _, rfl, .inl (.inl upd_same), np0, by decide, by decide, fun v G1 hv L1 => ?_⟩⟩
    obtain ⟨z, hz, rfl⟩ : ∃ z, z ∈ marks ∧ v = .str z := by
      have e : ([.str "", .str "~", .str "..", .str "...", .str "a.b", .str "~"] : List V) = marks.map V.str := rfl
      rw [e] at hv
      obtain ⟨z, h1, h2⟩ := List.mem_map.mp hv
      exact ⟨z, h1, h2.symm⟩
    have M1 : Ladled p H G1 := L0.trans L1
    -- the way, the bound
    refine ⟨_, rfl, p, 4, rfl, M1.pot, by decide, by decide, fun way G2 w0 w1 L2 => ?_⟩
    have M2 : Ladled p H G2 := M1.trans L2
    refine ⟨_, rfl, by show 4 ≤ sizeLine; decide, fun q1 n1 => ?_⟩
    have np1 : q1 ≠ p := fun e => by
      subst e
      obtain ⟨o, ho⟩ := M2.pot.some
      rw [n1] at ho
      cases ho
    refine ⟨p, M2.pot.same (same_new n1), .inl ⟨q1, _, rfl, .inl (.inl upd_same), np1, by decide, by decide, fun v G3 hv L3 => ?_⟩⟩
    obtain ⟨b, b0, b1, rfl⟩ : ∃ b : Int, 0 < b ∧ b ≤ 41 ∧ v = .int b := by
      rcases List.mem_cons.mp hv with rfl | hv
      · exact ⟨3, by decide, by decide, rfl⟩
      rcases List.mem_cons.mp hv with rfl | hv
      · exact ⟨6, by decide, by decide, rfl⟩
      rcases List.mem_cons.mp hv with rfl | hv
      · exact ⟨12, by decide, by decide, rfl⟩
      rcases List.mem_cons.mp hv with rfl | hv
      · exact ⟨41, by decide, by decide, rfl⟩
      cases hv
    have M3 : Ladled p H G3 := (M2.new n1).trans L3
    refine ⟨_, _, rfl, ?_⟩
    -- low, high
    refine ⟨_, rfl, _, rfl, p, b, rfl, M3.pot, b0, by omega, fun low G4 x0 x1 L4 => ?_⟩
    have M4 : Ladled p H G4 := M3.trans L4
    refine ⟨_, rfl, _, rfl, p, b, rfl, M4.pot, b0, by omega, fun high G5 y0 y1 L5 => ?_⟩
    have M5 : Ladled p H G5 := M4.trans L5
    refine ⟨_, _, rfl, ?_⟩
    have zl := marks_len hz
    have ez : z.length = z.cps.toList.length := rfl
    -- if way == 0
    refine ⟨_, rfl, rfl, _, rfl, ite2 (fun _ => ?_) (fun _ => ?_)⟩
    · refine ⟨_, rfl, _, rfl, _, _, rfl, rfl, _, rfl, _, _, rfl, ⟨Nat.le_of_lt (small1000 (by omega)), rfl⟩, _, _, rfl, rfl, _, _, rfl, _, rfl, _, rfl, _, rfl, by show 4 ≤ sizeLine; decide, fun q nq => ?_⟩
      refine k q _ _ _ _ _ (M5.free nq) upd_same ⟨?_, ?_, x0, by omega, y0, by omega, hz⟩ (M5.new nq)
      · split <;> omega
      · split <;> omega
    -- if way == 1
    refine ⟨_, rfl, rfl, _, rfl, ite2 (fun _ => ?_) (fun _ => ?_)⟩
    · refine ⟨_, rfl, _, rfl, p, b, rfl, M5.pot, b0, by omega, fun lim G6 u0 u1 L6 => ?_⟩
      have M6 : Ladled p H G6 := M5.trans L6
      refine ⟨_, rfl, _, rfl, by show 4 ≤ sizeLine; decide, fun q nq => ?_⟩
      exact k q _ _ _ _ _ (M6.free nq) upd_same ⟨u0, by omega, x0, by omega, by decide, by decide, hz⟩ (M6.new nq)
    · refine ⟨_, rfl, _, rfl, p, b, rfl, M5.pot, b0, by omega, fun lim G6 u0 u1 L6 => ?_⟩
      have M6 : Ladled p H G6 := M5.trans L6
      refine ⟨_, rfl, _, rfl, _, rfl, by show 4 ≤ sizeLine; decide, fun q nq => ?_⟩
      exact k q _ _ _ _ _ (M6.free nq) upd_same ⟨u0, by omega, x0, by omega, y0, by omega, hz⟩ (M6.new nq)
end
end Gu
namespace Gu
open PySem PySem.Spec PyProof.Rows L2
/-! ### _law_tolds -/
structure Rec where
  l : Int
  h : Int
  t : Int
  z : Str
def Rec.vs (r : Rec) : List V := [.int r.l, .int r.h, .int r.t, .str r.z]
def Rec.ok (r : Rec) : Prop := Four r.l r.h r.t r.z
theorem Pot.ne {H : Hp} {p q : Addr} (h : Pot H p) (n : H q = none) : q ≠ p := fun e => by
  subst e
  obtain ⟨o, ho⟩ := h.some
  rw [n] at ho
  cases ho
theorem yes {σ : L2.St} {H : Hp} {Q : Bool → Hp → Prop} (h : Q true H) : tYes σ H Q := h
section
variable {P : Program} {w : World} {K : PySem.W.Frag} {mg : Str → Option Value} {base : Heap}
/-- told tuples: a list of them at D -/
structure ToldsAt (G : Hp) (D : Addr) (ps : List (Addr × Rec)) : Prop where
  ls : G D = some (.lst (ps.map fun q => V.ref q.1))
  tp : ∀ q ∈ ps, G q.1 = some (.tup q.2.vs) ∧ q.2.ok
def spTolds : Sp := fun vs H Q _ => ∃ (p : Addr), vs = [.ref p] ∧ Pot H p ∧ ∀ (D : Addr) (G : Hp) (ps : List (Addr × Rec)), H D = none → ToldsAt G D ps → (∀ q ∈ ps, H q.1 = none) → 1 ≤ ps.length → ps.length ≤ 4 → Ladled p H G → Q (.ref D) G
theorem cal_tolds (B : Bi mg) (D : At K mg "_law_tolds" s_law_tolds ps_law_tolds) (C_law_told : Cal P w K mg base 3 "_law_told" ps_law_told spTold) (C_law_one_of : Cal P w K mg base 2 "_law_one_of" ps_law_one_of (spOneOf K)) : Cal P w K mg base 4 "_law_tolds" ps_law_tolds spTolds := by
  refine D.cal sc_law_tolds (fun vs H Q E h => ?_) (fun f cdv A outer s H vs Q E hr h => ?_)
  · obtain ⟨p, rfl, _⟩ := h
    rfl
  · obtain ⟨p, rfl, hp, k⟩ := h
    refine ⟨_, (pss_one (ps_ret (pe_lc (own := [("_law_k", 1)]) (by rfl) sc_law_tolds.nd (pi_range1 (by rfl) B.range (pa_cons (pe_own C_law_one_of hr (by decide) (by rfl) (pa_cons (pv 0) (pa_cons (pe_lst (pa_cons pe_int (pa_cons pe_int (pa_cons pe_int (pa_cons pe_int (pa_cons pe_int (pa_cons pe_int pa_nil))))))) pa_nil))) pa_nil)) (blkOk_by (own := [("_law_k", 1)]) (N := ["_law_pot_here", "_law_k"]) (sc := defScope s_law_tolds) (by decide +kernel)) (fun _ _ _ _ _ => pg_name (i := 1) sc_law_tolds.nd rfl (.inl rfl)) (fun _ _ _ _ _ => pts_nil) (fun _ _ _ _ _ => (pe_own C_law_told hr (by decide) (by rfl) (pa_cons (pv 0) pa_nil)))))), ?_⟩
    refine ⟨_, rfl, by show 6 ≤ sizeLine; decide, fun q0 n0 => ?_⟩
    have L0 : Ladled p H (upd H q0 (.lst [.int 1, .int 1, .int 2, .int 2, .int 3, .int 4])) := .ofSame hp (same_new n0)
    refine ⟨p, L0.pot, .inl ⟨q0, _, rfl, .inl (.inl upd_same), hp.ne n0, by decide, by decide, fun v G1 hv L1 => ?_⟩⟩
    obtain ⟨n, e0, e1, rfl⟩ : ∃ n : Int, 1 ≤ n ∧ n ≤ 4 ∧ v = .int n := by
      have a : ∀ v ∈ ([.int 1, .int 1, .int 2, .int 2, .int 3, .int 4] : List V), ∃ n : Int, 1 ≤ n ∧ n ≤ 4 ∧ v = .int n := by
        intro v hv
        simp only [List.mem_cons, List.not_mem_nil, or_false] at hv
        rcases hv with rfl | rfl | rfl | rfl | rfl | rfl <;> exact ⟨_, by decide, by decide, rfl⟩
      exact a v hv
    have M1 : Ladled p H G1 := L0.trans L1
    refine ⟨n, rfl, by omega, by omega, fun D nD => lc_range (lo := 0) (n := n.toNat) (fun i J => ∃ ps : List (Addr × Rec), ps.length = i ∧ ToldsAt J D ps ∧ (∀ q ∈ ps, H q.1 = none) ∧ Ladled p H J)
      ⟨[], rfl, ⟨upd_same, (fun q hq => by cases hq)⟩, (fun q hq => by cases hq), M1.mut (M1.free nD) (M1.pot.ne nD)⟩ ?_ ?_⟩
    · rintro i J hi ⟨ps, rfl, T, nw, M⟩
      have hD : H D = none := M1.free nD
      refine ⟨rfl, yes (iteT ?_)⟩
      refine ⟨_, rfl, p, rfl, M.pot, fun q G l h t z nq eq ok L => ?_⟩
      have GD : G D = some (.lst (ps.map fun q => V.ref q.1)) := L.keep _ _ T.ls (hp.ne hD)
      refine ⟨_, GD, small1000 (by rw [List.length_map]; omega), ps ++ [(q, ⟨l, h, t, z⟩)], by rw [List.length_append]; rfl, ⟨?_, fun r hr => ?_⟩, fun r hr => ?_, (M.trans L).mut hD (hp.ne hD)⟩
      · rw [upd_same, List.map_append]
        rfl
      · rcases List.mem_append.mp hr with hr | hr
        · obtain ⟨g1, g2⟩ := T.tp r hr
          have ne1 : r.1 ≠ D := ne_of g1 T.ls (by intro z; cases z)
          have ne2 : r.1 ≠ p := hp.ne (nw r hr)
          exact ⟨by rw [upd_ne ne1]; exact L.keep _ _ g1 ne2, g2⟩
        · rw [List.mem_singleton.mp hr]
          have ne1 : q ≠ D := ne_of eq GD (by intro z; cases z)
          exact ⟨by rw [upd_ne ne1]; exact eq, ok⟩
      · rcases List.mem_append.mp hr with hr | hr
        · exact nw r hr
        · rw [List.mem_singleton.mp hr]
          exact M.free nq
    · rintro J ⟨ps, e, T, nw, M⟩
      exact k D J ps (M1.free nD) T nw (by omega) (by omega) M
end
end Gu
namespace Gu
open PySem PySem.Spec PyProof.Rows L2
/-! ### is_integer, is_text -/
/-- isinstance(x, T) is b -/
def Isa (K : PySem.W.Frag) (H : Hp) (x : V) (T : String) (b : Bool) : Prop := ∃ t, TyX K H x t ∧ PySem.W.kitOne K t (.type T) = some b
def signs : Str := ".0123456789abcdefghijklmnopqrstuvwxyz~"
def isTxt (z : Str) (m : Int) : Bool := decide ((z.length : Int) ≤ m) && z.cps.toList.all fun c => decide (c ∈ signs.cps.toList)
section
variable {P : Program} {w : World} {K : PySem.W.Frag} {mg : Str → Option Value} {base : Heap}
theorem Isa.int_int {H : Hp} {i : Int} : Isa K H (.int i) "int" true := ⟨_, .base (.int i), kit_ty (by decide +kernel)⟩
theorem Isa.int_bool {H : Hp} {i : Int} : Isa K H (.int i) "bool" false := ⟨_, .base (.int i), kit_ty (by decide +kernel)⟩
theorem Isa.str_str {H : Hp} {z : Str} : Isa K H (.str z) "str" true := ⟨_, .base (.str z), kit_ty (by decide +kernel)⟩
def spIsInteger (K : PySem.W.Frag) : Sp := fun vs H Q _ => ∃ (x : V) (a b : Int), vs = [x, .int a, .int b] ∧
  ((∃ v, x = .int v ∧ Q (.bl (decide (a ≤ v ∧ v ≤ b))) H) ∨ (Isa K H x "int" false ∧ Q (.bl false) H) ∨ (Isa K H x "int" true ∧ Isa K H x "bool" true ∧ Q (.bl false) H))
theorem cal_isInteger (B : Bi mg) (D : At K mg "is_integer" s_is_integer ps_is_integer) : Cal P w K mg base 1 "is_integer" ps_is_integer (spIsInteger K) := by
  refine D.cal sc_is_integer (fun vs H Q E h => ?_) (fun f cdv A outer s H vs Q E hr h => ?_)
  · obtain ⟨x, a, b, rfl, _⟩ := h
    rfl
  · obtain ⟨x, a, b, rfl, h⟩ := h
    refine ⟨_, (pss_cons (ps_if (PW.pt (pw_or (pt_not (pt_val (pe_callB call_isi (by rfl) B.isinstance (by decide +kernel) (pa_cons (pv 0) (pa_cons (pe_bltn (v := .ty "int") (by rfl) B.int (by decide +kernel) rfl) pa_nil))))) (pw_or1 (pt_val (pe_callB call_isi (by rfl) B.isinstance (by decide +kernel) (pa_cons (pv 0) (pa_cons (pe_bltn (v := .ty "bool") (by rfl) B.bool (by decide +kernel) rfl) pa_nil))))))) (pss_one (ps_ret pe_bl)) pss_nil)
      (pss_one (ps_ret (pe_chain op_le op_le (pv 1) (pv 0) (pv 2))))), ?_⟩
    rcases h with ⟨v, rfl, k⟩ | ⟨⟨t, i1, i2⟩, k⟩ | ⟨⟨t, i1, i2⟩, ⟨t', j1, j2⟩, k⟩
    · obtain ⟨t, i1, i2⟩ := Isa.int_int (K := K) (H := H) (i := v)
      obtain ⟨t', j1, j2⟩ := Isa.int_bool (K := K) (H := H) (i := v)
      refine ⟨_, rfl, _, _, t, _, true, rfl, .ty _, i1, i2, _, rfl, iteF ⟨_, rfl, _, _, t', _, false, rfl, .ty _, j1, j2, _, rfl, iteF ?_⟩⟩
      refine ⟨_, rfl, _, rfl, _, _, rfl, rfl, _, rfl, ?_⟩
      by_cases e1 : a ≤ v
      · rw [decide_eq_true e1]
        refine iteT ⟨_, rfl, _, _, rfl, rfl, ?_⟩
        have e : decide (a ≤ v ∧ v ≤ b) = decide (v ≤ b) := by simp only [e1, true_and]
        rw [e] at k
        exact k
      · rw [decide_eq_false e1]
        refine iteF ?_
        have e : decide (a ≤ v ∧ v ≤ b) = false := by simp only [e1, false_and, decide_false]
        rw [e] at k
        exact k
    · refine ⟨_, rfl, _, _, t, _, false, rfl, .ty _, i1, i2, _, rfl, iteT (iteT k)⟩
    · refine ⟨_, rfl, _, _, t, _, true, rfl, .ty _, i1, i2, _, rfl, iteF ⟨_, rfl, _, _, t', _, true, rfl, .ty _, j1, j2, _, rfl, iteT k⟩⟩
def spIsText (K : PySem.W.Frag) : Sp := fun vs H Q _ => ∃ (x : V) (m : Int), vs = [x, .int m] ∧
  ((∃ z : Str, x = .str z ∧ z.length ≤ 1000 ∧ ∀ G, Same H G → Q (.bl (isTxt z m)) G) ∨ (Isa K H x "str" false ∧ Q (.bl false) H))
theorem cal_isText (B : Bi mg) (D : At K mg "is_text" s_is_text ps_is_text) : Cal P w K mg base 1 "is_text" ps_is_text (spIsText K) := by
  refine D.cal sc_is_text (fun vs H Q E h => ?_) (fun f cdv A outer s H vs Q E hr h => ?_)
  · obtain ⟨x, m, rfl, _⟩ := h
    rfl
  · obtain ⟨x, m, rfl, h⟩ := h
    refine ⟨_, (pss_cons (ps_if (PW.pt (pw_or (pt_not (pt_val (pe_callB call_isi (by rfl) B.isinstance (by decide +kernel) (pa_cons (pv 0) (pa_cons (pe_bltn (v := .ty "str") (by rfl) B.str (by decide +kernel) rfl) pa_nil))))) (pw_or1 (pt_cmpR op_gt (pe_callB call_len (by rfl) B.len (by decide +kernel) (pa_cons (pv 0) pa_nil)) (pv 1) (nomark _))))) (pss_one (ps_ret pe_bl)) pss_nil)
      (pss_one (ps_ret (pe_callB (cr_all rfl) (by rfl) B.all (by decide +kernel) (pa_cons (pe_lc (own := [("character", 2)]) (by rfl) sc_is_text.nd (pi_str (pv 0)) (blkOk_by (own := [("character", 2)]) (N := ["value", "most", "character"]) (sc := defScope s_is_text) (by decide +kernel)) (fun _ _ _ _ _ => pg_name (i := 2) sc_is_text.nd rfl (.inl rfl)) (fun _ _ _ _ _ => pts_nil) (fun _ _ _ _ _ => (pe_cmpR op_in_sign (pv 2) (pe_cst B.SIGNS (by rfl)) (by rfl)))) pa_nil))))), ?_⟩
    rcases h with ⟨z, rfl, zl, k⟩ | ⟨⟨t, i1, i2⟩, k⟩
    · obtain ⟨t, i1, i2⟩ := Isa.str_str (K := K) (H := H) (z := z)
      refine ⟨_, rfl, _, _, t, _, true, rfl, .ty _, i1, i2, _, rfl, iteF ⟨_, rfl, _, _, rfl, ⟨Nat.le_of_lt (small1000 zl), rfl⟩, _, rfl, _, _, rfl, rfl, _, rfl, ite2 (fun e => ?_) (fun e => ?_)⟩⟩
      · have e1 : ¬ (z.length : Int) ≤ m := by
          have := of_decide_eq_true e
          omega
        have e2 : isTxt z m = false := by
          unfold isTxt
          rw [decide_eq_false e1, Bool.false_and]
        rw [e2] at k
        exact k H (Same.refl H)
      · have e1 : (z.length : Int) ≤ m := by
          have h2 : ¬ m < (z.length : Int) := fun h3 => e (decide_eq_true h3)
          omega
        refine ⟨_, rfl, z, rfl, fun D nD => lc_it walk_str (fun i J => Same H J ∧ J D = some (.lst (((z.cps.toList.take i).map fun c => decide (c ∈ signs.cps.toList)).map V.bl)))
          ⟨same_new nD, by rw [upd_same]; rfl⟩ (fun _ _ _ _ => trivial) ?_ ?_⟩
        · rintro i v J _ hi ⟨sJ, eJ⟩ ⟨rfl, c, hc, rfl⟩
          refine ⟨rfl, yes (iteT ?_)⟩
          refine ⟨_, rfl, c, signs, rfl, rfl, _, eJ, small1000 ?_, ?_, ?_⟩
          · rw [List.length_map, List.length_map, List.length_take]
            have : z.length = z.cps.toList.length := rfl
            omega
          · exact fun b o e => by
              rw [upd_ne (ne_of_none e nD)]
              exact sJ b o e
          · rw [upd_same]
            have hc' : z.cps.toList[i]? = some c := by
              rw [← Array.getElem?_toList] at hc
              exact hc
            rw [List.take_add_one, hc', List.map_append, List.map_append]
            rfl
        · rintro J ⟨sJ, eJ⟩
          refine ⟨D, ((z.cps.toList.take z.cps.size).map fun c => decide (c ∈ signs.cps.toList)), rfl, .inl (.inl eJ), ?_⟩
          have e2 : ((z.cps.toList.take z.cps.size).map fun c => decide (c ∈ signs.cps.toList)).all id = isTxt z m := by
            unfold isTxt
            rw [decide_eq_true e1, Bool.true_and, List.take_of_length_le (show z.cps.toList.length ≤ z.cps.size from Nat.le_refl _), List.all_map]
            rfl
          rw [e2]
          exact k J sJ
    · refine ⟨_, rfl, _, _, t, _, false, rfl, .ty _, i1, i2, _, rfl, iteT (iteT k)⟩
end
end Gu
namespace Gu
open PySem PySem.Spec PyProof.Rows L2
/-! ### is_tuple -/
theorem isaTupP {K : PySem.W.Frag} {H : Hp} {l : Addr} {xs : List V} (h : SqT K H l xs) : Isa K H (.ref l) "tuple" true := by
  rcases h with (h | ⟨o, h⟩) | ⟨o, its, n, e, c, _⟩
  · exact ⟨_, .base (.tup h), kit_ty (by decide +kernel)⟩
  · exact ⟨_, .fTuple h, kit_ty (by decide +kernel)⟩
  · exact ⟨_, .kTuple e c, kit_ty (by decide +kernel)⟩
section
variable {P : Program} {w : World} {K : PySem.W.Frag} {mg : Str → Option Value} {base : Heap} {C : Addr}
def spIsTuple (K : PySem.W.Frag) : Sp := fun vs H Q _ => ∃ (x : V) (a b : Int), vs = [x, .int a, .int b] ∧
  ((∃ (l : Addr) (xs : List V), x = .ref l ∧ SqT K H l xs ∧ Q (.bl (decide (a ≤ (xs.length : Int) ∧ (xs.length : Int) ≤ b))) H) ∨ (Isa K H x "tuple" false ∧ Q (.bl false) H))
theorem cal_isTuple (B : Bi mg) (D : At K mg "is_tuple" s_is_tuple ps_is_tuple) : Cal P w K mg base 1 "is_tuple" ps_is_tuple (spIsTuple K) := by
  refine D.cal sc_is_tuple (fun vs H Q E h => ?_) (fun f cdv A outer s H vs Q E hr h => ?_)
  · obtain ⟨x, a, b, rfl, _⟩ := h
    rfl
  · obtain ⟨x, a, b, rfl, h⟩ := h
    refine ⟨_, (pss_one (ps_ret (pe_and (pe_callB call_isi (by rfl) B.isinstance (by decide +kernel) (pa_cons (pv 0) (pa_cons (pe_bltn (v := .ty "tuple") (by rfl) B.tuple (by decide +kernel) rfl) pa_nil))) (pe_one (pe_chain op_le op_le (pv 1) (pe_callB call_len (by rfl) B.len (by decide +kernel) (pa_cons (pv 0) pa_nil)) (pv 2)))))), ?_⟩
    rcases h with ⟨l, xs, rfl, hT, k⟩ | ⟨⟨t, i1, i2⟩, k⟩
    · obtain ⟨t, i1, i2⟩ := isaTupP hT
      refine ⟨_, rfl, _, _, t, _, true, rfl, .ty _, i1, i2, _, rfl, iteT ?_⟩
      refine ⟨_, rfl, _, rfl, _, _, rfl, .inr ⟨_, hT, rfl⟩, _, _, rfl, rfl, _, rfl, ?_⟩
      by_cases e1 : a ≤ (xs.length : Int)
      · rw [decide_eq_true e1]
        refine iteT ⟨_, rfl, _, _, rfl, rfl, ?_⟩
        have e : decide (a ≤ (xs.length : Int) ∧ (xs.length : Int) ≤ b) = decide ((xs.length : Int) ≤ b) := by simp only [e1, true_and]
        rw [e] at k
        exact k
      · rw [decide_eq_false e1]
        refine iteF ?_
        have e : decide (a ≤ (xs.length : Int) ∧ (xs.length : Int) ≤ b) = false := by simp only [e1, false_and, decide_false]
        rw [e] at k
        exact k
    · exact ⟨_, rfl, _, _, t, _, false, rfl, .ty _, i1, i2, _, rfl, iteF k⟩
end
end Gu
namespace Gu
open PySem PySem.Spec PyProof.Rows L2
/-! ### the class Shortener, its __init__ -/
def flds (r : Rec) (b : Addr) : List (Str × V) := putF "told" (.ref b) (putF "mark" (.str r.z) (putF "tail" (.int r.t) (putF "head" (.int r.h) (putF "limit" (.int r.l) []))))
theorem flds_limit (r : Rec) (b : Addr) : (flds r b).lookup ("limit" : Str) = some (.int r.l) := by
  unfold flds
  rw [lookup_putF, if_neg (by decide +kernel), lookup_putF, if_neg (by decide +kernel), lookup_putF, if_neg (by decide +kernel), lookup_putF, if_neg (by decide +kernel), lookup_putF, if_pos rfl]
theorem flds_head (r : Rec) (b : Addr) : (flds r b).lookup ("head" : Str) = some (.int r.h) := by
  unfold flds
  rw [lookup_putF, if_neg (by decide +kernel), lookup_putF, if_neg (by decide +kernel), lookup_putF, if_neg (by decide +kernel), lookup_putF, if_pos rfl]
theorem flds_tail (r : Rec) (b : Addr) : (flds r b).lookup ("tail" : Str) = some (.int r.t) := by
  unfold flds
  rw [lookup_putF, if_neg (by decide +kernel), lookup_putF, if_neg (by decide +kernel), lookup_putF, if_pos rfl]
theorem flds_mark (r : Rec) (b : Addr) : (flds r b).lookup ("mark" : Str) = some (.str r.z) := by
  unfold flds
  rw [lookup_putF, if_neg (by decide +kernel), lookup_putF, if_pos rfl]
theorem flds_told (r : Rec) (b : Addr) : (flds r b).lookup ("told" : Str) = some (.ref b) := by
  unfold flds
  rw [lookup_putF, if_pos rfl]
/-- what a Shortener may be made of -/
structure Rec.fit (r : Rec) : Prop where
  l : 0 ≤ r.l ∧ r.l ≤ 40
  h : 0 ≤ r.h ∧ r.h ≤ 40
  t : 0 ≤ r.t ∧ r.t ≤ 40
  z : isTxt r.z 3 = true
theorem isTxt_len {z : Str} {m : Int} (h : isTxt z m = true) : (z.length : Int) ≤ m := by
  unfold isTxt at h
  rw [Bool.and_eq_true] at h
  exact of_decide_eq_true h.1
theorem Rec.ok.fit {r : Rec} (o : r.ok) : r.fit := by
  have a : ∀ y ∈ marks, isTxt y 3 = true := by decide +kernel
  exact ⟨⟨o.l0, o.l1⟩, ⟨o.h0, o.h1⟩, ⟨o.t0, o.t1⟩, a _ o.z⟩
/-- the class as the top has left it -/
structure ShC (K : PySem.W.Frag) (mg : Str → Option Value) (C : Addr) : Prop where
  cl : Cls K C
  nL : NoAttr K C "limit"
  nH : NoAttr K C "head"
  nT : NoAttr K C "tail"
  nM : NoAttr K C "mark"
  nD : NoAttr K C "told"
  g : mg "Shortener" = some (.ref C)
  ha : PySem.W.findIn K (.ref C) "__class__" = some (some (.builtin "object.__class__"))
  hn : PySem.W.specialIn K (.builtin "object.__class__") "__get__" = some (some (.builtin "getset_descriptor.__get__"))
  ht : PySem.W.takesIn K (.builtin "object.__class__") = some true
  hm : PySem.W.mroIn K C (.type "object") = some true
  kk : PySem.W.kitOne K (.ref C) (.ref C) = some true
structure InitAt (K : PySem.W.Frag) (C : Addr) : Prop where
  ex : ∃ (f : Addr) (fd : FuncData), Mk K C f ∧ Fun K "__init__" "Shortener.__init__" s_Shortener_init f fd ∧ Binds K fd ps_Shortener_init []
structure Mak (P : Program) (w : World) (K : PySem.W.Frag) (mg : Str → Option Value) (base : Heap) (k : Nat) (x : Str) (C : Addr) (sp : Sp) : Prop where
  ex : ∃ (f : Addr) (fd : FuncData) (ps : List Str), Mk K C f ∧ FnOk P w K mg base CX0 k f fd ps sp ∧ mg x = some (.ref C) ∧ Binds K fd ps []
section
variable {X : Cx} {k j : Nat} {x : Str} {C : Addr} {sp : Sp} {p pos : Pos} {e : Expr} {es : List Expr} {t : TA}
theorem pe_new (c : Mak X.prog X.w X.K X.mg X.base k x C sp) (hr : Room j X.A) (hk : k + 1 ≤ j) (hg : Gl X x) (ha : PA X (e :: es) t)
    (hdb : (x == ("__debug__" : Str)) = false := by decide) (he : starEach (e :: es) X.env = (false, eval e X.env) :: starEach es X.env := by rfl) (hpl : (backTo pos (starEach es X.env)).any (·.1) = false := by rfl) :
    PE X (.Call (.Name x p) (e :: es) [] pos) (tMake C sp [] E0 t) := by
  obtain ⟨f, fd, ps, M, F, hm, b⟩ := c.ex
  exact pe_make M F (hr.mono hk) hg hm b .nil pass0 ha hdb he hpl
end
section
variable {P : Program} {w : World} {K : PySem.W.Frag} {mg : Str → Option Value} {base : Heap} {C : Addr}
def spCheckMark : Sp := fun vs H Q _ => ∃ (z : Str), vs = [.str z] ∧ isTxt z 3 = true ∧ ∀ G, Same H G → Q .non G
theorem cal_checkMark (B : Bi mg) (D : At K mg "check_mark" s_check_mark ps_check_mark) (C_is_text : Cal P w K mg base 1 "is_text" ps_is_text (spIsText K)) : Cal P w K mg base 2 "check_mark" ps_check_mark spCheckMark := by
  refine D.cal sc_check_mark (fun vs H Q E h => ?_) (fun f cdv A outer s H vs Q E hr h => ?_)
  · obtain ⟨z, rfl, _⟩ := h
    rfl
  · obtain ⟨z, rfl, hz, k⟩ := h
    have zl := isTxt_len hz
    refine ⟨_, (pss_one (ps_if (pt_not (pt_val (pe_own C_is_text hr (by decide) (by rfl) (pa_cons (pv 0) (pa_cons (pe_cst B.MOST_MARK (by rfl)) pa_nil))))) pss_never pss_nil)), ?_⟩
    refine ⟨_, rfl, _, _, rfl, .inl ⟨z, rfl, by omega, fun G sG => ⟨_, rfl, ?_⟩⟩⟩
    rw [hz]
    exact iteF (k G sG)
def spInit (C : Addr) : Sp := fun vs H Q _ => ∃ (x dx : Addr) (r : Rec), vs = [.ref x, .int r.l, .int r.h, .int r.t, .str r.z] ∧ H x = some (.ins C dx []) ∧ r.fit ∧
  ∀ (b : Addr) (G : Hp), H b = none → G x = some (.ins C dx (flds r b)) → G b = some (.tup r.vs) → (∀ c o, H c = some o → c ≠ x → G c = some o) → Q .non G
theorem ok_init {f : Addr} {fd : FuncData} (B : Bi mg) (S : ShC K mg C) (F : Fun K "__init__" "Shortener.__init__" s_Shortener_init f fd) (C_is_integer : Cal P w K mg base 1 "is_integer" ps_is_integer (spIsInteger K)) (C_check_mark : Cal P w K mg base 2 "check_mark" ps_check_mark spCheckMark) : FnOk P w K mg base CX0 3 f fd ps_Shortener_init (spInit C) := by
  refine F.ok sc_Shortener_init (fun vs H Q E h => ?_) (fun cdv A outer s H vs Q E hr h => ?_)
  · obtain ⟨x, dx, r, rfl, _⟩ := h
    rfl
  · obtain ⟨x, dx, r, rfl, hx, fit, k⟩ := h
    refine ⟨_, (pss_cons (ps_for PassesOwn.never rfl (pi_tup (pe_tup (pa_cons (pv 1) (pa_cons (pv 2) (pa_cons (pv 3) pa_nil))))) (pg_name (i := 5) sc_Shortener_init.nd rfl (.inl rfl))
      (pss_one (ps_if (pt_not (pt_val (pe_own C_is_integer hr (by decide) (by rfl) (pa_cons (pv 5) (pa_cons pe_int (pa_cons (pe_cst B.MOST_SIGNS (by rfl)) pa_nil)))))) pss_never pss_nil)))
      (pss_cons (ps_expr (pe_own C_check_mark hr (by decide) (by rfl) (pa_cons (pv 4) pa_nil)))
      (pss_cons (ps_fld (pv 0) (pv 1) rfl)
      (pss_cons (ps_fld (pv 0) (pv 2) rfl)
      (pss_cons (ps_fld (pv 0) (pv 3) rfl)
      (pss_cons (ps_fld (pv 0) (pv 4) rfl)
      (pss_one (ps_fld (pv 0) (pe_tup (pa_cons (pv 1) (pa_cons (pv 2) (pa_cons (pv 3) (pa_cons (pv 4) pa_nil))))) rfl)))))))), ?_⟩
    refine ⟨_, rfl, _, rfl, _, rfl, by show 3 ≤ sizeLine; decide, fun T nT => ?_⟩
    have nxT : x ≠ T := ne_of_none hx nT
    have hxT : upd H T (.tup [.int r.l, .int r.h, .int r.t]) x = some (.ins C dx []) := by rw [upd_ne nxT]; exact hx
    refine ⟨T, rfl, ⟨_, .inl (.inl upd_same)⟩, for_tup (K := K) (a := T) (xs := [.int r.l, .int r.h, .int r.t]) (fun i σ J => ∃ u, σ = [some (.ref x), some (.int r.l), some (.int r.h), some (.int r.t), some (.str r.z), u] ∧ J = upd H T (.tup [.int r.l, .int r.h, .int r.t]))
      ⟨none, rfl, rfl⟩ (fun i σ J _ ⟨_, _, e⟩ => by rw [e]; exact .inl (.inl upd_same)) ?_ ?_⟩
    · rintro i v σ J hi ⟨u, rfl, rfl⟩
      obtain ⟨n, n0, n1, rfl⟩ : ∃ n : Int, 0 ≤ n ∧ n ≤ 40 ∧ v = .int n := by
        have hv := List.mem_of_getElem? hi
        simp only [List.mem_cons, List.not_mem_nil, or_false] at hv
        rcases hv with rfl | rfl | rfl
        · exact ⟨_, fit.l.1, fit.l.2, rfl⟩
        · exact ⟨_, fit.h.1, fit.h.2, rfl⟩
        · exact ⟨_, fit.t.1, fit.t.2, rfl⟩
      refine ⟨_, rfl, _, _, _, rfl, .inl ⟨_, rfl, _, rfl, ?_⟩⟩
      rw [decide_eq_true ⟨n0, n1⟩]
      exact iteF ⟨_, rfl, rfl⟩
    · rintro σ J ⟨u, rfl, rfl⟩
      refine ⟨_, rfl, _, rfl, fit.z, fun G sG => ?_⟩
      have g0 : G x = some (.ins C dx []) := sG _ _ hxT
      refine ⟨_, rfl, _, rfl, x, C, dx, [], rfl, g0, S.cl, S.nL, by decide, ?_⟩
      refine ⟨_, rfl, _, rfl, x, C, dx, _, rfl, upd_same, S.cl, S.nH, by exact Nat.lt_of_le_of_lt (length_putF _ _ _) (by decide), ?_⟩
      rw [upd_upd]
      refine ⟨_, rfl, _, rfl, x, C, dx, _, rfl, upd_same, S.cl, S.nT, by exact Nat.lt_of_le_of_lt (length_putF _ _ _) (Nat.lt_of_le_of_lt (Nat.succ_le_succ (length_putF _ _ _)) (by decide)), ?_⟩
      rw [upd_upd]
      refine ⟨_, rfl, _, rfl, x, C, dx, _, rfl, upd_same, S.cl, S.nM, by exact Nat.lt_of_le_of_lt (length_putF _ _ _) (Nat.lt_of_le_of_lt (Nat.succ_le_succ (Nat.le_trans (length_putF _ _ _) (Nat.succ_le_succ (length_putF _ _ _)))) (by decide)), ?_⟩
      rw [upd_upd]
      refine ⟨_, rfl, _, rfl, _, rfl, _, rfl, by show 4 ≤ sizeLine; decide, fun b nb => ?_⟩
      have nxb : x ≠ b := ne_of_none upd_same nb
      refine ⟨_, rfl, x, C, dx, _, rfl, (by rw [upd_ne nxb, upd_same]), S.cl, S.nD, by exact Nat.lt_of_le_of_lt (length_putF _ _ _) (Nat.lt_of_le_of_lt (Nat.succ_le_succ (Nat.le_trans (length_putF _ _ _) (Nat.succ_le_succ (Nat.le_trans (length_putF _ _ _) (Nat.succ_le_succ (length_putF _ _ _)))))) (by decide)), ?_⟩
      have nb1 : G b = none := by rw [upd_ne nxb.symm] at nb; exact nb
      have nb0 : H b = none := (same_new nT).free (sG.free nb1)
      refine k b _ nb0 upd_same (by rw [upd_ne nxb.symm, upd_same]; rfl) fun c o e nc => ?_
      rw [upd_ne nc, upd_ne (ne_of_none e nb0), upd_ne nc]
      exact sG _ _ (same_new nT _ _ e)
theorem mak_sh (B : Bi mg) (S : ShC K mg C) (D : InitAt K C) (C_is_integer : Cal P w K mg base 1 "is_integer" ps_is_integer (spIsInteger K)) (C_check_mark : Cal P w K mg base 2 "check_mark" ps_check_mark spCheckMark) : Mak P w K mg base 3 "Shortener" C (spInit C) := by
  obtain ⟨f, fd, M, F, b⟩ := D.ex
  exact ⟨f, fd, ps_Shortener_init, M, ok_init B S F C_is_integer C_check_mark, S.g, b⟩
end
end Gu
namespace PySem
open Sem (wp)
open AutoSeq1 (wpAny_loadPart')
theorem gu_new_enum (a : Addr) (vs : Array Value) (n : Nat) (dt : Option Addr) (sl : Array (Option Value)) : Meets (Builtin.«enumerate.__new__» ⟨[.type "enumerate", .ref a], []⟩) (fun _ R s =>
    s.heap.get? a = some ⟨.type "tuple", dt, .seq vs n, sl⟩ ∧ R (.ok (.ret (.ref (s.heap.push { cls := .type "tuple_iterator", data := .fields #[.ref a, .int 0 0] }).objs.size))) { s with heap := (s.heap.push { cls := .type "tuple_iterator", data := .fields #[.ref a, .int 0 0] }).push { cls := .type "enumerate", data := .fields #[.none, .bool false, .ref s.heap.objs.size, rawInt 0, .none, .none] } }) :=
  .of_wp fun prog w A R s h => by
    obtain ⟨s1, s2, s3, s4, s5⟩ := s
    obtain ⟨ha, h⟩ := h
    have sb := sub_enumerate
    have hT : Heap.IsTuple (Shared.heap ⟨s1, s2, s3, s4, s5⟩) a vs := ⟨_, ha, rfl, n, rfl⟩
    wp_walk using wpAny_loadPart' ha
    refine wpAny_stack_any fun fr => wpAny_pure ?_
    split
    · next c _ _ _ _ _ =>
      cases (c == Value.type "enumerate") <;> (wp_walk using wpAny_loadPart' ha, wpAny_pyIter_tuple hT; exact ⟨_, rfl, h⟩)
    · wp_walk using wpAny_loadPart' ha, wpAny_pyIter_tuple hT
      exact ⟨_, rfl, h⟩
section
variable {prog : Program} {w : World} {A : Around} {E : Value → Shared → Prop} {s : Shared}
theorem gu_call_enum {a : Addr} {vs : Array Value} {Q : Value → Shared → Prop} (hT : s.heap.IsTuple a vs)
    (h : ∀ g, IsEnum g (s.heap.objs.size + 1) s.heap.objs.size 0 .none → g.IsTupleIter s.heap.objs.size a 0 → (∀ b o, s.heap.get? b = some o → g.get? b = some o) → Q (.ref (s.heap.objs.size + 1)) { s with heap := g }) :
    wpAny (model prog w) A (call (.type "enumerate") [.ref a]) Q E s := by
  obtain ⟨⟨oc, od, dd, sl⟩, ha, hc, n, hd⟩ := hT
  cases (show oc = .type "tuple" from hc)
  cases (show dd = .seq vs n from hd)
  refine callType_new F.called_enumerate (by decide) (F.typeCall_enumerate_1 _) (F.newCall_enumerate_1 _) (fun o => F.args_object_init_2 o _) F.entry_enumerate_new (gu_new_enum a vs n od sl) ⟨ha, ?_⟩
  have z1 : (s.heap.push { cls := .type "tuple_iterator", data := .fields #[.ref a, .int 0 0] }).objs.size = s.heap.objs.size + 1 := Heap.size_push ..
  show _ ∧ _
  rw [z1]
  have en : IsEnum ((s.heap.push { cls := .type "tuple_iterator", data := .fields #[.ref a, .int 0 0] }).push { cls := .type "enumerate", data := .fields #[.none, .bool false, .ref s.heap.objs.size, rawInt 0, .none, .none] }) (s.heap.objs.size + 1) s.heap.objs.size 0 .none := by
    have q := Heap.get?_push_size (s.heap.push { cls := .type "tuple_iterator", data := .fields #[.ref a, .int 0 0] }) (o := { cls := .type "enumerate", data := .fields #[.none, .bool false, .ref s.heap.objs.size, rawInt 0, .none, .none] }) rfl
    rw [z1] at q
    exact q
  exact ⟨⟨_, en, rfl⟩, h _ en ⟨_, Heap.get?_push_of_some _ (Heap.get?_push_size _ rfl), rfl, rfl⟩ fun b o x => Heap.get?_push_of_some _ (Heap.get?_push_of_some _ x)⟩
end
end PySem
namespace Gu
open PySem PySem.Spec PyProof.Rows L2
/-- the tuple at a, each item in a new pair with its place -/
def EnT (K : PySem.W.Frag) (a : Addr) : It where
  go := fun i H => ∃ (xs : List V) (x : V), SqT K H a xs ∧ xs[i]? = some x
  yld := fun i H v G => ∃ T x, v = .ref T ∧ H T = none ∧ G = upd H T (.tup [.int (i : Nat), x]) ∧ ∀ xs, SqT K H a xs → xs[i]? = some x
  stop := fun i H => ∃ xs : List V, SqT K H a xs ∧ xs.length = i
theorem turn_enT {P : Program} {w : World} {K : PySem.W.Frag} {es : List Expr} {kk : Nat} {tp : Pos} (a e it : Addr) :
    Turn P w K (.Tuple es kk tp) (EnT K a) [e, it] e (fun i h => (∃ old, IsEnum h e it ((i : Nat) : Int) old) ∧ h.IsTupleIter it a i ∧ e ≠ it) where
  mem := List.mem_cons_self ..
  obj := fun i h st b hb => by
    obtain ⟨⟨old, he⟩, ⟨o, ho, hc, hd⟩, _⟩ := st
    simp only [List.mem_cons, List.not_mem_nil, or_false] at hb
    rcases hb with rfl | rfl
    · exact ⟨_, he, fun v q => nomatch q⟩
    · exact ⟨o, ho, fun v q => by rw [hd] at q; cases q⟩
  keep := fun i h g st k => by
    obtain ⟨⟨old, he⟩, hi, ne⟩ := st
    exact ⟨⟨old, k e (by simp) _ he⟩, hi.at fun o q => k it (by simp) o q, ne⟩
  item := by
    intro X hP hw hK hc i pins s σ H E I hf st hg
    subst hP hw hK
    obtain ⟨⟨old, he⟩, hit, ne⟩ := st
    obtain ⟨xs, x, hq, hx⟩ := hg
    obtain ⟨its, rv, tp, hz⟩ := I.tuple hq
    obtain ⟨u, hu, ru⟩ := rv.get hx
    have el : e < s.heap.objs.size := Heap.lt_size he
    have il : it < s.heap.objs.size := by
      obtain ⟨_, q, _⟩ := hit
      exact Heap.lt_size q
    have tp' : s.heap.IsTuple a its.toArray := tp
    have nai : a ≠ it := fun z => by
      obtain ⟨o1, g1, c1, _⟩ := tp'
      obtain ⟨o2, g2, c2, _⟩ := hit
      rw [z] at g1
      cases g1.symm.trans g2
      exact absurd (Value.type.inj (c1.symm.trans c2)) (by decide)
    have nea : e ≠ a := fun z => by
      obtain ⟨o1, g1, c1, _⟩ := tp'
      have g2 := he
      rw [z] at g2
      cases g1.symm.trans g2
      exact absurd (Value.type.inj c1) (by decide)
    have hd : X.A.in1.handled = none := I.ok.hd hc
    refine wpAny_pyNext_enum_itemD (Draws.tuple hd it a nai its.toArray) he ⟨hit, tp'⟩ (i := i) (by
      have := (List.getElem?_eq_some_iff.mp hu).1
      simpa using this) ne (by simp [ne, nea]) fun y g tk hy ho st' hT hsz hk => ?_
    have ey : y = u := by
      have : its[i]? = some y := by simpa using hy
      rw [hu] at this
      exact (Option.some.inj this).symm
    subst ey
    refine ⟨_, rfl, wpAny_letOwnedTupleGo_enum (s := { s with heap := g, toks := tk + 1 }) ho fun g2 he' sb => ?_⟩
    have hT2 : g2.get? s.heap.objs.size = some { cls := .type "tuple", data := .seq #[.int i tk, y] } := (sb.2 _ (Nat.ne_of_gt el)).trans hT
    have nw : ObjOk X.prog X.w (upd H s.heap.objs.size (.tup [.int (i : Nat), x])) g2 s.heap.objs.size (.tup [.int (i : Nat), x]) := ⟨by show 2 ≤ sizeLine; decide, [.int i tk, y], .cons ⟨_, rfl⟩ (.cons ru .nil), ⟨_, hT2, rfl, _, rfl⟩⟩
    have I1 : Inv X pins σ (upd H s.heap.objs.size (.tup [.int (i : Nat), x])) { s with heap := g2, toks := tk + 1 } :=
      I.turnedNew (ch := [e, it]) (fun b ob hb q => (sb.2 b (fun z => hb (by simp [z]))).trans (hk b ob (fun z => hb (by simp [z])) (fun z => hb (by simp [z])) q)) hf (Nat.le_refl _) nw
    refine ⟨.ref s.heap.objs.size, _, I1, rfl, ⟨_, x, rfl, I.hok.fresh (Nat.le_refl _), rfl, fun ys hy => by rw [I.tuple_inj hy hq]; exact hx⟩, ⟨⟨y, ?_⟩, st'.1.at fun o q => (sb.2 it (Ne.symm ne)).trans q, ne⟩, fun b hb => ?_⟩
    · rw [show ((i + 1 : Nat) : Int) = (i : Int) + 1 by omega]
      exact he'
    · have hb' : b < s.heap.objs.size := by
        simp only [List.mem_cons, List.not_mem_nil, or_false] at hb
        rcases hb with rfl | rfl
        · exact el
        · exact il
      rw [upd_ne (Nat.ne_of_lt hb')]
      exact (hf b hb).1
  done := by
    intro X hP hw hK hc i pins s σ H E I hf st hg
    subst hP hw hK
    obtain ⟨⟨old, he⟩, hit, ne⟩ := st
    obtain ⟨xs, hq, hx⟩ := hg
    obtain ⟨its, rv, tp, hz⟩ := I.tuple hq
    have tp' : s.heap.IsTuple a its.toArray := tp
    have nai : a ≠ it := fun z => by
      obtain ⟨o1, g1, c1, _⟩ := tp'
      obtain ⟨o2, g2, c2, _⟩ := hit
      rw [z] at g1
      cases g1.symm.trans g2
      exact absurd (Value.type.inj (c1.symm.trans c2)) (by decide)
    have hd : X.A.in1.handled = none := I.ok.hd hc
    have en : its.toArray.size = i := by
      have := rv.length
      simp only [List.size_toArray]
      omega
    obtain ⟨f0, f1, f2, f3, f4, f5⟩ := hf it (by simp)
    exact wpAny_pyNext_enum_endD (Draws.tuple hd it a nai its.toArray) he ⟨by rw [en]; exact hit, tp'⟩ fun g eb => ⟨rfl, I.turned (t' := s.toks) (fun b o hb q => eb b o hb q) f0 f1 f3 f4 f5⟩
  self := fun A i s Q E st h => by
    obtain ⟨⟨_, he⟩, _⟩ := st
    exact wpAny_pyIter_enum he h
def iEnT (K : PySem.W.Frag) (ta : TA) : TI := fun σ H R => ta σ H fun vs G => ∃ a xs, vs = [.ref a] ∧ SqT K G a xs ∧ R (EnT K a) G
theorem pi_enT {X : Cx} {e : Expr} {ta : TA} {p pos tp : Pos} {es : List Expr} {kk : Nat} (hg : Gl X "enumerate") (hm : X.mg "enumerate" = none) (ha : PA X [e] ta) (hs : starEach [e] X.env = [(false, eval e X.env)] := by rfl) :
    PI X (.Tuple es kk tp) (.Call (.Name "enumerate" p) [e] [] pos) (iEnT X.K ta) := by
  refine ⟨fun pins s σ H R I h => ?_⟩
  refine Call_ (ld_blt I hg hm boot_enumerate (PyProof.Rows.callWith_type1 (thn (ha.run pos pins s σ H _ I h) fun us s1 ⟨vs, G, I1, r1, q1⟩ => ?_) hs rfl))
  obtain ⟨a, xs, ex, hq, q⟩ := q1
  subst ex
  cases r1 with
  | cons r rr =>
    cases rr
    cases r
    obtain ⟨its, rv, tq, hz⟩ := I1.tuple hq
    refine gu_call_enum (show s1.heap.IsTuple a its.toArray from tq) fun g he hit hk => wpAny_pyIter_enum he ?_
    have I2 : Inv X pins σ G { s1 with heap := g } := I1.kept (t' := s1.toks) hk
    refine ⟨s1.heap.objs.size + 1, [s1.heap.objs.size + 1, s1.heap.objs.size], _, _, G, rfl, I2, turn_enT a (s1.heap.objs.size + 1) s1.heap.objs.size, ⟨⟨.none, he⟩, hit, Nat.succ_ne_self _⟩, fun b hb => ?_, q⟩
    have le : s1.heap.objs.size ≤ b := by
      simp only [List.mem_cons, List.not_mem_nil, or_false] at hb
      rcases hb with rfl | rfl
      · exact Nat.le_add_right _ _
      · exact Nat.le_refl _
    exact I1.fpOk le (I1.hok.fresh le)
/-- the walk of such a loop: a new pair each turn -/
theorem walk_enT {K : PySem.W.Frag} {a : Addr} {xs : List V} : Walk (EnT K a) xs.length (fun H => SqT K H a xs) (fun i H v G => ∃ T x, xs[i]? = some x ∧ v = .ref T ∧ H T = none ∧ G = upd H T (.tup [.int (i : Nat), x])) where
  goes := fun i H hi h => ⟨xs, xs[i], h, List.getElem?_eq_getElem hi⟩
  stops := fun H h => ⟨xs, h, rfl⟩
  yields := fun i H v G hi h ⟨T, x, e1, e2, e3, e4⟩ => ⟨T, x, e4 xs h, e1, e2, e3⟩
end Gu
namespace Gu
open PySem PySem.Spec PyProof.Rows L2
/-! ### what is cut, as lists -/
def cut {α : Type} (l h t : Nat) (m xs : List α) : List α := if xs.length ≤ l then xs else xs.take h ++ m ++ xs.drop (xs.length - t)
theorem cut_front {α : Type} (xs : List α) {h : Int} (h0 : 0 ≤ h) : (xs.drop (HT.sIx xs.length 0 none)).take (HT.sIx xs.length xs.length (some h) - HT.sIx xs.length 0 none) = xs.take h.toNat := by
  obtain ⟨k, rfl⟩ := Int.eq_ofNat_of_zero_le h0
  rw [HT.sIx_none, HT.sIx_nat, List.drop_zero, Nat.sub_zero, Int.toNat_natCast, List.take_eq_take_iff]
  omega
theorem cut_back {α : Type} (xs : List α) {h : Int} (h0 : 0 ≤ h) : (xs.drop (HT.sIx xs.length 0 (some h))).take (HT.sIx xs.length xs.length none - HT.sIx xs.length 0 (some h)) = xs.drop h.toNat := by
  obtain ⟨k, rfl⟩ := Int.eq_ofNat_of_zero_le h0
  rw [HT.sIx_none, HT.sIx_nat, Int.toNat_natCast]
  rw [List.take_of_length_le (by rw [List.length_drop]; omega)]
  by_cases e : k ≤ xs.length
  · rw [Nat.min_eq_left e]
  · rw [Nat.min_eq_right (by omega), List.drop_length, List.drop_eq_nil_of_le (by omega)]
theorem cut_length {α : Type} {l h t : Nat} {m xs : List α} : (cut l h t m xs).length ≤ max xs.length (h + m.length + t) := by
  unfold cut
  split
  · omega
  · rw [List.length_append, List.length_append, List.length_take, List.length_drop]
    omega
theorem app_cps (a b : Str) : (a ++ b).cps.toList = a.cps.toList ++ b.cps.toList := by
  show (a.cps ++ b.cps).toList = _
  rw [Array.toList_append]
def Rec.cut (r : Rec) (xs : List Nat) : List Nat := Gu.cut r.l.toNat r.h.toNat r.t.toNat r.z.cps.toList xs
def cuts (rs : List Rec) (xs : List Nat) : List Nat := rs.foldl (fun acc r => r.cut acc) xs
theorem Rec.fit.zl {r : Rec} (f : r.fit) : r.z.cps.toList.length ≤ 3 := by
  have h := isTxt_len f.z
  have e : r.z.length = r.z.cps.toList.length := rfl
  omega
theorem Rec.fit.cut_len {r : Rec} (f : r.fit) {xs : List Nat} (h : xs.length ≤ 200) : (r.cut xs).length ≤ 200 := by
  have a : (r.cut xs).length ≤ _ := cut_length
  have b := f.zl
  have c := f.h
  have d := f.t
  omega
/-! ### shorteners and rows in the heap -/
def ShAt (C : Addr) (H : Hp) (x : Addr) (r : Rec) : Prop := ∃ dx b, H x = some (.ins C dx (flds r b)) ∧ H b = some (.tup r.vs)
structure RowAt (C : Addr) (H : Hp) (a : Addr) (rs : List (Addr × Rec)) : Prop where
  tp : H a = some (.tup (rs.map fun q => V.ref q.1))
  sh : ∀ q ∈ rs, ShAt C H q.1 q.2 ∧ q.2.fit
theorem ShAt.same {C : Addr} {H G : Hp} {x : Addr} {r : Rec} (s : Same H G) (h : ShAt C H x r) : ShAt C G x r := by
  obtain ⟨dx, b, h1, h2⟩ := h
  exact ⟨dx, b, s _ _ h1, s _ _ h2⟩
theorem RowAt.same {C : Addr} {H G : Hp} {a : Addr} {rs : List (Addr × Rec)} (s : Same H G) (h : RowAt C H a rs) : RowAt C G a rs := ⟨s _ _ h.tp, fun q hq => ⟨(h.sh q hq).1.same s, (h.sh q hq).2⟩⟩
section
variable {P : Program} {w : World} {K : PySem.W.Frag} {mg : Str → Option Value} {base : Heap} {C : Addr}
/-! ### check_row, check_text -/
def spCheckRow (C : Addr) : Sp := fun vs H Q _ => ∃ (a : Addr) (rs : List (Addr × Rec)), vs = [.ref a] ∧ RowAt C H a rs ∧ 1 ≤ rs.length ∧ rs.length ≤ 4 ∧ ∀ G, Same H G → Q .non G
theorem cal_checkRow (B : Bi mg) (S : ShC K mg C) (D : At K mg "check_row" s_check_row ps_check_row) (C_is_tuple : Cal P w K mg base 1 "is_tuple" ps_is_tuple (spIsTuple K)) : Cal P w K mg base 2 "check_row" ps_check_row (spCheckRow C) := by
  refine D.cal sc_check_row (fun vs H Q E h => ?_) (fun f cdv A outer s H vs Q E hr h => ?_)
  · obtain ⟨a, rs, rfl, _⟩ := h
    rfl
  · obtain ⟨a, rs, rfl, hR, l1, l4, k⟩ := h
    refine ⟨_, (pss_cons (ps_if (pt_not (pt_val (pe_own C_is_tuple hr (by decide) (by rfl) (pa_cons (pv 0) (pa_cons pe_int (pa_cons (pe_cst B.MOST_ROW (by rfl)) pa_nil)))))) pss_never pss_nil)
      (pss_one (ps_for PassesOwn.never rfl (pi_enT (by rfl) B.enumerate (pa_cons (pv 0) pa_nil)) (pg_tup rfl (pgs_cons (pg_name (i := 1) sc_check_row.nd rfl (.inl rfl)) (pgs_cons (pg_name (i := 2) sc_check_row.nd rfl (.inl rfl)) pgs_nil)))
      (pss_one (ps_if (pt_not (pt_val (pe_callB call_isi (by rfl) B.isinstance (by decide +kernel) (pa_cons (pv 2) (pa_cons (pe_glob (v := .ref C) (by rfl) S.g rfl) pa_nil))))) pss_never pss_nil))))), ?_⟩
    refine ⟨_, rfl, _, _, _, rfl, .inl ⟨a, _, rfl, .inl (.inl hR.tp), _, rfl, ?_⟩⟩
    rw [decide_eq_true (show (1 : Int) ≤ ((rs.map fun q => V.ref q.1).length : Int) ∧ ((rs.map fun q => V.ref q.1).length : Int) ≤ 4 by rw [List.length_map]; omega)]
    refine iteF ⟨_, rfl, a, _, rfl, .inl (.inl hR.tp), for_it walk_enT (fun i σ J => ∃ u v, σ = [some (.ref a), u, v] ∧ Same H J) ⟨none, none, rfl, Same.refl H⟩ (fun i σ J _ ⟨_, _, _, sJ⟩ => .inl (.inl (sJ _ _ hR.tp))) ?_ ?_⟩
    · rintro i v σ J J1 hi ⟨u, v2, rfl, sJ⟩ ⟨T, x, hx, rfl, nT, rfl⟩
      obtain ⟨q, hq, rfl⟩ : ∃ q ∈ rs, x = .ref q.1 := by
        obtain ⟨q, h1, h2⟩ := List.mem_map.mp (List.mem_of_getElem? hx)
        exact ⟨q, h1, h2.symm⟩
      have sT : Same H (upd J T (.tup [.int (i : Nat), .ref q.1])) := sJ.trans (same_new nT)
      obtain ⟨dx, b, e1, _⟩ := ((hR.sh q hq).1).same sT
      refine ⟨T, _, rfl, .inl (.inl upd_same), rfl, _, _, rfl, _, _, rfl, rfl, ?_⟩
      refine ⟨_, rfl, _, _, _, _, true, rfl, .own C, .base (.ins e1 S.cl S.ha S.hn S.ht S.hm), S.kk, _, rfl, iteF ⟨_, _, rfl, sT⟩⟩
    · rintro σ J ⟨u, v, rfl, sJ⟩
      exact k J sJ
def spCheckText : Sp := fun vs H Q _ => ∃ (z : Str), vs = [.str z] ∧ isTxt z 200 = true ∧ ∀ G, Same H G → Q .non G
theorem cal_checkText (B : Bi mg) (D : At K mg "check_text" s_check_text ps_check_text) (C_is_text : Cal P w K mg base 1 "is_text" ps_is_text (spIsText K)) : Cal P w K mg base 2 "check_text" ps_check_text spCheckText := by
  refine D.cal sc_check_text (fun vs H Q E h => ?_) (fun f cdv A outer s H vs Q E hr h => ?_)
  · obtain ⟨z, rfl, _⟩ := h
    rfl
  · obtain ⟨z, rfl, hz, k⟩ := h
    have zl := isTxt_len hz
    refine ⟨_, (pss_one (ps_if (pt_not (pt_val (pe_own C_is_text hr (by decide) (by rfl) (pa_cons (pv 0) (pa_cons (pe_cst B.MOST_TEXT (by rfl)) pa_nil))))) pss_never pss_nil)), ?_⟩
    refine ⟨_, rfl, _, _, rfl, .inl ⟨z, rfl, by omega, fun G sG => ⟨_, rfl, ?_⟩⟩⟩
    rw [hz]
    exact iteF (k G sG)
/-! ### shortened: of a text -/
def spShortS (C : Addr) : Sp := fun vs H Q _ => ∃ (x : Addr) (r : Rec) (z : Str), vs = [.ref x, .str z, .str r.z] ∧ ShAt C H x r ∧ r.fit ∧ z.length ≤ 1000 ∧ ∀ y : Str, y.cps.toList = r.cut z.cps.toList → Q (.str y) H
theorem cal_shortS (B : Bi mg) (S : ShC K mg C) (D : At K mg "shortened" s_shortened ps_shortened) : Cal P w K mg base 1 "shortened" ps_shortened (spShortS C) := by
  refine D.cal sc_shortened (fun vs H Q E h => ?_) (fun f cdv A outer s H vs Q E hr h => ?_)
  · obtain ⟨x, r, z, rfl, _⟩ := h
    rfl
  · obtain ⟨x, r, z, rfl, ⟨dx, b, hx, _⟩, fit, zl, k⟩ := h
    have ez : z.length = z.cps.toList.length := rfl
    have zs : z.length ≤ sizeLine := Nat.le_of_lt (small1000 zl)
    have f1 := fit.l
    have f2 := fit.h
    have f3 := fit.t
    have f4 := fit.zl
    refine ⟨_, (pss_cons (ps_if (pt_cmpR op_le (pe_callB call_len (by rfl) B.len (by decide +kernel) (pa_cons (pv 1) pa_nil)) (pe_fld (pv 0) rfl) (nomark _)) (pss_one (ps_ret (pv 1))) pss_nil)
      (pss_cons (ps_set (i := 3) sc_shortened.nd rfl (.inl rfl) (pe_callB (call_max2 rfl) (by rfl) B.max (by decide +kernel) (pa_cons pe_int (pa_cons (pe_op op_sub (pe_callB call_len (by rfl) B.len (by decide +kernel) (pa_cons (pv 1) pa_nil)) (pe_fld (pv 0) rfl)) pa_nil))))
      (pss_one (ps_ret (pe_op op_add_str (pe_op op_add_str (pe_slice sl_str (pv 1) po_none (po_some (pe_fld (pv 0) rfl))) (pv 2)) (pe_slice sl_str (pv 1) (po_some (pv 3)) po_none)))))), ?_⟩
    refine ⟨_, rfl, _, _, rfl, ⟨zs, rfl⟩, _, rfl, x, C, dx, _, _, rfl, hx, S.cl, S.nL, flds_limit _ _, _, _, rfl, rfl, _, rfl, ite2 (fun e => ?_) (fun e => ?_)⟩
    · have e1 := of_decide_eq_true e
      refine ⟨_, rfl, k z ?_⟩
      unfold Rec.cut cut
      rw [if_pos (by omega)]
    · have e1 : ¬ (z.length : Int) ≤ r.l := fun h => e (decide_eq_true h)
      refine ⟨_, rfl, _, _, rfl, ⟨zs, rfl⟩, _, rfl, x, C, dx, _, _, rfl, hx, S.cl, S.nT, flds_tail _ _, _, _, rfl, rfl, _, _, rfl, ?_⟩
      refine ⟨_, rfl, _, rfl, x, C, dx, _, _, rfl, hx, S.cl, S.nH, flds_head _ _, _, rfl, z, rfl, zs, _, rfl, _, _, rfl, rfl, ?_, _, rfl, _, rfl, _, rfl, z, rfl, zs, _, _, rfl, rfl, ?_, k _ ?_⟩
      · have a := cutS_length z none (some r.h)
        have b : r.z.length = r.z.cps.toList.length := rfl
        exact Nat.le_of_lt (Nat.lt_of_le_of_lt (show _ ≤ 2000 by omega) (by decide))
      · have a := cutS_length z none (some r.h)
        have b : r.z.length = r.z.cps.toList.length := rfl
        have c := cutS_length z (some (if (z.length : Int) - r.t > 0 then (z.length : Int) - r.t else 0)) none
        have d : (cutS z none (some r.h) ++ r.z).length = (cutS z none (some r.h)).length + r.z.length := by
          show (cutS z none (some r.h) ++ r.z).cps.toList.length = _
          rw [app_cps, List.length_append]
          rfl
        exact Nat.le_of_lt (Nat.lt_of_le_of_lt (show _ ≤ 4000 by omega) (by decide))
      · rw [app_cps, app_cps]
        have a : (cutS z none (some r.h)).cps.toList = z.cps.toList.take r.h.toNat := by
          show ((z.cps.toList.drop _).take _).toArray.toList = _
          rw [List.toList_toArray]
          exact cut_front z.cps.toList f2.1
        have c : (cutS z (some (if (z.length : Int) - r.t > 0 then (z.length : Int) - r.t else 0)) none).cps.toList = z.cps.toList.drop (z.cps.toList.length - r.t.toNat) := by
          show ((z.cps.toList.drop _).take _).toArray.toList = _
          rw [List.toList_toArray]
          have q := cut_back z.cps.toList (h := if (z.length : Int) - r.t > 0 then (z.length : Int) - r.t else 0) (by split <;> omega)
          have n : (if (z.length : Int) - r.t > 0 then (z.length : Int) - r.t else 0).toNat = z.cps.toList.length - r.t.toNat := by split <;> omega
          rw [n] at q
          exact q
        rw [a, c]
        unfold Rec.cut cut
        rw [if_neg (show ¬ z.cps.toList.length ≤ r.l.toNat by omega)]
/-! ### shown_by, show -/
theorem Rec.fit.cut_lenW {r : Rec} (f : r.fit) {xs : List Nat} (h : xs.length ≤ 600) : (r.cut xs).length ≤ 600 := by
  have a : (r.cut xs).length ≤ _ := cut_length
  have b := f.zl
  have c := f.h
  have d := f.t
  omega
def spShownBy (C : Addr) : Sp := fun vs H Q _ => ∃ (a : Addr) (rs : List (Addr × Rec)) (z : Str), vs = [.ref a, .str z] ∧ RowAt C H a rs ∧ z.cps.toList.length ≤ 600 ∧ ∀ (y : Str), y.cps.toList = cuts (rs.map (·.2)) z.cps.toList → Q (.str y) H
theorem cal_shownBy (B : Bi mg) (S : ShC K mg C) (D : At K mg "shown_by" s_shown_by ps_shown_by) (C_shortened : Cal P w K mg base 1 "shortened" ps_shortened (spShortS C)) : Cal P w K mg base 2 "shown_by" ps_shown_by (spShownBy C) := by
  refine D.cal sc_shown_by (fun vs H Q E h => ?_) (fun f cdv A outer s H vs Q E hr h => ?_)
  · obtain ⟨a, rs, z, rfl, _⟩ := h
    rfl
  · obtain ⟨a, rs, z, rfl, R2, zl, k⟩ := h
    refine ⟨_, (pss_cons (ps_set (i := 2) sc_shown_by.nd rfl (.inl rfl) (pv 1))
      (pss_cons (ps_for PassesOwn.never rfl (pi_tup (pv 0)) (pg_name (i := 3) sc_shown_by.nd rfl (.inl rfl))
      (pss_one (ps_set (i := 2) sc_shown_by.nd rfl (.inl rfl) (pe_own C_shortened hr (by decide) (by rfl) (pa_cons (pv 3) (pa_cons (pv 2) (pa_cons (pe_fld (pv 3) rfl) pa_nil)))))))
      (pss_one (ps_ret (pv 2))))), ?_⟩
    refine ⟨_, rfl, _, rfl, a, rfl, ⟨_, .inl (.inl R2.tp)⟩, for_tup (K := K) (a := a) (xs := rs.map fun q => V.ref q.1) (fun i σ J => ∃ (y : Str) (u : Option V), σ = [some (.ref a), some (.str z), some (.str y), u] ∧ J = H ∧ y.cps.toList = cuts ((rs.take i).map (·.2)) z.cps.toList ∧ y.cps.toList.length ≤ 600)
      ⟨z, none, rfl, rfl, rfl, zl⟩ (fun i σ J _ ⟨_, _, _, e, _⟩ => by rw [e]; exact .inl (.inl R2.tp)) ?_ ?_⟩
    · rintro i v σ J hi ⟨y, u, rfl, rfl, ey, ly⟩
      rw [List.getElem?_map] at hi
      cases hq : rs[i]? with
      | none =>
        rw [hq] at hi
        cases hi
      | some q =>
        rw [hq] at hi
        cases hi
        have mq : q ∈ rs := List.mem_of_getElem? hq
        obtain ⟨sq, fq⟩ := R2.sh q mq
        obtain ⟨dx, b, e1, e2⟩ := id sq
        have lz : y.length = y.cps.toList.length := rfl
        refine ⟨_, rfl, _, rfl, _, rfl, q.1, C, dx, _, _, rfl, e1, S.cl, S.nM, flds_mark _ _, q.1, q.2, y, rfl, sq, fq, by omega, fun y2 h2 => ⟨y2, _, rfl, rfl, ?_, ?_⟩⟩
        · rw [h2, ey, List.take_add_one, hq]
          unfold cuts
          rw [List.map_append, List.foldl_append]
          rfl
        · rw [h2]
          exact fq.cut_lenW ly
    · rintro σ J ⟨y, u, rfl, rfl, ey, ly⟩
      rw [List.length_map, List.take_length] at ey
      exact ⟨_, rfl, k y ey⟩
def spShow (C : Addr) : Sp := fun vs H Q _ => ∃ (a : Addr) (rs : List (Addr × Rec)) (z : Str), vs = [.ref a, .str z] ∧ RowAt C H a rs ∧ 1 ≤ rs.length ∧ rs.length ≤ 4 ∧ isTxt z 200 = true ∧ ∀ (y : Str) (G : Hp), Same H G → y.cps.toList = cuts (rs.map (·.2)) z.cps.toList → Q (.str y) G
theorem cal_show (B : Bi mg) (D : At K mg "show" s_show ps_show) (C_check_row : Cal P w K mg base 2 "check_row" ps_check_row (spCheckRow C)) (C_check_text : Cal P w K mg base 2 "check_text" ps_check_text spCheckText) (C_shown_by : Cal P w K mg base 2 "shown_by" ps_shown_by (spShownBy C)) : Cal P w K mg base 3 "show" ps_show (spShow C) := by
  refine D.cal sc_show (fun vs H Q E h => ?_) (fun f cdv A outer s H vs Q E hr h => ?_)
  · obtain ⟨a, rs, z, rfl, _⟩ := h
    rfl
  · obtain ⟨a, rs, z, rfl, hR, l1, l4, hz, k⟩ := h
    have zl := isTxt_len hz
    have ez : z.length = z.cps.toList.length := rfl
    refine ⟨_, (pss_cons (ps_expr (pe_own C_check_row hr (by decide) (by rfl) (pa_cons (pv 0) pa_nil)))
      (pss_cons (ps_expr (pe_own C_check_text hr (by decide) (by rfl) (pa_cons (pv 1) pa_nil)))
      (pss_one (ps_ret (pe_own C_shown_by hr (by decide) (by rfl) (pa_cons (pv 0) (pa_cons (pv 1) pa_nil))))))), ?_⟩
    refine ⟨_, rfl, a, rs, rfl, hR, l1, l4, fun G1 s1 => ⟨_, rfl, z, rfl, hz, fun G2 s2 => ?_⟩⟩
    have s12 : Same H G2 := s1.trans s2
    exact ⟨_, rfl, _, rfl, a, rs, z, rfl, hR.same s12, by omega, fun y ey => k y G2 s12 ey⟩
end
end Gu
namespace Gu
open PySem PySem.Spec PyProof.Rows L2
/-! ### texts of single signs -/
def one (c : Nat) : Str := ⟨#[c]⟩
def ones (cs : List Nat) : List V := cs.map fun c => V.str (one c)
theorem join_ones : ∀ cs : List Nat, (Str.join ⟨#[]⟩ (cs.map one)).cps.toList = cs
  | [] => rfl
  | c :: r => by
    rw [List.map_cons, join_nil_cons, app_cps, join_ones r]
    rfl
theorem tjoin_ones (cs : List Nat) : (Txt.join "" (cs.map one)).cps.toList = cs := by
  have e : (("" : String) : Str) = ⟨#[]⟩ := by decide +kernel
  show (Builtin.Str.glued _ _).cps.toList = cs
  rw [e, StrLaws.glued_eq_join]
  exact join_ones cs
theorem ones_len (cs : List Nat) : ((cs.map one).map (·.length)).sum = cs.length := by
  induction cs with
  | nil => rfl
  | cons c r ih =>
    rw [List.map_cons, List.map_cons, List.sum_cons, ih]
    show 1 + r.length = r.length + 1
    omega
theorem ones_map (cs : List Nat) : ones cs = (cs.map one).map V.str := by
  unfold ones
  rw [List.map_map]
  rfl
def cutsV (rs : List Rec) (xs : List V) : List V := rs.foldl (fun acc r => cut r.l.toNat r.h.toNat r.t.toNat (ones r.z.cps.toList) acc) xs
theorem cut_map {α β : Type} (f : α → β) (l h t : Nat) (m xs : List α) : cut l h t (m.map f) (xs.map f) = (cut l h t m xs).map f := by
  unfold cut
  rw [List.length_map]
  split
  · rfl
  · rw [List.map_append, List.map_append, List.map_take, List.map_drop]
theorem cutsV_ones : ∀ (rs : List Rec) (cs : List Nat), cutsV rs (ones cs) = ones (cuts rs cs)
  | [], _ => rfl
  | r :: rs, cs => by
    show cutsV rs (cut r.l.toNat r.h.toNat r.t.toNat (ones r.z.cps.toList) (ones cs)) = ones (cuts rs (r.cut cs))
    unfold ones
    rw [cut_map]
    exact cutsV_ones rs (r.cut cs)
theorem cuts_len : ∀ (rs : List Rec) {xs : List Nat}, (∀ r ∈ rs, r.fit) → xs.length ≤ 200 → (cuts rs xs).length ≤ 200
  | [], _, _, h => h
  | r :: rs, xs, hf, h => cuts_len rs (xs := r.cut xs) (fun q hq => hf q (List.mem_cons_of_mem _ hq)) ((hf r (List.mem_cons_self ..)).cut_len h)
theorem ShAt.list {C : Addr} {H : Hp} {x M : Addr} {r : Rec} {acc ys : List V} (h : ShAt C H x r) (e : H M = some (.lst acc)) : ShAt C (upd H M (.lst ys)) x r := by
  obtain ⟨dx, b, h1, h2⟩ := h
  exact ⟨dx, b, by rw [upd_ne (ne_of h1 e (by intro z; cases z))]; exact h1, by rw [upd_ne (ne_of h2 e (by intro z; cases z))]; exact h2⟩
theorem ToldsAt.same {H G : Hp} {D : Addr} {ps : List (Addr × Rec)} (s : Same H G) (h : ToldsAt H D ps) : ToldsAt G D ps := ⟨s _ _ h.ls, fun q hq => ⟨s _ _ (h.tp q hq).1, (h.tp q hq).2⟩⟩
section
variable {P : Program} {w : World} {K : PySem.W.Frag} {mg : Str → Option Value} {base : Heap} {C : Addr}
/-! ### _law_made -/
def spMade (C : Addr) : Sp := fun vs H Q _ => ∃ (D : Addr) (ps : List (Addr × Rec)), vs = [.ref D] ∧ ToldsAt H D ps ∧ ps.length ≤ 4 ∧ ∀ (a : Addr) (G : Hp) (rs : List (Addr × Rec)), H a = none → RowAt C G a rs → rs.map (·.2) = ps.map (·.2) → Same H G → Q (.ref a) G
theorem cal_made (B : Bi mg) (D : At K mg "_law_made" s_law_made ps_law_made) (M_sh : Mak P w K mg base 3 "Shortener" C (spInit C)) : Cal P w K mg base 5 "_law_made" ps_law_made (spMade C) := by
  refine D.cal sc_law_made (fun vs H Q E h => ?_) (fun f cdv A outer s H vs Q E hr h => ?_)
  · obtain ⟨D, ps, rfl, _⟩ := h
    rfl
  · obtain ⟨D, ps, rfl, hT, l4, k⟩ := h
    refine ⟨_, (pss_one (ps_ret (pe_callTy call_tuple_of (by rfl) B.tuple (by decide +kernel) (pa_cons (pe_lc (g := gTup K 4 (gCons (gName 1) (gCons (gName 2) (gCons (gName 3) (gCons (gName 4) gNil))))) (own := [("_law_a", 1), ("_law_b", 2), ("_law_c", 3), ("_law_d", 4)]) (by rfl) sc_law_made.nd (pi_list (pv 0)) (blkOk_by (own := [("_law_a", 1), ("_law_b", 2), ("_law_c", 3), ("_law_d", 4)]) (N := ["_law_tolds_here", "_law_a", "_law_b", "_law_c", "_law_d"]) (sc := defScope s_law_made) (by decide +kernel)) (fun _ _ _ _ _ => (pg_tup rfl (pgs_cons (pg_name (i := 1) sc_law_made.nd rfl (.inl rfl)) (pgs_cons (pg_name (i := 2) sc_law_made.nd rfl (.inl rfl)) (pgs_cons (pg_name (i := 3) sc_law_made.nd rfl (.inl rfl)) (pgs_cons (pg_name (i := 4) sc_law_made.nd rfl (.inl rfl)) pgs_nil)))))) (fun _ _ _ _ _ => pts_nil) (fun _ _ _ _ _ => (pe_new M_sh hr (by decide) (by rfl) (pa_cons (pv 1) (pa_cons (pv 2) (pa_cons (pv 3) (pa_cons (pv 4) pa_nil))))))) pa_nil)))), ?_⟩
    refine ⟨_, rfl, D, rfl, ⟨_, .inl (.inl hT.ls)⟩, fun M nM => lc_list (K := K) (a := D) (xs := ps.map fun q => V.ref q.1) (fun i J => ∃ rs : List (Addr × Rec), rs.length = i ∧ J M = some (.lst (rs.map fun q => V.ref q.1)) ∧ (∀ q ∈ rs, ShAt C J q.1 q.2 ∧ q.2.fit) ∧ rs.map (·.2) = (ps.take i).map (·.2) ∧ Same H J)
      ⟨[], rfl, upd_same, (fun q hq => by cases hq), rfl, same_new nM⟩ (fun i J _ ⟨_, _, _, _, _, sJ⟩ => .inl (.inl (sJ _ _ hT.ls))) ?_ ?_⟩
    · rintro i v J hi ⟨rs, rfl, eM, hs, er, sJ⟩
      rw [List.getElem?_map] at hi
      cases hq : ps[rs.length]? with
      | none =>
        rw [hq] at hi
        cases hi
      | some q =>
        rw [hq] at hi
        cases hi
        have mq : q ∈ ps := List.mem_of_getElem? hq
        obtain ⟨tq, oq⟩ := hT.tp q mq
        have il : rs.length < ps.length := (List.getElem?_eq_some_iff.mp hq).1
        refine ⟨q.1, q.2.vs, rfl, .inl (.inl (sJ _ _ tq)), rfl, _, _, rfl, _, _, rfl, _, _, rfl, _, _, rfl, rfl, rfl, yes (iteT ?_)⟩
        refine ⟨_, rfl, _, rfl, _, rfl, _, rfl, fun x dx nx ndx nex => ⟨x, dx, q.2, rfl, upd_same, oq.fit, fun b G nb gx gb keep => ⟨rfl, ?_⟩⟩⟩
        have sG : Same J G := fun c o e => keep c o (by rw [upd_ne (ne_of_none e nx), upd_ne (ne_of_none e ndx)]; exact e) (ne_of_none e nx)
        have gM := sG _ _ eM
        refine ⟨_, gM, small1000 (by rw [List.length_map]; omega), rs ++ [(x, q.2)], by rw [List.length_append]; rfl, ?_, fun r hr => ?_, ?_, ?_⟩
        · rw [upd_same, List.map_append]
          rfl
        · rcases List.mem_append.mp hr with hr | hr
          · obtain ⟨h1, h2⟩ := hs r hr
            exact ⟨(h1.same sG).list gM, h2⟩
          · rw [List.mem_singleton.mp hr]
            exact ⟨ShAt.list ⟨dx, b, gx, gb⟩ gM, oq.fit⟩
        · rw [List.map_append, er, List.take_add_one, hq, List.map_append]
          rfl
        · intro c o e
          rw [upd_ne (ne_of_none e nM)]
          exact sG _ _ (sJ _ _ e)
    · rintro J ⟨rs, el, eM, hs, er, sJ⟩
      refine ⟨M, _, rfl, .inl ⟨.inl (.inl eM), fun a na => ?_⟩⟩
      rw [List.length_map, List.take_length] at er
      have s1 : Same J (upd J a (.tup (rs.map fun q => V.ref q.1))) := same_new na
      exact k a _ rs (sJ.free na) ⟨upd_same, fun q hq => ⟨(hs q hq).1.same s1, (hs q hq).2⟩⟩ er (sJ.trans s1)
/-! ### _law_cut -/
theorem neg_back {α : Type} (xs : List α) {h : Int} (h0 : 0 < h) : (xs.drop (HT.sIx xs.length 0 (some (-h)))).take (HT.sIx xs.length xs.length none - HT.sIx xs.length 0 (some (-h))) = xs.drop (xs.length - h.toNat) := by
  have e : HT.sIx xs.length 0 (some (-h)) = xs.length - h.toNat := by
    show (if -h < 0 then (-h + (xs.length : Int)).toNat else min (-h).toNat xs.length) = _
    rw [if_pos (by omega)]
    omega
  rw [e, HT.sIx_none, List.take_of_length_le (by rw [List.length_drop]; omega)]
theorem cutsV_snoc (ps : List (Addr × Rec)) {i : Nat} {q : Addr × Rec} (h : ps[i]? = some q) (xs : List V) :
    cutsV ((ps.take (i + 1)).map (·.2)) xs = cut q.2.l.toNat q.2.h.toNat q.2.t.toNat (ones q.2.z.cps.toList) (cutsV ((ps.take i).map (·.2)) xs) := by
  rw [List.take_add_one, h, List.map_append]
  unfold cutsV
  rw [List.foldl_append]
  rfl
def spCut : Sp := fun vs H Q _ => ∃ (D T : Addr) (ps : List (Addr × Rec)) (xs : List V), vs = [.ref D, .ref T] ∧ ToldsAt H D ps ∧ H T = some (.lst xs) ∧ xs.length ≤ 600 ∧ ∀ (U : Addr) (G : Hp), Same H G → G U = some (.lst (cutsV (ps.map (·.2)) xs)) → Q (.ref U) G
theorem cal_cut (B : Bi mg) (D : At K mg "_law_cut" s_law_cut ps_law_cut) : Cal P w K mg base 1 "_law_cut" ps_law_cut spCut := by
  refine D.cal sc_law_cut (fun vs H Q E h => ?_) (fun f cdv A outer s H vs Q E hr h => ?_)
  · obtain ⟨D, T, ps, xs, rfl, _⟩ := h
    rfl
  · obtain ⟨D, T, ps, xs, rfl, hT, hx, lx, k⟩ := h
    refine ⟨_, (pss_cons (ps_for PassesOwn.never rfl (pi_list (pv 0)) (pg_tup rfl (pgs_cons (pg_name (i := 2) sc_law_cut.nd rfl (.inl rfl)) (pgs_cons (pg_name (i := 3) sc_law_cut.nd rfl (.inl rfl)) (pgs_cons (pg_name (i := 4) sc_law_cut.nd rfl (.inl rfl)) (pgs_cons (pg_name (i := 5) sc_law_cut.nd rfl (.inl rfl)) pgs_nil)))))
      (pss_one (ps_if (pt_cmpR op_gt (pe_callB call_len (by rfl) B.len (by decide +kernel) (pa_cons (pv 1) pa_nil)) (pv 2) (nomark _)) (pss_cons (ps_par (i := 6) (j := 7) (by rfl) sc_law_cut.nd rfl rfl (by decide) rfl rfl (pa_cons (pe_slice sl_list (pv 1) po_none (po_some (pv 3))) (pa_cons (pe_mid (pe_ifExp (pt_cmpR op_gt (pv 4) pe_int (nomark _)) (pe_slice sl_list (pv 1) (po_some (pe_un un_neg (pv 4))) po_none) (pe_lst pa_nil))) pa_nil)) (by rfl))
      (pss_one (ps_set (i := 1) sc_law_cut.nd rfl (.inl rfl) (pe_op op_cat (pe_op op_cat (pv 6) (pe_lc (own := [("_law_each", 8)]) (by rfl) sc_law_cut.nd (pi_str (pv 5)) (blkOk_by (own := [("_law_each", 8)]) (N := ["_law_tolds_here", "_law_things", "_law_bound", "_law_low", "_law_high", "_law_sign", "_law_front", "_law_back", "_law_each"]) (sc := defScope s_law_cut) (by decide +kernel)) (fun _ _ _ _ _ => pg_name (i := 8) sc_law_cut.nd rfl (.inl rfl)) (fun _ _ _ _ _ => pts_nil) (fun _ _ _ _ _ => (pv 8)))) (pv 7))))) pss_nil)))
      (pss_one (ps_ret (pv 1)))), ?_⟩
    refine ⟨_, rfl, D, rfl, ⟨_, .inl (.inl hT.ls)⟩, for_list (K := K) (a := D) (xs := ps.map fun q => V.ref q.1) (fun i σ J => ∃ (U : Addr) (a b c d e f g : Option V), σ = [some (.ref D), some (.ref U), a, b, c, d, e, f, g] ∧ Same H J ∧ J U = some (.lst (cutsV ((ps.take i).map (·.2)) xs)) ∧ (cutsV ((ps.take i).map (·.2)) xs).length ≤ 600)
      ⟨T, none, none, none, none, none, none, none, rfl, Same.refl H, hx, lx⟩ (fun i σ J _ ⟨_, _, _, _, _, _, _, _, _, sJ, _⟩ => .inl (.inl (sJ _ _ hT.ls))) ?_ ?_⟩
    · rintro i v σ J hi ⟨U, a, b, c, d, e, f, g, rfl, sJ, eU, lU⟩
      rw [List.getElem?_map] at hi
      cases hq : ps[i]? with
      | none =>
        rw [hq] at hi
        cases hi
      | some q =>
        rw [hq] at hi
        cases hi
        obtain ⟨tq, oq⟩ := hT.tp q (List.mem_of_getElem? hq)
        have zl := oq.fit.zl
        have es := cutsV_snoc ps hq xs
        generalize hys : cutsV ((ps.take i).map (·.2)) xs = ys at eU lU es
        have o1 := oq.l0
        have o2 := oq.h0
        have o3 := oq.t0
        have o4 := oq.h1
        have o5 := oq.t1
        refine ⟨q.1, q.2.vs, rfl, .inl (.inl (sJ _ _ tq)), rfl, _, _, rfl, _, _, rfl, _, _, rfl, _, _, rfl, rfl, ?_⟩
        refine ⟨_, rfl, _, _, rfl, .inl ⟨_, .inl (.inl eU), rfl⟩, _, rfl, _, _, rfl, rfl, _, rfl, ite2 (fun e1 => ?_) (fun e1 => ?_)⟩
        · have e2 : q.2.l < (ys.length : Int) := of_decide_eq_true e1
          refine ⟨_, rfl, _, rfl, _, rfl, U, ys, rfl, .inl (.inl eU), fun F nF => ?_⟩
          have s1 : Same J (upd J F (.lst (cutV ys none (some q.2.h)))) := same_new nF
          refine ⟨fun v G => ∃ bk, v = .ref bk ∧ Same (upd J F (.lst (cutV ys none (some q.2.h)))) G ∧ G bk = some (.lst (ys.drop (ys.length - q.2.t.toNat))), ?_, ?_⟩
          · refine ⟨_, rfl, _, _, rfl, rfl, _, rfl, ite2 (fun e3 => ?_) (fun e3 => ?_)⟩
            · have e4 : 0 < q.2.t := of_decide_eq_true e3
              refine ⟨_, rfl, _, rfl, _, rfl, _, rfl, U, ys, rfl, .inl (.inl (s1 _ _ eU)), fun R nR => ⟨R, rfl, same_new nR, ?_⟩⟩
              rw [upd_same]
              exact congrArg (fun l => some (HO.lst l)) (neg_back ys e4)
            · have e4 : ¬ 0 < q.2.t := fun h => e3 (decide_eq_true h)
              have e5 : q.2.t.toNat = 0 := by omega
              refine ⟨Nat.zero_le _, fun R nR => ⟨R, rfl, same_new nR, ?_⟩⟩
              rw [upd_same, e5, Nat.sub_zero, List.drop_length]
          · rintro _ G ⟨bk, rfl, s2, eB⟩
            refine ⟨_, _, rfl, ?_⟩
            have eF : G F = some (.lst (ys.take q.2.h.toNat)) := by
              rw [s2 F _ upd_same]
              exact congrArg (fun l => some (HO.lst l)) (cut_front ys o2)
            refine ⟨_, rfl, _, rfl, q.2.z, rfl, fun M nM => lc_it walk_str (fun j G1 => Same G G1 ∧ G1 M = some (.lst (ones (q.2.z.cps.toList.take j)))) ⟨same_new nM, by rw [upd_same]; rfl⟩ (fun _ _ _ _ => trivial) ?_ ?_⟩
            · rintro j v G1 _ hj ⟨sG1, eM⟩ ⟨rfl, ch, hch, rfl⟩
              refine ⟨rfl, yes (iteT ⟨_, rfl, _, eM, small1000 ?_, ?_, ?_⟩)⟩
              · unfold ones
                rw [List.length_map, List.length_take]
                omega
              · intro c2 o e
                rw [upd_ne (ne_of_none e nM)]
                exact sG1 _ _ e
              · rw [upd_same]
                have hc' : q.2.z.cps.toList[j]? = some ch := by
                  rw [← Array.getElem?_toList] at hch
                  exact hch
                unfold ones
                rw [List.take_add_one, hc', List.map_append]
                rfl
            · rintro G1 ⟨sG1, eM⟩
              rw [List.take_of_length_le (show q.2.z.cps.toList.length ≤ q.2.z.cps.size from Nat.le_refl _)] at eM
              have le1 : (ones q.2.z.cps.toList).length ≤ 3 := by
                unfold ones
                rw [List.length_map]
                exact zl
              refine ⟨F, M, _, _, rfl, rfl, sG1 _ _ eF, eM, Nat.le_of_lt (small1000 (by rw [List.length_take]; omega)), fun R1 nR1 => ?_⟩
              have s3 : Same G1 (upd G1 R1 (.lst (ys.take q.2.h.toNat ++ ones q.2.z.cps.toList))) := same_new nR1
              refine ⟨_, rfl, R1, bk, _, _, rfl, rfl, upd_same, s3 _ _ (sG1 _ _ eB), Nat.le_of_lt (small1000 (by rw [List.length_append, List.length_take, List.length_drop]; omega)), fun R2 nR2 => ?_⟩
              refine ⟨R2, _, _, _, _, _, _, _, rfl, (sJ.trans s1).trans (s2.trans (sG1.trans (s3.trans (same_new nR2)))), ?_, ?_⟩
              · rw [upd_same, es]
                unfold cut
                rw [if_neg (show ¬ ys.length ≤ q.2.l.toNat by omega)]
              · rw [es]
                refine Nat.le_trans cut_length ?_
                omega
        · have e2 : ¬ q.2.l < (ys.length : Int) := fun h => e1 (decide_eq_true h)
          have e3 : cut q.2.l.toNat q.2.h.toNat q.2.t.toNat (ones q.2.z.cps.toList) ys = ys := by
            unfold cut
            rw [if_pos (by omega)]
          refine ⟨U, _, _, _, _, _, _, _, rfl, sJ, ?_, ?_⟩
          · rw [es, e3]
            exact eU
          · rw [es, e3]
            exact lU
    · rintro σ J ⟨U, a, b, c, d, e, f, g, rfl, sJ, eU, lU⟩
      rw [List.length_map, List.take_length] at eU
      exact ⟨_, rfl, k U J sJ eU⟩
end
end Gu
namespace Gu
open PySem PySem.Spec PyProof.Rows L2
/-! ### calls by keywords alone -/
structure CalK (P : Program) (w : World) (K : PySem.W.Frag) (mg : Str → Option Value) (base : Heap) (k : Nat) (x : Str) (ks : List Str) (gV : List V → List V) (sp : Sp) : Prop where
  ex : ∃ (f : Addr) (fd : FuncData) (ps : List Str) (g : List Value → List Value), FnOk P w K mg base CX0 k f fd ps sp ∧ mg x = some (.ref f) ∧ PySem.W.keepIn K (.ref f) = true ∧ KBn K fd ps 0 ks (fun _ ws => g ws) (fun _ zs => gV zs)
theorem Cal.kw {P : Program} {w : World} {K : PySem.W.Frag} {mg : Str → Option Value} {base : Heap} {k : Nat} {x : Str} {st : Stmt} {ps ks : List Str} {sp : Sp} (g : {α : Type} → List α → List α) (c : Cal P w K mg base k x ps sp) (D : At K mg x st ps)
    (hv : ∀ {zs : List V} {ws : List Value}, Vals zs ws → Vals (g zs) (g ws))
    (hb : ∀ (kV doc pm : Value) (an : Option Addr) (cdv ct : Value) (ws : List Value), ws.length = ks.length → bindArgs (PySem.W.fnOf x x (defArgs st) (defBody st) (defScope st) .none kV doc pm an cdv ct) ⟨[], ks.zip ws⟩ = pure (ps.zip (g ws))) : CalK P w K mg base k x ks g sp := by
  obtain ⟨f, fd, F, hm, kp, b, oc, od, sl, lk⟩ := c.ex
  obtain ⟨f2, fd2, F2, b2, hm2⟩ := D.ex
  cases hm.symm.trans hm2
  obtain ⟨oc2, od2, kV, doc, pm, an, cdv, ct, sl2, e, lk2, hcd⟩ := F2.ex
  cases lk.symm.trans lk2
  refine ⟨f, fd, ps, g, F, hm, kp, ⟨fun s us ws I l1 l2 => ?_, fun _ r => hv r⟩⟩
  cases us with
  | nil =>
    rw [e]
    exact BindsTo.of_eq (hb kV doc pm an cdv ct ws l2)
  | cons u r => cases l1
def tKw (m : Nat) (gV : List V → List V) (sp : Sp) (tk : TA) : TE := fun σ H Q => tk σ H fun zs G => zs.length = m ∧ sp (gV zs) G Q E0
section
variable {X : Cx} {k j : Nat} {x : Str} {ks : List Str} {gV : List V → List V} {sp : Sp} {p pos : Pos} {kws : List Keyword} {tk : TA}
theorem pe_kw (c : CalK X.prog X.w X.K X.mg X.base k x ks gV sp) (hr : Room j X.A) (hk : k ≤ j) (hg : Gl X x) (hkw : PK X kws tk) (hall : (backToKw pos (keywordEach kws X.env)).all (·.1.isSome) = true := by rfl)
    (hks : (backToKw pos (keywordEach kws X.env)).filterMap (·.1) = ks := by rfl) (hdb : (x == ("__debug__" : Str)) = false := by decide)
    (hpl : ((backTo pos (starEach [] X.env)).any (·.1) || (backToKw pos (keywordEach kws X.env)).any (·.1.isNone)) = false := by rfl) : PE X (.Call (.Name x p) [] kws pos) (tKw ks.length gV sp tk) := by
  obtain ⟨f, fd, ps, g, F, hm, kp, b⟩ := c.ex
  refine ⟨fun pins s σ H Q I h => ?_⟩
  refine wpAny_Call_Name_kw (ld_glob I hg hm ?_ hdb)
  refine PySem.W.callWith_KW0 (h₀ := X.base) I.ok.mod.kin kp hall ?_ hpl
  refine thn (hkw.run pos pins s σ H _ I h) fun ws s2 ⟨zs, G, I2, rz, l2, q2⟩ => ⟨I2.kIn, ?_⟩
  rw [hks]
  exact run_fnN (us := []) (vs := []) F (hr.mono hk) b pass0 I2 .nil rz rfl l2 q2
end
def swap2 {α : Type} : List α → List α
  | [a, b] => [b, a]
  | l => l
theorem swap2_vals {zs : List V} {ws : List Value} (r : Vals zs ws) : Vals (swap2 zs) (swap2 ws) := by
  cases r with
  | nil => exact .nil
  | cons a r =>
    cases r with
    | nil => exact .cons a .nil
    | cons b r =>
      cases r with
      | nil => exact .cons b (.cons a .nil)
      | cons c r => exact .cons a (.cons b (.cons c r))
theorem str_ext {a b : Str} (h : a.cps.toList = b.cps.toList) : a = b := by
  cases a
  cases b
  exact congrArg Str.mk (Array.ext' h)
end Gu
namespace Gu
open PySem PySem.Spec PyProof.Rows L2
section
variable {P : Program} {w : World} {K : PySem.W.Frag} {mg : Str → Option Value} {base : Heap} {C : Addr}
def spSeen : Sp := fun vs H Q _ => ∃ (D : Addr) (ps : List (Addr × Rec)) (z : Str), vs = [.ref D, .str z] ∧ ToldsAt H D ps ∧ z.cps.toList.length ≤ 200 ∧ ∀ (y : Str) (G : Hp), Same H G → y.cps.toList = cuts (ps.map (·.2)) z.cps.toList → Q (.str y) G
theorem cal_seen (B : Bi mg) (D : At K mg "_law_seen" s_law_seen ps_law_seen) (C_law_cut : Cal P w K mg base 1 "_law_cut" ps_law_cut spCut) : Cal P w K mg base 2 "_law_seen" ps_law_seen spSeen := by
  refine D.cal sc_law_seen (fun vs H Q E h => ?_) (fun f cdv A outer s H vs Q E hr h => ?_)
  · obtain ⟨D, ps, z, rfl, _⟩ := h
    rfl
  · obtain ⟨D, ps, z, rfl, hT, zl, k⟩ := h
    refine ⟨_, (pss_one (ps_ret (pe_join pe_str (pe_own C_law_cut hr (by decide) (by rfl) (pa_cons (pv 0) (pa_cons (pe_lc (own := [("_law_each", 2)]) (by rfl) sc_law_seen.nd (pi_str (pv 1)) (blkOk_by (own := [("_law_each", 2)]) (N := ["_law_tolds_here", "_law_line_here", "_law_each"]) (sc := defScope s_law_seen) (by decide +kernel)) (fun _ _ _ _ _ => pg_name (i := 2) sc_law_seen.nd rfl (.inl rfl)) (fun _ _ _ _ _ => pts_nil) (fun _ _ _ _ _ => (pv 2))) pa_nil)))))), ?_⟩
    refine ⟨⟨_, rfl⟩, _, rfl, _, rfl, z, rfl, fun M nM => lc_it walk_str (fun j G => Same H G ∧ G M = some (.lst (ones (z.cps.toList.take j)))) ⟨same_new nM, by rw [upd_same]; rfl⟩ (fun _ _ _ _ => trivial) ?_ ?_⟩
    · rintro j v G _ hj ⟨sG, eM⟩ ⟨rfl, ch, hch, rfl⟩
      refine ⟨rfl, yes (iteT ⟨_, rfl, _, eM, small1000 ?_, ?_, ?_⟩)⟩
      · unfold ones
        rw [List.length_map, List.length_take]
        omega
      · intro c2 o e
        rw [upd_ne (ne_of_none e nM)]
        exact sG _ _ e
      · rw [upd_same]
        have hc' : z.cps.toList[j]? = some ch := by
          rw [← Array.getElem?_toList] at hch
          exact hch
        unfold ones
        rw [List.take_add_one, hc', List.map_append]
        rfl
    · rintro G ⟨sG, eM⟩
      rw [List.take_of_length_le (show z.cps.toList.length ≤ z.cps.size from Nat.le_refl _)] at eM
      refine ⟨D, M, ps, _, rfl, hT.same sG, eM, ?_, fun U G2 s2 eU => ?_⟩
      · unfold ones
        rw [List.length_map]
        omega
      · rw [cutsV_ones, ones_map] at eU
        have lc := cuts_len (ps.map (·.2)) (xs := z.cps.toList) (fun r hr => by
          obtain ⟨q, hq, rfl⟩ := List.mem_map.mp hr
          exact (hT.tp q hq).2.fit) zl
        refine ⟨_, U, _, rfl, rfl, .inl (.inl (.inl eU)), ?_, k _ G2 (sG.trans s2) (tjoin_ones _)⟩
        rw [ones_len, List.length_map]
        have e0 : (("" : String) : Str).length = 0 := by decide +kernel
        rw [e0]
        omega
end
end Gu
namespace Gu
open PySem PySem.Spec PyProof.Rows L2
section
variable {P : Program} {w : World} {K : PySem.W.Frag} {mg : Str → Option Value} {base : Heap} {C : Addr}
def spLine : Sp := fun vs H Q _ => ∃ (p : Addr) (n : Int), vs = [.ref p, .int n] ∧ Pot H p ∧ 0 ≤ n ∧ n ≤ 200 ∧ ∀ (y : Str) (G : Hp), Ladled p H G → y.cps.toList.length = n.toNat → isTxt y 200 = true → Q (.str y) G
theorem cal_line (B : Bi mg) (D : At K mg "_law_line" s_law_line ps_law_line) (C_law_one_of : Cal P w K mg base 2 "_law_one_of" ps_law_one_of (spOneOf K)) : Cal P w K mg base 3 "_law_line" ps_law_line spLine := by
  refine D.cal sc_law_line (fun vs H Q E h => ?_) (fun f cdv A outer s H vs Q E hr h => ?_)
  · obtain ⟨p, n, rfl, _⟩ := h
    rfl
  · obtain ⟨p, n, rfl, hp, n0, n1, k⟩ := h
    refine ⟨_, (pss_cons (ps_set (i := 2) sc_law_line.nd rfl (.inr rfl) (pe_own C_law_one_of hr (by decide) (by rfl) (pa_cons (pv 0) (pa_cons (pe_lst (pa_cons pe_str (pa_cons pe_str (pa_cons pe_str pa_nil)))) pa_nil))))
      (pss_one (ps_ret (pe_join pe_str (pe_lc (own := [("_law_k", 3)]) (by rfl) sc_law_line.nd (pi_range1 (by rfl) B.range (pa_cons (pv 1) pa_nil)) (blkOk_by (own := [("_law_k", 3)]) (N := ["_law_pot_here", "_law_many", "_law_signs_here", "_law_k"]) (sc := defScope s_law_line) (by decide +kernel)) (fun _ _ _ _ _ => pg_name (i := 3) sc_law_line.nd rfl (.inl rfl)) (fun _ _ _ _ _ => pts_nil) (fun _ _ _ _ _ => (pe_own C_law_one_of hr (by decide) (by rfl) (pa_cons (pv 0) (pa_cons (pv 2) pa_nil))))))))), ?_⟩
    refine ⟨_, rfl, by show 3 ≤ sizeLine; decide, fun q0 m0 => ?_⟩
    have L0 : Ladled p H (upd H q0 (.lst [.str ".0", .str "ab~", .str ".0123456789abcdefghijklmnopqrstuvwxyz~"])) := .ofSame hp (same_new m0)
    refine ⟨p, L0.pot, .inl ⟨q0, _, rfl, .inl (.inl upd_same), hp.ne m0, by decide, by decide, fun v G1 hv L1 => ?_⟩⟩
    obtain ⟨g, rfl, g0, g1, gs⟩ : ∃ g : Str, v = .str g ∧ 0 < g.cps.toList.length ∧ g.cps.toList.length < 1000 ∧ ∀ c ∈ g.cps.toList, c ∈ signs.cps.toList := by
      have a : ∀ g ∈ ([".0", "ab~", ".0123456789abcdefghijklmnopqrstuvwxyz~"] : List Str), 0 < g.cps.toList.length ∧ g.cps.toList.length < 1000 ∧ ∀ c ∈ g.cps.toList, c ∈ signs.cps.toList := by decide +kernel
      have e : ([.str ".0", .str "ab~", .str ".0123456789abcdefghijklmnopqrstuvwxyz~"] : List V) = ([".0", "ab~", ".0123456789abcdefghijklmnopqrstuvwxyz~"] : List Str).map V.str := rfl
      rw [e] at hv
      obtain ⟨g, h1, h2⟩ := List.mem_map.mp hv
      exact ⟨g, h2.symm, a g h1⟩
    have M1 : Ladled p H G1 := L0.trans L1
    refine ⟨⟨_, rfl⟩, _, rfl, n, rfl, by omega, by omega, fun M nM => lc_range (lo := 0) (n := n.toNat) (fun i J => ∃ cs : List Nat, cs.length = i ∧ (∀ c ∈ cs, c ∈ signs.cps.toList) ∧ J M = some (.lst (ones cs)) ∧ Ladled p H J)
      ⟨[], rfl, (fun c hc => by cases hc), upd_same, M1.mut (M1.free nM) (M1.pot.ne nM)⟩ ?_ ?_⟩
    · rintro i J hi ⟨cs, rfl, hc, eM, L⟩
      have hM : H M = none := M1.free nM
      refine ⟨rfl, yes (iteT ⟨_, rfl, _, rfl, p, L.pot, .inr ⟨g, rfl, g0, g1, fun c G c1 L2 => ?_⟩⟩)⟩
      have gM := L2.keep _ _ eM (hp.ne hM)
      refine ⟨_, gM, small1000 (by unfold ones; rw [List.length_map]; omega), cs ++ [c], by rw [List.length_append]; rfl, fun d hd => ?_, ?_, (L.trans L2).mut hM (hp.ne hM)⟩
      · rcases List.mem_append.mp hd with hd | hd
        · exact hc d hd
        · rw [List.mem_singleton.mp hd]
          exact gs c c1
      · rw [upd_same]
        unfold ones
        rw [List.map_append]
        rfl
    · rintro J ⟨cs, el, hc, eM, L⟩
      rw [ones_map] at eM
      refine ⟨_, M, _, rfl, rfl, .inl (.inl (.inl eM)), ?_, k _ J L ?_ ?_⟩
      · rw [ones_len, List.length_map]
        have e0 : (("" : String) : Str).length = 0 := by decide +kernel
        rw [e0]
        omega
      · rw [tjoin_ones]
        exact el
      · unfold isTxt
        rw [tjoin_ones, Bool.and_eq_true, List.all_eq_true]
        refine ⟨decide_eq_true ?_, fun c h => decide_eq_true (hc c h)⟩
        show ((Txt.join "" (cs.map one)).cps.toList.length : Int) ≤ 200
        rw [tjoin_ones]
        omega
end
end Gu
namespace Gu
open PySem PySem.Spec PyProof.Rows L2
section
variable {P : Program} {w : World} {K : PySem.W.Frag} {mg : Str → Option Value} {base : Heap} {C : Addr}
theorem Ladled.row {C : Addr} {H G : Hp} {p a : Addr} {rs : List (Addr × Rec)} (L : Ladled p H G) (hp : Pot H p) (h : RowAt C H a rs) : RowAt C G a rs := by
  obtain ⟨x, y, z, e⟩ := hp
  refine ⟨L.keep _ _ h.tp (ne_of h.tp e (by intro z; cases z)), fun q hq => ⟨?_, (h.sh q hq).2⟩⟩
  obtain ⟨dx, b, h1, h2⟩ := (h.sh q hq).1
  exact ⟨dx, b, L.keep _ _ h1 (ne_of h1 e (by intro z; cases z)), L.keep _ _ h2 (ne_of h2 e (by intro z; cases z))⟩
theorem Ladled.tolds {H G : Hp} {p D : Addr} {ps : List (Addr × Rec)} (L : Ladled p H G) (n : D ≠ p) (nq : ∀ q ∈ ps, q.1 ≠ p) (h : ToldsAt H D ps) : ToldsAt G D ps := ⟨L.keep _ _ h.ls n, fun q hq => ⟨L.keep _ _ (h.tp q hq).1 (nq q hq), (h.tp q hq).2⟩⟩
/-! ### signs stay signs -/
def Signs (xs : List Nat) : Prop := ∀ c ∈ xs, c ∈ signs.cps.toList
theorem isTxt_signs {z : Str} {m : Int} (h : isTxt z m = true) : Signs z.cps.toList := by
  unfold isTxt at h
  rw [Bool.and_eq_true, List.all_eq_true] at h
  exact fun c hc => of_decide_eq_true (h.2 c hc)
theorem cut_signs {l h t : Nat} {m xs : List Nat} (hm : Signs m) (hx : Signs xs) : Signs (cut l h t m xs) := by
  unfold cut
  split
  · exact hx
  · intro c hc
    rcases List.mem_append.mp hc with hc | hc
    · rcases List.mem_append.mp hc with hc | hc
      · exact hx c (List.mem_of_mem_take hc)
      · exact hm c hc
    · exact hx c (List.mem_of_mem_drop hc)
theorem cuts_signs : ∀ (rs : List Rec) {xs : List Nat}, (∀ r ∈ rs, r.fit) → Signs xs → Signs (cuts rs xs)
  | [], _, _, h => h
  | r :: rs, xs, hf, h => cuts_signs rs (xs := r.cut xs) (fun q hq => hf q (List.mem_cons_of_mem _ hq)) (cut_signs (isTxt_signs (hf r (List.mem_cons_self ..)).z) h)
theorem signs_ok {y : Str} (h : Signs y.cps.toList) : (PyData.str y).canLay0 = true := by
  have a : ∀ c ∈ signs.cps.toList, c < 0x110000 := by decide +kernel
  show y.cps.all _ = true
  rw [← Array.all_toList, List.all_eq_true]
  exact fun c hc => decide_eq_true (a c (h c hc))
theorem shaped_two {y z : Str} (hy : Signs y.cps.toList) (hz : Signs z.cps.toList) : SeqAt.shaped (.list [.str y, .str z]) = true := by
  have a := signs_ok hy
  have b := signs_ok hz
  show ((PyData.str y).canLay0 && ((PyData.str z).canLay0 && true) && true) = true
  rw [a, b]
  rfl
end
end Gu
namespace Gu
open PySem PySem.Spec PyProof.Rows L2
/-! ### defs that are called where no container is being written out -/
structure FnG (P : Program) (w : World) (K : PySem.W.Frag) (mg : Str → Option Value) (base : Heap) (k : Nat) (f : Addr) (fd : FuncData) (ps : List Str) (sp : Sp) : Prop where
  len : ∀ vs H Q E, sp vs H Q E → vs.length = ps.length
  run : ∀ (A : Around) (outer : List Env) (s : Shared) (H : Hp) (args : Args) (us : List Value) (vs : List V) (Q : VK) (E : XK), Room k A → A.guards = some [] → Env0 P w K mg base A outer s H → BindsTo s fd args (ps.zip us) → Vals vs us → sp vs H Q E →
    codeAny (model P w) A (.call (.ref f) args) (CR CX0 outer P w H s Q E) s
section
variable {P : Program} {w : World} {K : PySem.W.Frag} {mg : Str → Option Value} {base : Heap}
theorem okG {x qual : Str} {st : Stmt} {f : Addr} {fd : FuncData} {N ps : List Str} {k : Nat} {sp : Sp} (F : Fun K x qual st f fd) (S : FnScope N ps (defScope st)) (len : ∀ vs H Q E, sp vs H Q E → vs.length = ps.length)
    (body : ∀ (cdv : Value) (A : Around) (outer : List Env) (s : Shared) (H : Hp) (vs : List V) (Q : VK) (E : XK), Room k (A.deeper (envOfC qual (defScope st) s.heap.objs.size f cdv)) → A.guards = some [] → sp vs H Q E →
      ∃ t, PSs (cxOf CX0 P w K mg base N qual (defScope st) f cdv A outer s H E).nox (defBody st) t ∧ t { nx := fun _ G => Q .non G, rt := Q } (start N vs) H) : FnG P w K mg base (k + 1) f fd ps sp := by
  obtain ⟨oc, od, kV, doc, pm, an, cdv, ct, osl, rfl, lk, hcd⟩ := F.ex
  refine ⟨len, fun A outer s H args us vs Q E room quiet env binds rel want => ?_⟩
  have stays : ∀ b o, base.get? b = some o → s.heap.get? b = some o := fun b o e => (env.bs b o e).1
  have inK : K.In s.heap := env.mod.kin.keeps stays
  have free : s.heap.NoLimit := env.mod.nolimit.keeps stays
  refine codeAny_call_function room.depth (inK _ _ lk) rfl S.co S.gen rfl (PySem.W.codeRec_of inK hcd) (binds _ _ _ _ ?_)
  refine wpAny_newFunctionEnv_cells S.kind (fun ⟨n, v⟩ hy => (S.par n (List.of_mem_zip hy).1).imp id fun q => ⟨q, PySem.W.cellsFrom_some _ _ _ (.inl q)⟩) fun env1 e1 s1 c1 => ?_
  subst e1
  refine ⟨free.keeps c1.toInCall.keep, codeAny_func ?_⟩
  obtain ⟨t, d, q⟩ := body cdv A outer s H vs Q E (room.deeper _) quiet want
  refine wpAny_mono (d.nox.run [] s1 (start N vs) H _ (inv_start S room.hd env (len _ _ _ _ want) rel c1) q) (fun fl s2 h2 => ?_) fun e s2 h2 => h2
  cases fl with
  | ret u =>
    obtain ⟨v, σ2, G, J, rv, r⟩ := h2
    exact ⟨v, G, J.os, J.bare, J.base, J.hok, rv, r⟩
  | next =>
    obtain ⟨σ2, G, J, r⟩ := h2
    exact ⟨V.non, G, J.os, J.bare, J.base, J.hok, rfl, r⟩
  | brk => exact (h2.choose_spec.choose_spec.2 : False).elim
  | cont => exact (h2.choose_spec.choose_spec.2 : False).elim
structure CalG (P : Program) (w : World) (K : PySem.W.Frag) (mg : Str → Option Value) (base : Heap) (k : Nat) (x : Str) (ps : List Str) (sp : Sp) : Prop where
  ex : ∃ (f : Addr) (fd : FuncData), FnG P w K mg base k f fd ps sp ∧ mg x = some (.ref f) ∧ PySem.W.keepIn K (.ref f) = true ∧ Binds K fd ps []
theorem At.calG {x : Str} {st : Stmt} {N ps : List Str} {k : Nat} {sp : Sp} (D : At K mg x st ps) (S : FnScope N ps (defScope st)) (len : ∀ vs H Q E, sp vs H Q E → vs.length = ps.length)
    (body : ∀ (f : Addr) (cdv : Value) (A : Around) (outer : List Env) (s : Shared) (H : Hp) (vs : List V) (Q : VK) (E : XK), Room k (A.deeper (envOfC x (defScope st) s.heap.objs.size f cdv)) → A.guards = some [] → sp vs H Q E →
      ∃ t, PSs (cxOf CX0 P w K mg base N x (defScope st) f cdv A outer s H E).nox (defBody st) t ∧ t { nx := fun _ G => Q .non G, rt := Q } (start N vs) H) : CalG P w K mg base (k + 1) x ps sp := by
  obtain ⟨f, fd, F, b, g⟩ := D.ex
  exact ⟨f, fd, okG F S len (body f), g, F.kp, b⟩
end
def tCallG (sp : Sp) (t : TA) : TE := fun σ H Q => t σ H fun vs G => sp vs G Q E0
section
variable {X : Cx} {k j : Nat} {x : Str} {ps : List Str} {sp : Sp} {p pos : Pos} {e : Expr} {es : List Expr} {t : TA}
theorem pe_ownG (c : CalG X.prog X.w X.K X.mg X.base k x ps sp) (hr : Room j X.A) (hk : k ≤ j) (quiet : X.A.guards = some []) (hg : Gl X x) (ha : PA X (e :: es) t)
    (hdb : (x == ("__debug__" : Str)) = false := by decide) (he : starEach (e :: es) X.env = (false, eval e X.env) :: starEach es X.env := by rfl) (hpl : (backTo pos (starEach es X.env)).any (·.1) = false := by rfl) :
    PE X (.Call (.Name x p) (e :: es) [] pos) (tCallG sp t) := by
  obtain ⟨f, fd, F, hm, kp, b⟩ := c.ex
  refine ⟨fun pins s σ H Q I h => wpAny_Call_Name_kw (ld_glob I hg hm (PySem.W.callWith_K (h₀ := X.base) I.ok.mod.kin kp (thn (ha.run pos pins s σ H _ I h) fun us s1 ⟨vs, G, I1, r, q⟩ => ⟨I1.kIn, ?_⟩) he hpl) hdb)⟩
  have ll : (us ++ []).length = ps.length := by
    rw [List.append_nil, ← r.length]
    exact F.len _ _ _ _ q
  have bt := b s1 us I1.kIn ll
  rw [List.append_nil] at bt
  refine wpAny_call (codeAny_mono (F.run X.A X.stack s1 G ⟨us, []⟩ us vs Q E0 (hr.mono hk) quiet I1.env0 bt r q) fun rr s2 h2 => ?_)
  cases rr with
  | error e => exact (h2 : False).elim
  | ok fl =>
    cases fl with
    | ret u => exact I1.after h2
    | next => exact (h2 : False).elim
    | brk => exact (h2 : False).elim
    | cont => exact (h2 : False).elim
end
end Gu
namespace Gu
open PySem PySem.Spec PyProof.Rows L2
/-- a heap in which nothing is tracked but, at most, the script at a, which stands still there -/
theorem quiet_end {P : Program} {w : World} {K : PySem.W.Frag} {mg mb : Str → Option Value} {k : Nat} {fa a : Addr} {fd : FuncData} {x : Str} {sp : Sp} {s : Shared} {us : List Value} {H : Hp} (inK : K.In s.heap) (nsG : s.heap.Ns mainGlobals mg) (nsB : s.heap.Ns builtinsNs mb)
    (bb : ∀ x : Str, x ≠ "__name__" → mb x = bootBuiltins x) (nl : s.heap.NoLimit) (ng : s.gens = #[]) (at_a : s.heap.get? a = some { cls := .type "list", data := .seq us.toArray }) (room : Room k callerA)
    (F : ∀ base : Heap, K.In base → base.Ns mainGlobals mg → FnG P w K mg base k fa fd [x] sp) (bind : ∀ (s : Shared) (u : Value), BindsTo s fd ⟨[u], []⟩ [(x, u)]) (want : sp [.ref a] H (fun v _ => v = .bl true) fun _ _ _ => False)
    (only : Only H) (ok : HOk P w H s.heap) (one : ∀ b, H b ≠ none → b = a ∧ K.lookup a = none) :
    codeAny (model P w) callerA (.call (.ref fa) ⟨[.ref a], []⟩) (fun r s2 => r = .ok (.ret (.bool true)) ∧ OldK s.heap s2.heap ∧ s2.os = s.os ∧ AllBare s2.gens) s := by
  have dictFree : ∀ (b : Addr) (o : Obj) (es : Array DictEntry) (ep : Nat), s.heap.get? b = some o → o.data = .dict es ep → H b = none := fun b o es ep e d =>
    Classical.byContradiction fun z => by
      have hb := (one b z).1
      rw [hb, at_a] at e
      cases e
      exact Data.noConfusion d
  have hiddenNs : ∀ (b : Addr) (m : Str → Option Value), s.heap.Ns b m → (hidT s.heap H).Ns b m := fun b m h => by
    obtain ⟨o, es, ep, e, d, r⟩ := h
    exact ⟨o, es, ep, hidT_get e (dictFree b o es ep e d), d, r⟩
  have hiddenK : K.In (hidT s.heap H) := fun b o e => hidT_get (inK b o e) (Classical.byContradiction fun z => by
    obtain ⟨h1, h2⟩ := one b z
    rw [h1, h2] at e
    cases e)
  have env : Env0 P w K mg (hidT s.heap H) callerA [] s H := by
    refine ⟨rfl, ⟨hiddenK, hiddenNs _ _ nsG, ⟨mb, hiddenNs _ _ nsB, bb⟩, ?_⟩, fun b o e => of_hidT e, Nat.le_of_eq (hidT_size _ _), trivial, fun b hb => absurd (show b ∈ ([] : List Addr) from hb) List.not_mem_nil, ok, .of_eq ng⟩
    obtain ⟨mc, h1, h2⟩ := nl
    exact ⟨mc, hiddenNs _ _ h1, h2⟩
  refine codeAny_mono ((F _ hiddenK (hiddenNs _ _ nsG)).run callerA [] s H ⟨[.ref a], []⟩ [.ref a] [.ref a] _ _ room rfl env (bind s (.ref a)) (.cons rfl .nil) want) fun r s2 h2 => ?_
  cases r with
  | error e => exact (h2 : False).elim
  | ok fl =>
    cases fl with
    | next => exact (h2 : False).elim
    | brk => exact (h2 : False).elim
    | cont => exact (h2 : False).elim
    | ret u =>
      obtain ⟨v, G, os, bare, un, ok2, rv, hv⟩ := h2
      cases (show v = .bl true from hv)
      cases (show u = Value.bool true from rv)
      refine ⟨rfl, OldK.of_keep fun b o e => ?_, os, bare⟩
      rcases only b with z | ⟨ob, xs, z⟩
      · exact un.keep b o e z (fun y => absurd (show b ∈ ([] : List Addr) from y) List.not_mem_nil) (by simp)
      · have e1 := (ok b _ z).1
        have e2 := (ok2 b _ (un.frzs b ob _ z)).1
        rw [e] at e1
        cases e1
        exact e2
/-- the law's call, by its promise -/
theorem quiet_call {P : Program} {w : World} {K : PySem.W.Frag} {mg mb : Str → Option Value} {k : Nat} {fa a : Addr} {fd : FuncData} {x : Str} {sp : Sp} {s : Shared} {us : List Value} {ns : List Int} (inK : K.In s.heap) (nsG : s.heap.Ns mainGlobals mg) (nsB : s.heap.Ns builtinsNs mb)
    (bb : ∀ x : Str, x ≠ "__name__" → mb x = bootBuiltins x) (nl : s.heap.NoLimit) (ng : s.gens = #[]) (at_a : s.heap.get? a = some { cls := .type "list", data := .seq us.toArray }) (nums : IntsAre us ns) (small : ns.length ≤ sizeLine) (room : Room k callerA)
    (F : ∀ base : Heap, K.In base → base.Ns mainGlobals mg → FnG P w K mg base k fa fd [x] sp) (bind : ∀ (s : Shared) (u : Value), BindsTo s fd ⟨[u], []⟩ [(x, u)])
    (want : ∀ H : Hp, SqL K H a (ns.map V.int) → sp [.ref a] H (fun v _ => v = .bl true) fun _ _ _ => False) :
    codeAny (model P w) callerA (.call (.ref fa) ⟨[.ref a], []⟩) (fun r s2 => r = .ok (.ret (.bool true)) ∧ OldK s.heap s2.heap ∧ s2.os = s.os ∧ AllBare s2.gens) s := by
  have rel := vals_ints nums
  cases hk : K.lookup a with
  | some o =>
    have e := inK a o hk
    rw [at_a] at e
    cases e
    refine quiet_end (H := fun _ => none) inK nsG nsB bb nl ng at_a room F bind (want _ (.inr ⟨_, us.toArray, _, hk, rfl, rfl, rfl, ?_, rel⟩)) (fun _ => .inl rfl) (fun b u z => nomatch (show (none : Option HO) = some u from z)) fun b z => absurd rfl z
    rw [List.size_toArray, nums.length]
    exact small
  | none =>
    refine quiet_end (H := upd (fun _ => none) a (.frz { cls := .type "list", data := .seq us.toArray } (.lst (ns.map V.int)))) inK nsG nsB bb nl ng at_a room F bind (want _ (.inl (.inr ⟨_, upd_same⟩))) (fun b => ?_) (fun b u z => ?_) fun b z => ?_
    · by_cases hb : b = a
      · exact .inr ⟨_, _, by rw [hb]; exact upd_same⟩
      · exact .inl (upd_ne hb)
    · by_cases hb : b = a
      · subst hb
        rw [upd_same] at z
        cases z
        exact ⟨at_a, by rw [List.length_map]; exact small, us, _, rel, at_a⟩
      · rw [upd_ne hb] at z
        cases z
    · by_cases hb : b = a
      · exact ⟨hb, hk⟩
      · exact absurd (upd_ne hb) z
theorem walkG {l : PySem.W.OpenLaw} {n k : Nat} {q : Program} {loose : List Str} {XP : (Str → Option Value) → Heap → Prop} {YP : World → Heap → Prop} {d : DefRec} {K : Params → PySem.W.Frag} {x : Str} {sp : PySem.W.Frag → Sp} (most : l.most = some n) (small : n ≤ sizeLine) (plain : d.params.defaults = []) (room : Room k callerA)
    (left : ∀ (w : World) (h : Heap), YP w h → (K w.params).In h)
    (F : ∀ (w : World) (mg : Str → Option Value) (fa : Addr) (h : Heap), (K w.params).In h → h.Ns mainGlobals mg → mg d.name = some (.ref fa) → ∃ fd : FuncData, (∀ (s : Shared) (u : Value), BindsTo s fd ⟨[u], []⟩ [(x, u)]) ∧
      ∀ base : Heap, (K w.params).In base → base.Ns mainGlobals mg → FnG l.prog w (K w.params) mg base k fa fd [x] (sp (K w.params)))
    (want : ∀ (w : World) (H : Hp) (a : Addr) (ns : List Int), ns.length ≤ n → SqL (K w.params) H a (ns.map V.int) → sp (K w.params) [.ref a] H (fun v _ => v = .bl true) fun _ _ _ => False) :
    PySem.W.WalkO q loose XP YP l.row.toRowW d [] (fun f vs => PySem.call f vs) := by
  refine Att.attach_call most plain fun w s0 s mg mb fa o pm cd doc a us ns G Y ho hd hcd hmg at_a nums le ng => ?_
  obtain ⟨fd, bind, fn⟩ := F w mg fa _ (left w _ Y) G.T.g hmg
  exact quiet_call (left w _ Y) G.T.g G.T.b G.T.builtins G.T.nolimit ng at_a nums (Nat.le_trans le small) room fn bind fun H hS => want w H a ns le hS
end Gu
namespace Gu
open PySem PySem.Spec PyProof.Rows L2
/-! ### what can be written out -/
structure Fine (n W : Nat) (d : PyData) : Prop where
  nd : d.hasDict = false
  sh : d.showable = true
  ls : d.leavesShort 80 = true
  dp : d.depth ≤ n
  wt : d.weight ≤ W
structure FineAll (n W : Nat) (ds : List PyData) : Prop where
  nd : PyData.hasDictAll ds = false
  sh : PyData.showableAll ds = true
  ls : PyData.leavesShortAll 80 ds = true
  dp : PyData.depthAll ds ≤ n
  wt : PyData.weightAll ds ≤ ds.length * (W + 1)
theorem FineAll.of {n W : Nat} : ∀ {ds : List PyData}, (∀ d ∈ ds, Fine n W d) → FineAll n W ds
  | [], _ => ⟨rfl, rfl, rfl, Nat.zero_le _, Nat.zero_le _⟩
  | d :: ds, h => by
    have a := h d (List.mem_cons_self ..)
    have b := FineAll.of (ds := ds) fun e he => h e (List.mem_cons_of_mem _ he)
    refine ⟨?_, ?_, ?_, Nat.max_le.mpr ⟨a.dp, b.dp⟩, ?_⟩
    · show (d.hasDict || PyData.hasDictAll ds) = false
      rw [a.nd, b.nd]
      rfl
    · show (d.showable && PyData.showableAll ds) = true
      rw [a.sh, b.sh]
      rfl
    · show (d.leavesShort 80 && PyData.leavesShortAll 80 ds) = true
      rw [a.ls, b.ls]
      rfl
    · show d.weight + 1 + PyData.weightAll ds ≤ (ds.length + 1) * (W + 1)
      have := a.wt
      have := b.wt
      rw [Nat.succ_mul]
      omega
theorem FineAll.list {n W : Nat} {ds : List PyData} (a : FineAll n W ds) : Fine (n + 1) (ds.length * (W + 1)) (.list ds) := ⟨a.nd, a.sh, a.ls, Nat.succ_le_succ a.dp, a.wt⟩
theorem FineAll.tup {n W : Nat} {ds : List PyData} (a : FineAll n W ds) : Fine (n + 1) (ds.length * (W + 1)) (.tuple ds) := ⟨a.nd, a.sh, a.ls, Nat.succ_le_succ a.dp, a.wt⟩
theorem Fine.mono {n m W Z : Nat} {d : PyData} (h : Fine n W d) (a : n ≤ m) (b : W ≤ Z) : Fine m Z d := ⟨h.nd, h.sh, h.ls, Nat.le_trans h.dp a, Nat.le_trans h.wt b⟩
theorem Fine.bool (b : Bool) : Fine 0 0 (.bool b) := ⟨rfl, rfl, rfl, Nat.le_refl _, Nat.le_refl _⟩
theorem Fine.none : Fine 0 0 .none := ⟨rfl, rfl, rfl, Nat.le_refl _, Nat.le_refl _⟩
theorem Fine.int {i : Int} (h : i.natAbs < 2 ^ 70) : Fine 0 70 (.int i) := by
  have l : i.natAbs.log2 < 70 := PySem.Flt.log2_lt_of (by decide) h
  refine ⟨rfl, decide_eq_true (by omega), decide_eq_true ?_, Nat.le_refl _, ?_⟩
  · have e := int_text_length_le (a := i) (k := 70) (by decide) l
    show (Str.ofString (toString i)).length ≤ 80
    rw [PySem.ofString_length]
    omega
  · show (if i == 0 then 0 else i.natAbs.log2 + 1) ≤ 70
    split <;> omega
theorem Fine.str {z : Str} {W : Nat} (h : ∀ c ∈ z.cps.toList, c < 16 ^ 8) (w : z.cps.toList.length ≤ W) : Fine 0 W (.str z) := by
  refine ⟨rfl, rfl, ?_, Nat.le_refl _, w⟩
  show (z.cps.toList.all fun c => decide (c < 16 ^ 8)) = true
  rw [List.all_eq_true]
  exact fun c hc => decide_eq_true (h c hc)
theorem Fine.fits {d : PyData} (h : Fine 60 100000 d) : d.shown.length ≤ sizeLine := by
  have a := PyData.shown_le 80 (by decide) d h.ls
  have b := h.wt
  have c : (80 + 2) * d.weight ≤ 82 * 100000 := Nat.mul_le_mul_left _ b
  have e : sizeLine = 16777216 := by decide
  omega
section
variable {X : Cx}
/-- repr of a list or tuple, where none is being written out -/
theorem call_reprD (quiet : X.A.guards = some []) (hu : X.A.units + 64 < cLine) : CallR X (.builtin "repr") (fun xs H Q => ∃ (a : Addr) (d : PyData), xs = [.ref a] ∧ Dp X.K H (.ref a) d ∧ Fine 60 100000 d ∧ Q (.str d.shown) H) := by
  intro pins s σ H xs us Q I r h
  obtain ⟨a, d, rfl, hd, fine, q⟩ := h
  cases r with
  | cons r rr =>
    cases rr
    cases (show _ = Value.ref a from r)
    obtain ⟨as, rd⟩ := Dp.reads I d (.ref a) (.ref a) hd rfl
    have dp := fine.dp
    exact repr_of_reads' rd fine.sh (PyData.noDict_hsm fine.nd) quiet (by omega) (fun _ _ e => e) (fun g u tk keep => ⟨.str d.shown, H, I.kept (t' := tk) keep, ⟨_, rfl⟩, q⟩) fine.fits
end
end Gu
namespace Gu
open PySem PySem.Spec PyProof.Rows L2
/-! ### tuples: cut, joined, made of a text -/
section
variable {K : PySem.W.Frag} {H : Hp} {a b : Addr} {xs ys : List V} {Q : VK}
theorem cat_ok (ha : H a = some (.tup xs)) (hb : H b = some (.tup ys)) (hl : xs.length + ys.length ≤ sizeLine) (q : ∀ U G, Same H G → G U = some (.tup (xs ++ ys)) → Q (.ref U) G) : rCatA K (.ref a) (.ref b) H Q := by
  refine ⟨a, b, xs, ys, rfl, rfl, .inl (.inl ha), .inl (.inl hb), hl, fun e => q b H (Same.refl H) ?_, fun _ e => q a H (Same.refl H) ?_, fun _ _ p np => q p _ (same_new np) upd_same⟩
  · rw [e]
    exact hb
  · rw [e, List.append_nil]
    exact ha
theorem sl_ok {lo hi : Option Int} (ha : H a = some (.tup xs)) (q : ∀ U G, Same H G → G U = some (.tup (cutV xs lo hi)) → Q (.ref U) G) : rSlA K (.ref a) lo hi H Q := by
  refine ⟨a, xs, rfl, .inl (.inl ha), fun ⟨e1, e2⟩ => q a H (Same.refl H) ?_, fun _ p np => q p _ (same_new np) upd_same⟩
  unfold cutV
  rw [e1, e2, List.drop_zero, Nat.sub_zero, List.take_length]
  exact ha
end
theorem noPart {σ : L2.St} {H : Hp} {Q : Option Int → Hp → Prop} (h : Q none H) : tNoPart σ H Q := h
theorem call_tupS {X : Cx} (hc : X.calm = true) : CallR X (.type "tuple") (fun vs H Q => ∃ z : Str, vs = [.str z] ∧ z.cps.toList.length ≤ 1000 ∧ ∀ q, H q = none → Q (.ref q) (upd H q (.tup (ones z.cps.toList)))) := by
  intro pins s σ H vs us Q I r h
  obtain ⟨z, rfl, hz, q⟩ := h
  cases r with
  | cons r rr =>
    cases rr
    obtain ⟨t, rfl⟩ := r
    have zs : z.cps.size ≤ sizeLine := Nat.le_of_lt (small1000 hz)
    refine call_tuple_str (I.ok.hd hc) z t (fun g tk acc keep its => ?_) zs
    have I2 : Inv X pins σ H { s with heap := g, toks := tk } := I.kept keep
    have rel : Vals (ones z.cps.toList) acc.toList := by
      have el : acc.toList.length = z.cps.toList.length := its.1
      have e : ones z.cps.toList = (List.range acc.toList.length).map fun j => V.str (one (z.cps.toList.getD j 0)) := by
        unfold ones
        rw [el]
        refine List.ext_getElem? fun j => ?_
        rw [List.getElem?_map, List.getElem?_map]
        by_cases hj : j < z.cps.toList.length
        · rw [List.getElem?_eq_getElem hj, List.getElem?_range hj]
          show some (V.str (one z.cps.toList[j])) = some (V.str (one (z.cps.toList.getD j 0)))
          rw [List.getD_eq_getElem?_getD, List.getElem?_eq_getElem hj]
          rfl
        · rw [List.getElem?_eq_none (by omega), List.getElem?_eq_none (by rw [List.length_range]; omega)]
          rfl
      rw [e]
      refine vals_of_get acc.toList _ fun j u hj => ?_
      obtain ⟨c, tt, hc1, rfl⟩ := its.2 j u (by rw [← hj, Array.getElem?_toList])
      refine ⟨tt, ?_⟩
      rw [List.getD_eq_getElem?_getD, Array.getElem?_toList, hc1]
      rfl
    refine ⟨.ref g.objs.size, upd H g.objs.size (.tup (ones z.cps.toList)), I2.laid (t' := tk) (fun c o e => Heap.get?_push_of_some _ e) (Nat.le_refl _) (show ObjOk X.prog X.w _ _ _ (.tup (ones z.cps.toList)) from ⟨?_, acc.toList, rel, ?_⟩), rfl, q _ (I2.hok.fresh (Nat.le_refl _))⟩
    · unfold ones
      rw [List.length_map]
      exact zs
    · rw [Array.toArray_toList]
      exact IsTup.new _ _
def rLenK (K : PySem.W.Frag) : List V → Hp → VK → Prop := fun xs H Q => ∃ (x : V) (n : Nat), xs = [x] ∧ LenV K x H n ∧ Q (.int n) H
/-! ### lengths of what is cut -/
def Rec.len (r : Rec) (n : Nat) : Nat := if n ≤ r.l.toNat then n else min r.h.toNat n + r.z.cps.toList.length + min r.t.toNat n
def lens (rs : List Rec) (n : Nat) : Nat := rs.foldl (fun n r => r.len n) n
theorem cut_len (r : Rec) (xs : List V) : (cut r.l.toNat r.h.toNat r.t.toNat (ones r.z.cps.toList) xs).length = r.len xs.length := by
  unfold cut Rec.len
  split
  · rfl
  · rw [List.length_append, List.length_append, List.length_take, List.length_drop]
    unfold ones
    rw [List.length_map]
    omega
theorem cutsV_length : ∀ (rs : List Rec) (xs : List V), (cutsV rs xs).length = lens rs xs.length
  | [], _ => rfl
  | r :: rs, xs => by
    show (cutsV rs (cut r.l.toNat r.h.toNat r.t.toNat (ones r.z.cps.toList) xs)).length = lens rs (r.len xs.length)
    rw [cutsV_length rs, cut_len]
theorem Rec.fit.len_le {r : Rec} (f : r.fit) {n : Nat} (h : n ≤ 500) : r.len n ≤ 500 := by
  have a := f.zl
  have b := f.h
  have c := f.t
  unfold Rec.len
  split <;> omega
theorem lens_le : ∀ (rs : List Rec) {n : Nat}, (∀ r ∈ rs, r.fit) → n ≤ 500 → lens rs n ≤ 500
  | [], _, _, h => h
  | r :: rs, n, hf, h => lens_le rs (n := r.len n) (fun q hq => hf q (List.mem_cons_of_mem _ hq)) ((hf r (List.mem_cons_self ..)).len_le h)
/-- from 41 signs on all is as for 41 -/
theorem lens_far {rs : List Rec} (hf : ∀ r ∈ rs, r.fit) (h1 : 1 ≤ rs.length) {n : Nat} (h : 41 ≤ n) : lens rs n = lens rs 41 := by
  cases rs with
  | nil => cases h1
  | cons r rs =>
    have f := hf r (List.mem_cons_self ..)
    have a := f.l
    have b := f.h
    have c := f.t
    have e : r.len n = r.len 41 := by
      unfold Rec.len
      rw [if_neg (by omega), if_neg (by omega)]
      omega
    show lens rs (r.len n) = lens rs (r.len 41)
    rw [e]
section
variable {P : Program} {w : World} {K : PySem.W.Frag} {mg : Str → Option Value} {base : Heap} {C : Addr}
/-! ### shortened: of a tuple -/
def spShortT (C : Addr) : Sp := fun vs H Q _ => ∃ (x W M : Addr) (r : Rec) (xs : List V), vs = [.ref x, .ref W, .ref M] ∧ ShAt C H x r ∧ r.fit ∧ H W = some (.tup xs) ∧ xs.length ≤ 1000 ∧ H M = some (.tup (ones r.z.cps.toList)) ∧
  ∀ U G, Same H G → G U = some (.tup (cut r.l.toNat r.h.toNat r.t.toNat (ones r.z.cps.toList) xs)) → Q (.ref U) G
theorem cal_shortT (B : Bi mg) (S : ShC K mg C) (D : At K mg "shortened" s_shortened ps_shortened) : Cal P w K mg base 1 "shortened" ps_shortened (spShortT C) := by
  refine D.cal sc_shortened (fun vs H Q E h => ?_) (fun f cdv A outer s H vs Q E hr h => ?_)
  · obtain ⟨x, W, M, r, xs, rfl, _⟩ := h
    rfl
  · obtain ⟨x, W, M, r, xs, rfl, ⟨dx, b, hx, _⟩, fit, hW, xl, hM, k⟩ := h
    have f1 := fit.l
    have f2 := fit.h
    have f3 := fit.t
    have f4 := fit.zl
    have ol : (ones r.z.cps.toList).length = r.z.cps.toList.length := by
      unfold ones
      rw [List.length_map]
    refine ⟨_, (pss_cons (ps_if (pt_cmpR op_le (pe_callB call_len (by rfl) B.len (by decide +kernel) (pa_cons (pv 1) pa_nil)) (pe_fld (pv 0) rfl) (nomark _)) (pss_one (ps_ret (pv 1))) pss_nil)
      (pss_cons (ps_set (i := 3) sc_shortened.nd rfl (.inl rfl) (pe_callB (call_max2 rfl) (by rfl) B.max (by decide +kernel) (pa_cons pe_int (pa_cons (pe_op op_sub (pe_callB call_len (by rfl) B.len (by decide +kernel) (pa_cons (pv 1) pa_nil)) (pe_fld (pv 0) rfl)) pa_nil))))
      (pss_one (ps_ret (pe_op op_catA (pe_op op_catA (pe_slice sl_tupA (pv 1) po_none (po_some (pe_fld (pv 0) rfl))) (pv 2)) (pe_slice sl_tupA (pv 1) (po_some (pv 3)) po_none)))))), ?_⟩
    refine ⟨_, rfl, _, _, rfl, .inr ⟨_, .inl (.inl hW), rfl⟩, _, rfl, x, C, dx, _, _, rfl, hx, S.cl, S.nL, flds_limit _ _, _, _, rfl, rfl, _, rfl, ite2 (fun e => ?_) (fun e => ?_)⟩
    · have e1 := of_decide_eq_true e
      refine ⟨_, rfl, k W H (Same.refl H) ?_⟩
      unfold cut
      rw [if_pos (by omega)]
      exact hW
    · have e1 : ¬ (xs.length : Int) ≤ r.l := fun h => e (decide_eq_true h)
      refine ⟨_, rfl, _, _, rfl, .inr ⟨_, .inl (.inl hW), rfl⟩, _, rfl, x, C, dx, _, _, rfl, hx, S.cl, S.nT, flds_tail _ _, _, _, rfl, rfl, _, _, rfl, ?_⟩
      refine ⟨_, rfl, _, rfl, x, C, dx, _, _, rfl, hx, S.cl, S.nH, flds_head _ _, _, rfl, sl_ok hW fun U1 G1 s1 e1 => ?_⟩
      have c1 : cutV xs none (some r.h) = xs.take r.h.toNat := cut_front xs f2.1
      rw [c1] at e1
      refine ⟨_, rfl, cat_ok e1 (s1 _ _ hM) (Nat.le_of_lt (Nat.lt_of_le_of_lt (show _ ≤ 2000 by rw [List.length_take]; omega) (by decide))) fun U2 G2 s2 e2 => ?_⟩
      refine ⟨_, rfl, _, rfl, _, rfl, ?_⟩
      refine noPart ?_
      refine sl_ok (s2 _ _ (s1 _ _ hW)) fun U3 G3 s3 e3 => ?_
      have c3 : cutV xs (some (if (xs.length : Int) - r.t > 0 then (xs.length : Int) - r.t else 0)) none = xs.drop (xs.length - r.t.toNat) := by
        have q := cut_back xs (h := if (xs.length : Int) - r.t > 0 then (xs.length : Int) - r.t else 0) (by split <;> omega)
        have n : (if (xs.length : Int) - r.t > 0 then (xs.length : Int) - r.t else 0).toNat = xs.length - r.t.toNat := by split <;> omega
        rw [n] at q
        exact q
      rw [c3] at e3
      refine cat_ok (s3 _ _ e2) e3 (Nat.le_of_lt (Nat.lt_of_le_of_lt (show _ ≤ 4000 by rw [List.length_append, List.length_take, List.length_drop]; omega) (by decide))) fun U4 G4 s4 e4 => k U4 G4 (s1.trans (s2.trans (s3.trans s4))) ?_
      rw [e4]
      unfold cut
      rw [if_neg (show ¬ xs.length ≤ r.l.toNat by omega)]
/-! ### planned, check_length, plan, widest -/
theorem cutsV_snoc' (rs : List (Addr × Rec)) {i : Nat} {q : Addr × Rec} (h : rs[i]? = some q) (xs : List V) :
    cutsV ((rs.take (i + 1)).map (·.2)) xs = cut q.2.l.toNat q.2.h.toNat q.2.t.toNat (ones q.2.z.cps.toList) (cutsV ((rs.take i).map (·.2)) xs) := cutsV_snoc rs h xs
def spPlanned (C : Addr) : Sp := fun vs H Q _ => ∃ (a : Addr) (n : Nat) (rs : List (Addr × Rec)), vs = [.ref a, .int (n : Int)] ∧ RowAt C H a rs ∧ n ≤ 500 ∧ ∀ U G, Same H G → G U = some (.tup (cutsV (rs.map (·.2)) (rgV 0 n))) → Q (.ref U) G
theorem cal_planned (B : Bi mg) (S : ShC K mg C) (D : At K mg "planned" s_planned ps_planned) (C_shortened : Cal P w K mg base 1 "shortened" ps_shortened (spShortT C)) : Cal P w K mg base 2 "planned" ps_planned (spPlanned C) := by
  refine D.cal sc_planned (fun vs H Q E h => ?_) (fun f cdv A outer s H vs Q E hr h => ?_)
  · obtain ⟨a, n, rs, rfl, _⟩ := h
    rfl
  · obtain ⟨a, n, rs, rfl, hR, hn, k⟩ := h
    refine ⟨_, (pss_cons (ps_set (i := 2) sc_planned.nd rfl (.inl rfl) (pe_tupRg (by rfl) (by rfl) B.tuple (prg_1 (by rfl) B.range (pv 1))))
      (pss_cons (ps_for PassesOwn.never rfl (pi_tup (pv 0)) (pg_name (i := 3) sc_planned.nd rfl (.inl rfl))
      (pss_one (ps_set (i := 2) sc_planned.nd rfl (.inl rfl) (pe_own C_shortened hr (by decide) (by rfl) (pa_cons (pv 3) (pa_cons (pv 2) (pa_cons (pe_callTy (call_tupS rfl) (by rfl) B.tuple (by decide +kernel) (pa_cons (pe_fld (pv 3) rfl) pa_nil)) pa_nil)))))))
      (pss_one (ps_ret (pv 2))))), ?_⟩
    refine ⟨_, rfl, _, rfl, RgOk.of_le (by omega) (by omega) (by omega) (by omega), fun T nT => ?_⟩
    have s0 : Same H (upd H T (.tup (rgV 0 n))) := same_new nT
    have R0 := hR.same s0
    refine ⟨_, rfl, a, rfl, ⟨_, .inl (.inl R0.tp)⟩, for_tup (K := K) (a := a) (xs := rs.map fun q => V.ref q.1) (fun i σ J => ∃ (U : Addr) (u : Option V), σ = [some (.ref a), some (.int (n : Int)), some (.ref U), u] ∧ Same H J ∧ J U = some (.tup (cutsV ((rs.take i).map (·.2)) (rgV 0 n))))
      ⟨T, none, rfl, s0, upd_same⟩ (fun i σ J _ ⟨_, _, _, sJ, _⟩ => .inl (.inl (sJ _ _ hR.tp))) ?_ ?_⟩
    · rintro i v σ J hi ⟨U, u, rfl, sJ, eU⟩
      rw [List.getElem?_map] at hi
      cases hq : rs[i]? with
      | none =>
        rw [hq] at hi
        cases hi
      | some q =>
        rw [hq] at hi
        cases hi
        obtain ⟨sq, fq⟩ := (hR.same sJ).sh q (List.mem_of_getElem? hq)
        obtain ⟨dx, b, e1, e2⟩ := id sq
        refine ⟨_, rfl, _, rfl, _, rfl, q.1, C, dx, _, _, rfl, e1, S.cl, S.nM, flds_mark _ _, q.2.z, rfl, by have := fq.zl; omega, fun M nM => ?_⟩
        have s1 : Same J (upd J M (.tup (ones q.2.z.cps.toList))) := same_new nM
        refine ⟨q.1, U, M, q.2, _, rfl, sq.same s1, fq, s1 _ _ eU, ?_, upd_same, fun U2 G s2 e3 => ⟨U2, _, rfl, sJ.trans (s1.trans s2), ?_⟩⟩
        · rw [cutsV_length]
          have := lens_le ((rs.take i).map (·.2)) (n := (rgV 0 n).length) (fun r hr => by
            obtain ⟨p, hp, rfl⟩ := List.mem_map.mp hr
            exact (hR.sh p (List.mem_of_mem_take hp)).2) (by rw [rgV_length]; omega)
          omega
        · rw [e3, cutsV_snoc' rs hq]
    · rintro σ J ⟨U, u, rfl, sJ, eU⟩
      rw [List.length_map, List.take_length] at eU
      exact ⟨_, rfl, k U J sJ eU⟩
def spCheckLength : Sp := fun vs H Q _ => ∃ (n : Nat), vs = [.int (n : Int)] ∧ n ≤ 500 ∧ Q .non H
theorem cal_checkLength (B : Bi mg) (D : At K mg "check_length" s_check_length ps_check_length) (C_is_integer : Cal P w K mg base 1 "is_integer" ps_is_integer (spIsInteger K)) : Cal P w K mg base 2 "check_length" ps_check_length spCheckLength := by
  refine D.cal sc_check_length (fun vs H Q E h => ?_) (fun f cdv A outer s H vs Q E hr h => ?_)
  · obtain ⟨n, rfl, _⟩ := h
    rfl
  · obtain ⟨n, rfl, hn, k⟩ := h
    refine ⟨_, (pss_one (ps_if (pt_not (pt_val (pe_own C_is_integer hr (by decide) (by rfl) (pa_cons (pv 0) (pa_cons pe_int (pa_cons (pe_cst B.MOST_LENGTH (by rfl)) pa_nil)))))) pss_never pss_nil)), ?_⟩
    refine ⟨_, rfl, _, _, _, rfl, .inl ⟨_, rfl, _, rfl, ?_⟩⟩
    rw [decide_eq_true (show (0 : Int) ≤ (n : Int) ∧ (n : Int) ≤ 500 by omega)]
    exact iteF k
def spPlan (C : Addr) : Sp := fun vs H Q _ => ∃ (a : Addr) (n : Nat) (rs : List (Addr × Rec)), vs = [.ref a, .int (n : Int)] ∧ RowAt C H a rs ∧ 1 ≤ rs.length ∧ rs.length ≤ 4 ∧ n ≤ 500 ∧ ∀ U G, Same H G → G U = some (.tup (cutsV (rs.map (·.2)) (rgV 0 n))) → Q (.ref U) G
def wides (rs : List Rec) (n : Nat) : List Int := (List.range n).map fun i => (lens rs i : Int)
def Top (m : Int) (ns : List Int) : Prop := m ∈ ns ∧ ∀ y ∈ ns, y ≤ m
theorem Top.one {m k : Int} {ns : List Int} (a : Top m ns) (b : Top k ns) : m = k := Int.le_antisymm (b.2 m a.1) (a.2 k b.1)
theorem wides_top {rs : List Rec} (hf : ∀ r ∈ rs, r.fit) (h1 : 1 ≤ rs.length) {m : Int} {n : Nat} (hn : 42 ≤ n) (h : Top m (wides rs 42)) : Top m (wides rs n) := by
  obtain ⟨a, b⟩ := h
  unfold wides at a b ⊢
  obtain ⟨i, hi, rfl⟩ := List.mem_map.mp a
  refine ⟨List.mem_map.mpr ⟨i, List.mem_range.mpr (by have := List.mem_range.mp hi; omega), rfl⟩, fun y hy => ?_⟩
  obtain ⟨j, hj, rfl⟩ := List.mem_map.mp hy
  by_cases hj2 : j < 42
  · exact b _ (List.mem_map.mpr ⟨j, List.mem_range.mpr hj2, rfl⟩)
  · rw [lens_far hf h1 (show 41 ≤ j by omega)]
    exact b _ (List.mem_map.mpr ⟨41, List.mem_range.mpr (by decide), rfl⟩)
def spWidest (C : Addr) : Sp := fun vs H Q _ => ∃ (a : Addr) (rs : List (Addr × Rec)), vs = [.ref a] ∧ RowAt C H a rs ∧ 1 ≤ rs.length ∧ rs.length ≤ 4 ∧ ∀ m G, Same H G → Top m (wides (rs.map (·.2)) 42) → Q (.int m) G
end
end Gu
namespace Gu
open PySem PySem.Spec PyProof.Rows L2
/-! ### the checker: claims of right form -/
structure TRow (K : PySem.W.Frag) (H : Hp) (a : Addr) (ps : List (Addr × Rec)) : Prop where
  tp : SqT K H a (ps.map fun q => V.ref q.1)
  el : ∀ q ∈ ps, H q.1 = some (.tup q.2.vs) ∧ q.2.fit
  l1 : 1 ≤ ps.length
  l4 : ps.length ≤ 4
theorem stH {K : PySem.W.Frag} {H G : Hp} {a : Addr} {xs : List V} (s : Same H G) (h : SqT K H a xs) : SqT K G a xs := by
  rcases h with (h | ⟨o, h⟩) | h
  · exact .inl (.inl (s _ _ h))
  · exact .inl (.inr ⟨o, s _ _ h⟩)
  · exact .inr h
theorem TRow.same {K : PySem.W.Frag} {H G : Hp} {a : Addr} {ps : List (Addr × Rec)} (s : Same H G) (h : TRow K H a ps) : TRow K G a ps := ⟨stH s h.tp, fun q hq => ⟨s _ _ (h.el q hq).1, (h.el q hq).2⟩, h.l1, h.l4⟩
theorem all_true (n : Nat) : (List.replicate n true).all id = true := by
  rw [List.all_replicate]
  split <;> rfl
theorem offT {H J : Hp} {M : Addr} {o : HO} (s : Same H J) (n : H M = none) : Same H (upd J M o) := fun b x e => by
  rw [upd_ne (ne_of_none e n)]
  exact s _ _ e
section
variable {P : Program} {w : World} {K : PySem.W.Frag} {mg : Str → Option Value} {base : Heap} {C : Addr}
def spTrueT (K : PySem.W.Frag) (C : Addr) : Sp := fun vs H Q _ => ∃ (t : Addr) (r : Rec), vs = [.ref t] ∧ H t = some (.tup r.vs) ∧ r.fit ∧ ∀ G, Same H G → Q (.bl true) G
theorem cal_isTold (B : Bi mg) (D : At K mg "is_told" s_is_told ps_is_told) (C_is_tuple : Cal P w K mg base 1 "is_tuple" ps_is_tuple (spIsTuple K)) (C_is_integer : Cal P w K mg base 1 "is_integer" ps_is_integer (spIsInteger K)) (C_is_text : Cal P w K mg base 1 "is_text" ps_is_text (spIsText K)) : Cal P w K mg base 2 "is_told" ps_is_told (spTrueT K C) := by
  refine D.cal sc_is_told (fun vs H Q E h => ?_) (fun f cdv A outer s H vs Q E hr h => ?_)
  · obtain ⟨t, r, rfl, _⟩ := h
    rfl
  · obtain ⟨t, r, rfl, ht, fit, k⟩ := h
    have f1 := fit.l
    have f2 := fit.h
    have f3 := fit.t
    refine ⟨_, (pss_cons (ps_if (pt_not (pt_val (pe_own C_is_tuple hr (by decide) (by rfl) (pa_cons (pv 0) (pa_cons pe_int (pa_cons pe_int pa_nil)))))) (pss_one (ps_ret pe_bl)) pss_nil)
      (pss_one (ps_ret (pe_and (pe_callB (cr_all rfl) (by rfl) B.all (by decide +kernel) (pa_cons (pe_lc (own := [("number", 1)]) (by rfl) sc_is_told.nd (pi_tup (pe_slice sl_tupA (pv 0) po_none (po_some pe_int))) (blkOk_by (own := [("number", 1)]) (N := ["value", "number"]) (sc := defScope s_is_told) (by decide +kernel)) (fun _ _ _ _ _ => pg_name (i := 1) sc_is_told.nd rfl (.inl rfl)) (fun _ _ _ _ _ => pts_nil) (fun _ _ _ _ _ => (pe_own C_is_integer hr (by decide) (by rfl) (pa_cons (pv 1) (pa_cons pe_int (pa_cons (pe_cst B.MOST_SIGNS (by rfl)) pa_nil)))))) pa_nil)) (pe_one (pe_own C_is_text hr (by decide) (by rfl) (pa_cons (pe_ix ix_tup (pv 0) pe_int (fun _ _ => rfl)) (pa_cons (pe_cst B.MOST_MARK (by rfl)) pa_nil)))))))), ?_⟩
    refine ⟨_, rfl, _, _, _, rfl, .inl ⟨t, _, rfl, .inl (.inl ht), _, rfl, ?_⟩⟩
    rw [decide_eq_true (show (4 : Int) ≤ (r.vs.length : Int) ∧ (r.vs.length : Int) ≤ 4 by show (4 : Int) ≤ 4 ∧ (4 : Int) ≤ 4; decide)]
    refine iteF ⟨_, rfl, 3, rfl, sl_ok ht fun U G1 s1 e1 => ?_⟩
    have e1 : G1 U = some (.tup [.int r.l, .int r.h, .int r.t]) := e1
    refine ⟨U, rfl, ⟨_, .inl (.inl e1)⟩, fun M nM => lc_tup (K := K) (a := U) (xs := [.int r.l, .int r.h, .int r.t]) (fun i J => J M = some (.lst ((List.replicate i true).map V.bl)) ∧ Same G1 J)
      ⟨upd_same, same_new nM⟩ (fun i J _ ⟨_, sJ⟩ => .inl (.inl (sJ _ _ e1))) ?_ ?_⟩
    · rintro i v J hi ⟨eM, sJ⟩
      have i3 : i < 3 := (List.getElem?_eq_some_iff.mp hi).1
      obtain ⟨m, rfl, m0, m1⟩ : ∃ m : Int, v = .int m ∧ 0 ≤ m ∧ m ≤ 40 := by
        have hv := List.mem_of_getElem? hi
        simp only [List.mem_cons, List.not_mem_nil, or_false] at hv
        rcases hv with rfl | rfl | rfl
        · exact ⟨_, rfl, f1.1, f1.2⟩
        · exact ⟨_, rfl, f2.1, f2.2⟩
        · exact ⟨_, rfl, f3.1, f3.2⟩
      refine ⟨rfl, yes (iteT ⟨_, rfl, _, _, _, rfl, .inl ⟨m, rfl, ?_⟩⟩)⟩
      rw [decide_eq_true (show (0 : Int) ≤ m ∧ m ≤ 40 from ⟨m0, m1⟩)]
      refine ⟨_, eM, small1000 (by rw [List.length_map, List.length_replicate]; omega), ?_, offT sJ nM⟩
      rw [upd_same, List.replicate_succ', List.map_append]
      rfl
    rintro J ⟨eM, sJ⟩
    refine ⟨M, _, rfl, .inl (.inl eM), true, rfl, iteT ?_⟩
    have s2 := s1.trans sJ
    have zl : r.z.length ≤ 3 := by
      have := isTxt_len fit.z
      omega
    refine ⟨_, rfl, t, _, _, _, rfl, rfl, .inl (.inl (s2 _ _ ht)), (rfl : atI r.vs 3 = some (V.str r.z)), _, _, rfl, .inl ⟨r.z, rfl, by omega, fun G sG => ?_⟩⟩
    rw [fit.z]
    exact k G (s2.trans sG)
def spTrueR (K : PySem.W.Frag) : Sp := fun vs H Q _ => ∃ (a : Addr) (ps : List (Addr × Rec)), vs = [.ref a] ∧ TRow K H a ps ∧ ∀ G, Same H G → Q (.bl true) G
theorem cal_isToldRow (B : Bi mg) (D : At K mg "is_told_row" s_is_told_row ps_is_told_row) (C_is_tuple : Cal P w K mg base 1 "is_tuple" ps_is_tuple (spIsTuple K)) (C_is_told : Cal P w K mg base 2 "is_told" ps_is_told (spTrueT K C)) : Cal P w K mg base 3 "is_told_row" ps_is_told_row (spTrueR K) := by
  refine D.cal sc_is_told_row (fun vs H Q E h => ?_) (fun f cdv A outer s H vs Q E hr h => ?_)
  · obtain ⟨a, ps, rfl, _⟩ := h
    rfl
  · obtain ⟨a, ps, rfl, hT, k⟩ := h
    have l1 := hT.l1
    have l4 := hT.l4
    have el : (ps.map fun q => V.ref q.1).length = ps.length := List.length_map ..
    refine ⟨_, (pss_one (ps_ret (pe_and (pe_own C_is_tuple hr (by decide) (by rfl) (pa_cons (pv 0) (pa_cons pe_int (pa_cons (pe_cst B.MOST_ROW (by rfl)) pa_nil)))) (pe_one (pe_callB (cr_all rfl) (by rfl) B.all (by decide +kernel) (pa_cons (pe_lc (own := [("part", 1)]) (by rfl) sc_is_told_row.nd (pi_tup (pv 0)) (blkOk_by (own := [("part", 1)]) (N := ["value", "part"]) (sc := defScope s_is_told_row) (by decide +kernel)) (fun _ _ _ _ _ => pg_name (i := 1) sc_is_told_row.nd rfl (.inl rfl)) (fun _ _ _ _ _ => pts_nil) (fun _ _ _ _ _ => (pe_own C_is_told hr (by decide) (by rfl) (pa_cons (pv 1) pa_nil)))) pa_nil)))))), ?_⟩
    refine ⟨_, rfl, _, _, _, rfl, .inl ⟨a, _, rfl, hT.tp, _, rfl, ?_⟩⟩
    rw [el, decide_eq_true (show (1 : Int) ≤ (ps.length : Int) ∧ (ps.length : Int) ≤ 4 by omega)]
    refine iteT ⟨_, rfl, a, rfl, ⟨_, hT.tp⟩, fun M nM => lc_tup (K := K) (a := a) (xs := ps.map fun q => V.ref q.1) (fun i J => J M = some (.lst ((List.replicate i true).map V.bl)) ∧ Same H J)
      ⟨upd_same, same_new nM⟩ (fun i J _ ⟨_, sJ⟩ => stH sJ hT.tp) ?_ ?_⟩
    · rintro i v J hi ⟨eM, sJ⟩
      rw [List.getElem?_map] at hi
      cases hq : ps[i]? with
      | none =>
        rw [hq] at hi
        cases hi
      | some q =>
        rw [hq] at hi
        cases hi
        have il := (List.getElem?_eq_some_iff.mp hq).1
        obtain ⟨h1, h2⟩ := hT.el q (List.mem_of_getElem? hq)
        refine ⟨rfl, yes (iteT ⟨_, rfl, q.1, q.2, rfl, sJ _ _ h1, h2, fun G sG => ⟨_, sG _ _ eM, small1000 (by rw [List.length_map, List.length_replicate]; omega), ?_, offT (sJ.trans sG) nM⟩⟩)⟩
        rw [upd_same, List.replicate_succ', List.map_append]
        rfl
    rintro J ⟨eM, sJ⟩
    refine ⟨M, _, rfl, .inl (.inl eM), ?_⟩
    rw [all_true]
    exact k J sJ
def spTrueP (K : PySem.W.Frag) : Sp := fun vs H Q _ => ∃ (p a : Addr) (ps : List (Addr × Rec)), vs = [.ref p, .int 1] ∧ SqT K H p [.ref a] ∧ TRow K H a ps ∧ ∀ G, Same H G → Q (.bl true) G
theorem cal_areTold (B : Bi mg) (D : At K mg "are_told_rows" s_are_told_rows ps_are_told_rows) (C_is_told_row : Cal P w K mg base 3 "is_told_row" ps_is_told_row (spTrueR K)) : Cal P w K mg base 4 "are_told_rows" ps_are_told_rows (spTrueP K) := by
  refine D.cal sc_are_told_rows (fun vs H Q E h => ?_) (fun f cdv A outer s H vs Q E hr h => ?_)
  · obtain ⟨p, a, ps, rfl, _⟩ := h
    rfl
  · obtain ⟨p, a, ps, rfl, hp, hT, k⟩ := h
    refine ⟨_, (pss_one (ps_ret (pe_and (pe_cmpR op_eq (pe_callB call_len (by rfl) B.len (by decide +kernel) (pa_cons (pv 0) pa_nil)) (pv 1) (nomark _)) (pe_one (pe_callB (cr_all rfl) (by rfl) B.all (by decide +kernel) (pa_cons (pe_lc (own := [("part", 2)]) (by rfl) sc_are_told_rows.nd (pi_tup (pv 0)) (blkOk_by (own := [("part", 2)]) (N := ["parts", "many", "part"]) (sc := defScope s_are_told_rows) (by decide +kernel)) (fun _ _ _ _ _ => pg_name (i := 2) sc_are_told_rows.nd rfl (.inl rfl)) (fun _ _ _ _ _ => pts_nil) (fun _ _ _ _ _ => (pe_own C_is_told_row hr (by decide) (by rfl) (pa_cons (pv 2) pa_nil)))) pa_nil)))))), ?_⟩
    refine ⟨_, rfl, _, _, rfl, .inr ⟨_, hp, rfl⟩, _, rfl, rfl, _, rfl, ?_⟩
    refine iteT ⟨_, rfl, p, rfl, ⟨_, hp⟩, fun M nM => lc_tup (K := K) (a := p) (xs := [.ref a]) (fun i J => J M = some (.lst ((List.replicate i true).map V.bl)) ∧ Same H J)
      ⟨upd_same, same_new nM⟩ (fun i J _ ⟨_, sJ⟩ => stH sJ hp) ?_ ?_⟩
    · rintro i v J hi ⟨eM, sJ⟩
      have il : i < 1 := (List.getElem?_eq_some_iff.mp hi).1
      obtain rfl : v = .ref a := List.mem_singleton.mp (List.mem_of_getElem? hi)
      refine ⟨rfl, yes (iteT ⟨_, rfl, a, ps, rfl, hT.same sJ, fun G sG => ⟨_, sG _ _ eM, small1000 (by rw [List.length_map, List.length_replicate]; omega), ?_, offT (sJ.trans sG) nM⟩⟩)⟩
      rw [upd_same, List.replicate_succ', List.map_append]
      rfl
    rintro J ⟨eM, sJ⟩
    refine ⟨M, _, rfl, .inl (.inl eM), ?_⟩
    rw [all_true]
    exact k J sJ
def spPairT (K : PySem.W.Frag) : Sp := fun vs H Q _ => ∃ (p : Addr) (y z : Str), vs = [.ref p] ∧ SqT K H p [.str y, .str z] ∧ isTxt y 200 = true ∧ isTxt z 200 = true ∧ ∀ G, Same H G → Q (.bl (!decide (V.str y = V.str z))) G
theorem cal_isPairT (B : Bi mg) (D : At K mg "is_pair_of_texts" s_is_pair_of_texts ps_is_pair_of_texts) (C_is_tuple : Cal P w K mg base 1 "is_tuple" ps_is_tuple (spIsTuple K)) (C_is_text : Cal P w K mg base 1 "is_text" ps_is_text (spIsText K)) : Cal P w K mg base 2 "is_pair_of_texts" ps_is_pair_of_texts (spPairT K) := by
  refine D.cal sc_is_pair_of_texts (fun vs H Q E h => ?_) (fun f cdv A outer s H vs Q E hr h => ?_)
  · obtain ⟨p, y, z, rfl, _⟩ := h
    rfl
  · obtain ⟨p, y, z, rfl, hp, hy, hz, k⟩ := h
    have yl := isTxt_len hy
    have zl := isTxt_len hz
    refine ⟨_, (pss_one (ps_ret (pe_and (pe_own C_is_tuple hr (by decide) (by rfl) (pa_cons (pv 0) (pa_cons pe_int (pa_cons pe_int pa_nil)))) (pe_and (pe_callB (cr_all rfl) (by rfl) B.all (by decide +kernel) (pa_cons (pe_lc (own := [("part", 1)]) (by rfl) sc_is_pair_of_texts.nd (pi_tup (pv 0)) (blkOk_by (own := [("part", 1)]) (N := ["value", "part"]) (sc := defScope s_is_pair_of_texts) (by decide +kernel)) (fun _ _ _ _ _ => pg_name (i := 1) sc_is_pair_of_texts.nd rfl (.inl rfl)) (fun _ _ _ _ _ => pts_nil) (fun _ _ _ _ _ => (pe_own C_is_text hr (by decide) (by rfl) (pa_cons (pv 1) (pa_cons (pe_cst B.MOST_TEXT (by rfl)) pa_nil))))) pa_nil)) (pe_one (pe_cmpR op_ne (pe_ix ix_tup (pv 0) pe_int (fun _ _ => rfl)) (pe_ix ix_tup (pv 0) pe_int (fun _ _ => rfl)) (nomark _))))))), ?_⟩
    refine ⟨_, rfl, _, _, _, rfl, .inl ⟨p, _, rfl, hp, _, rfl, iteT ?_⟩⟩
    refine ⟨_, rfl, p, rfl, ⟨_, hp⟩, fun M nM => lc_tup (K := K) (a := p) (xs := [.str y, .str z]) (fun i J => J M = some (.lst ((List.replicate i true).map V.bl)) ∧ Same H J)
      ⟨upd_same, same_new nM⟩ (fun i J _ ⟨_, sJ⟩ => stH sJ hp) ?_ ?_⟩
    · rintro i v J hi ⟨eM, sJ⟩
      have il : i < 2 := (List.getElem?_eq_some_iff.mp hi).1
      obtain ⟨x, rfl, hx⟩ : ∃ x : Str, v = .str x ∧ isTxt x 200 = true := by
        have hv := List.mem_of_getElem? hi
        simp only [List.mem_cons, List.not_mem_nil, or_false] at hv
        rcases hv with rfl | rfl
        · exact ⟨_, rfl, hy⟩
        · exact ⟨_, rfl, hz⟩
      have xl := isTxt_len hx
      refine ⟨rfl, yes (iteT ⟨_, rfl, _, _, rfl, .inl ⟨x, rfl, by omega, fun G sG => ?_⟩⟩)⟩
      rw [hx]
      refine ⟨_, sG _ _ eM, small1000 (by rw [List.length_map, List.length_replicate]; omega), ?_, offT (sJ.trans sG) nM⟩
      rw [upd_same, List.replicate_succ', List.map_append]
      rfl
    rintro J ⟨eM, sJ⟩
    refine ⟨M, _, rfl, .inl (.inl eM), _, rfl, ?_⟩
    rw [all_true]
    refine iteT ⟨_, rfl, p, _, _, _, rfl, rfl, stH sJ hp, (rfl : atI [V.str y, V.str z] 0 = some (V.str y)), _, rfl, p, _, _, _, rfl, rfl, stH sJ hp, (rfl : atI [V.str y, V.str z] 1 = some (V.str z)), rfl, k J sJ⟩
end
end Gu
namespace Gu
open PySem PySem.Spec PyProof.Rows L2
/-! ### the checker: row_of, confused_holds -/
section
variable {P : Program} {w : World} {K : PySem.W.Frag} {mg : Str → Option Value} {base : Heap} {C : Addr}
def spRowOf (K : PySem.W.Frag) (C : Addr) : Sp := fun vs H Q _ => ∃ (a : Addr) (ps : List (Addr × Rec)), vs = [.ref a] ∧ TRow K H a ps ∧ ∀ (R : Addr) (G : Hp) (rs : List (Addr × Rec)), RowAt C G R rs → rs.map (·.2) = ps.map (·.2) → Same H G → Q (.ref R) G
theorem cal_rowOf (B : Bi mg) (D : At K mg "row_of" s_row_of ps_row_of) (M_sh : Mak P w K mg base 3 "Shortener" C (spInit C)) : Cal P w K mg base 5 "row_of" ps_row_of (spRowOf K C) := by
  refine D.cal sc_row_of (fun vs H Q E h => ?_) (fun f cdv A outer s H vs Q E hr h => ?_)
  · obtain ⟨a, ps, rfl, _⟩ := h
    rfl
  · obtain ⟨a, ps, rfl, hT, k⟩ := h
    have l4 := hT.l4
    refine ⟨_, (pss_one (ps_ret (pe_callTy call_tuple_of (by rfl) B.tuple (by decide +kernel) (pa_cons (pe_lc (g := gTup K 4 (gCons (gName 1) (gCons (gName 2) (gCons (gName 3) (gCons (gName 4) gNil))))) (own := [("limit", 1), ("head", 2), ("tail", 3), ("mark", 4)]) (by rfl) sc_row_of.nd (pi_tup (pv 0)) (blkOk_by (own := [("limit", 1), ("head", 2), ("tail", 3), ("mark", 4)]) (N := ["told_row", "limit", "head", "tail", "mark"]) (sc := defScope s_row_of) (by decide +kernel)) (fun _ _ _ _ _ => (pg_tup rfl (pgs_cons (pg_name (i := 1) sc_row_of.nd rfl (.inl rfl)) (pgs_cons (pg_name (i := 2) sc_row_of.nd rfl (.inl rfl)) (pgs_cons (pg_name (i := 3) sc_row_of.nd rfl (.inl rfl)) (pgs_cons (pg_name (i := 4) sc_row_of.nd rfl (.inl rfl)) pgs_nil)))))) (fun _ _ _ _ _ => pts_nil) (fun _ _ _ _ _ => (pe_new M_sh hr (by decide) (by rfl) (pa_cons (pv 1) (pa_cons (pv 2) (pa_cons (pv 3) (pa_cons (pv 4) pa_nil))))))) pa_nil)))), ?_⟩
    refine ⟨_, rfl, a, rfl, ⟨_, hT.tp⟩, fun M nM => lc_tup (K := K) (a := a) (xs := ps.map fun q => V.ref q.1) (fun i J => ∃ rs : List (Addr × Rec), rs.length = i ∧ J M = some (.lst (rs.map fun q => V.ref q.1)) ∧ (∀ q ∈ rs, ShAt C J q.1 q.2 ∧ q.2.fit) ∧ rs.map (·.2) = (ps.take i).map (·.2) ∧ Same H J)
      ⟨[], rfl, upd_same, (fun q hq => by cases hq), rfl, same_new nM⟩ (fun i J _ ⟨_, _, _, _, _, sJ⟩ => stH sJ hT.tp) ?_ ?_⟩
    · rintro i v J hi ⟨rs, rfl, eM, hs, er, sJ⟩
      rw [List.getElem?_map] at hi
      cases hq : ps[rs.length]? with
      | none =>
        rw [hq] at hi
        cases hi
      | some q =>
        rw [hq] at hi
        cases hi
        obtain ⟨tq, oq⟩ := hT.el q (List.mem_of_getElem? hq)
        have il : rs.length < ps.length := (List.getElem?_eq_some_iff.mp hq).1
        refine ⟨q.1, q.2.vs, rfl, .inl (.inl (sJ _ _ tq)), rfl, _, _, rfl, _, _, rfl, _, _, rfl, _, _, rfl, rfl, rfl, yes (iteT ?_)⟩
        refine ⟨_, rfl, _, rfl, _, rfl, _, rfl, fun x dx nx ndx nex => ⟨x, dx, q.2, rfl, upd_same, oq, fun b G nb gx gb keep => ⟨rfl, ?_⟩⟩⟩
        have sG : Same J G := fun c o e => keep c o (by rw [upd_ne (ne_of_none e nx), upd_ne (ne_of_none e ndx)]; exact e) (ne_of_none e nx)
        have gM := sG _ _ eM
        refine ⟨_, gM, small1000 (by rw [List.length_map]; omega), rs ++ [(x, q.2)], by rw [List.length_append]; rfl, ?_, fun r hr => ?_, ?_, offT (sJ.trans sG) nM⟩
        · rw [upd_same, List.map_append]
          rfl
        · rcases List.mem_append.mp hr with hr | hr
          · obtain ⟨h1, h2⟩ := hs r hr
            exact ⟨(h1.same sG).list gM, h2⟩
          · rw [List.mem_singleton.mp hr]
            exact ⟨ShAt.list ⟨dx, b, gx, gb⟩ gM, oq⟩
        · rw [List.map_append, er, List.take_add_one, hq, List.map_append]
          rfl
    · rintro J ⟨rs, el, eM, hs, er, sJ⟩
      refine ⟨M, _, rfl, .inl ⟨.inl (.inl eM), fun R nR => ?_⟩⟩
      rw [List.length_map, List.take_length] at er
      have s1 : Same J (upd J R (.tup (rs.map fun q => V.ref q.1))) := same_new nR
      exact k R _ rs ⟨upd_same, fun q hq => ⟨(hs q hq).1.same s1, (hs q hq).2⟩⟩ er (sJ.trans s1)
/-- the parts: one row as told; the paper: two texts -/
def spConf (K : PySem.W.Frag) : Sp := fun vs H Q _ => ∃ (p a t : Addr) (ps : List (Addr × Rec)) (y z : Str), vs = [.ref p, .ref t] ∧ SqT K H p [.ref a] ∧ TRow K H a ps ∧ SqT K H t [.str y, .str z] ∧ isTxt y 200 = true ∧ isTxt z 200 = true ∧
  ∀ G, Same H G → Q (.bl (decide (y ≠ z ∧ cuts (ps.map (·.2)) y.cps.toList = cuts (ps.map (·.2)) z.cps.toList))) G
theorem cal_conf (B : Bi mg) (D : At K mg "confused_holds" s_confused_holds ps_confused_holds) (C_are_told_rows : Cal P w K mg base 4 "are_told_rows" ps_are_told_rows (spTrueP K)) (C_is_pair_of_texts : Cal P w K mg base 2 "is_pair_of_texts" ps_is_pair_of_texts (spPairT K)) (C_row_of : Cal P w K mg base 5 "row_of" ps_row_of (spRowOf K C)) (C_shown_by : Cal P w K mg base 2 "shown_by" ps_shown_by (spShownBy C)) : Cal P w K mg base 6 "confused_holds" ps_confused_holds (spConf K) := by
  refine D.cal sc_confused_holds (fun vs H Q E h => ?_) (fun f cdv A outer s H vs Q E hr h => ?_)
  · obtain ⟨p, a, t, ps, y, z, rfl, _⟩ := h
    rfl
  · obtain ⟨p, a, t, ps, y, z, rfl, hp, hT, ht, hy, hz, k⟩ := h
    have yl : y.cps.toList.length ≤ 600 := by
      have e : y.length = y.cps.toList.length := rfl
      have := isTxt_len hy
      omega
    have zl : z.cps.toList.length ≤ 600 := by
      have e : z.length = z.cps.toList.length := rfl
      have := isTxt_len hz
      omega
    refine ⟨_, (pss_cons (ps_if (PW.pt (pw_or (pt_not (pt_val (pe_own C_are_told_rows hr (by decide) (by rfl) (pa_cons (pv 0) (pa_cons pe_int pa_nil))))) (pw_or1 (pt_not (pt_val (pe_own C_is_pair_of_texts hr (by decide) (by rfl) (pa_cons (pv 1) pa_nil))))))) (pss_one (ps_ret pe_bl)) pss_nil)
      (pss_cons (ps_set (i := 2) sc_confused_holds.nd rfl (.inl rfl) (pe_own C_row_of hr (by decide) (by rfl) (pa_cons (pe_ix ix_tup (pv 0) pe_int (fun _ _ => rfl)) pa_nil)))
      (pss_one (ps_ret (pe_cmpR op_eq (pe_own C_shown_by hr (by decide) (by rfl) (pa_cons (pv 2) (pa_cons (pe_ix ix_tup (pv 1) pe_int (fun _ _ => rfl)) pa_nil))) (pe_own C_shown_by hr (by decide) (by rfl) (pa_cons (pv 2) (pa_cons (pe_ix ix_tup (pv 1) pe_int (fun _ _ => rfl)) pa_nil))) (nomark _)))))), ?_⟩
    refine ⟨_, rfl, p, a, ps, rfl, hp, hT, fun G1 s1 => ⟨_, rfl, iteF ?_⟩⟩
    refine ⟨_, rfl, t, y, z, rfl, stH s1 ht, hy, hz, fun G2 s2 => ⟨_, rfl, ?_⟩⟩
    by_cases e : y = z
    · rw [decide_eq_true (show V.str y = V.str z by rw [e])]
      rw [decide_eq_false (fun h => h.1 e)] at k
      exact iteT (k _ (s1.trans s2))
    · rw [decide_eq_false (fun h => e (V.str.inj h))]
      have s12 := s1.trans s2
      refine iteF ⟨_, rfl, p, _, _, _, rfl, rfl, stH s12 hp, (rfl : atI [V.ref a] 0 = some (V.ref a)), a, ps, rfl, hT.same s12, fun R G3 rs hR er s3 => ?_⟩
      have ht3 := stH (s12.trans s3) ht
      refine ⟨_, rfl, _, rfl, t, _, _, _, rfl, rfl, ht3, (rfl : atI [V.str y, V.str z] 0 = some (V.str y)), R, rs, y, rfl, hR, yl, fun y1 e1 => ?_⟩
      refine ⟨_, rfl, _, rfl, t, _, _, _, rfl, rfl, ht3, (rfl : atI [V.str y, V.str z] 1 = some (V.str z)), R, rs, z, rfl, hR, zl, fun z1 e2 => ⟨rfl, ?_⟩⟩
      rw [er] at e1 e2
      have q : decide (V.str y1 = V.str z1) = decide (y ≠ z ∧ cuts (ps.map (·.2)) y.cps.toList = cuts (ps.map (·.2)) z.cps.toList) := decide_eq_decide.mpr ⟨fun h => ⟨e, by rw [← e1, ← e2, V.str.inj h]⟩, fun h => by rw [str_ext (e1.trans (h.2.trans e2.symm))]⟩
      rw [q]
      exact k _ (s12.trans s3)
end
end Gu
namespace Gu
open PySem PySem.Spec PyProof.Rows L2
/-! ### the checker: holds, of a claim that a row is confused -/
structure ChkW (K : PySem.W.Frag) (mg : Str → Option Value) (w : World) (wd fn : Str) : Prop where
  ex : ∃ (T f : Addr) (es : Array DictEntry) (n : Nat), mg "CHECKS" = some (.ref T) ∧ KDict K w T es n ∧ PySem.W.nsIn K T wd = some (some (.ref f)) ∧ mg fn = some (.ref f)
section
variable {P : Program} {w : World} {K : PySem.W.Frag} {mg : Str → Option Value} {base : Heap} {C : Addr}
def spHolds (K : PySem.W.Frag) : Sp := fun vs H Q _ => ∃ (c a t : Addr) (ps : List (Addr × Rec)) (y z : Str), vs = [.ref c, .ref t] ∧ H c = some (.tup [.str "confused", .ref a]) ∧ TRow K H a ps ∧ SqT K H t [.str y, .str z] ∧ isTxt y 200 = true ∧ isTxt z 200 = true ∧
  ∀ G, Same H G → Q (.bl (decide (y ≠ z ∧ cuts (ps.map (·.2)) y.cps.toList = cuts (ps.map (·.2)) z.cps.toList))) G
theorem cal_holds (B : Bi mg) (Ck : ChkW K mg w "confused" "confused_holds") (D : At K mg "holds" s_holds ps_holds) (C_is_tuple : Cal P w K mg base 1 "is_tuple" ps_is_tuple (spIsTuple K)) (C6 : Cal P w K mg base 6 "confused_holds" ps_confused_holds (spConf K)) : Cal P w K mg base 7 "holds" ps_holds (spHolds K) := by
  obtain ⟨T, f6, es, n6, gT, DC, nc, gf⟩ := Ck.ex
  obtain ⟨f7, fd6, F6, g6, kp, bd, _⟩ := C6.ex
  obtain rfl : f7 = f6 := by
    rw [gf] at g6
    have := Option.some.inj g6
    cases this
    rfl
  refine D.cal sc_holds (fun vs H Q E h => ?_) (fun f cdv A outer s H vs Q E hr h => ?_)
  · obtain ⟨c, a, t, ps, y, z, rfl, _⟩ := h
    rfl
  · obtain ⟨c, a, t, ps, y, z, rfl, hc, hT, ht, hy, hz, k⟩ := h
    have i0 : atI [V.str "confused", V.ref a] 0 = some (V.str "confused") := rfl
    refine ⟨_, (pss_cons (ps_if (PW.pt (pw_or (pt_not (pt_val (pe_own C_is_tuple hr (by decide) (by rfl) (pa_cons (pv 0) (pa_cons pe_int (pa_cons pe_int pa_nil)))))) (pw_or (pt_not (pt_val (pe_callB call_isi (by rfl) B.isinstance (by decide +kernel) (pa_cons (pe_ix ix_tup (pv 0) pe_int (fun _ _ => rfl)) (pa_cons (pe_bltn (v := .ty "str") (by rfl) B.str (by decide +kernel) rfl) pa_nil))))) (pw_or1 (pt_cmpR (op_notIn_kd DC) (pe_ix ix_tup (pv 0) pe_int (fun _ _ => rfl)) (pe_glob (v := .ref T) (by rfl) gT rfl) (by rfl)))))) (pss_one (ps_ret pe_bl)) pss_nil)
      (pss_cons (ps_set (i := 2) sc_holds.nd rfl (.inl rfl) (pe_ix ix_kdict (pe_glob (v := .ref T) (by rfl) gT rfl) (pe_ix ix_tup (pv 0) pe_int (fun _ _ => rfl)) (fun _ _ => rfl)))
      (pss_one (ps_ret (pe_callL (i := 2) (E := E0) F6 (hr.mono (by decide)) rfl (.inl rfl) kp bd .nil pass0 (pa_cons (pe_slice sl_tupA (pv 0) (po_some pe_int) po_none) (pa_cons (pv 1) pa_nil))))))), ?_⟩
    obtain ⟨tt, i1, i2⟩ := Isa.str_str (K := K) (H := H) (z := "confused")
    refine ⟨_, rfl, _, _, _, rfl, .inl ⟨c, _, rfl, .inl (.inl hc), _, rfl, iteF ?_⟩⟩
    refine ⟨_, rfl, c, _, _, _, rfl, rfl, .inl (.inl hc), i0, _, _, tt, _, true, rfl, .ty _, i1, i2, _, rfl, iteF ?_⟩
    refine ⟨_, rfl, c, _, _, _, rfl, rfl, .inl (.inl hc), i0, _, _, rfl, rfl, nc, _, rfl, iteF ?_⟩
    refine ⟨_, rfl, c, _, _, _, rfl, rfl, .inl (.inl hc), i0, T, _, V.ref f7, rfl, rfl, ⟨es, n6, _, DC.at_, DC.lit, nc, rfl⟩, ?_⟩
    refine ⟨rfl, _, rfl, 1, rfl, ?_⟩
    refine noPart ?_
    refine sl_ok hc fun U G1 s1 e1 => ?_
    have e1 : G1 U = some (.tup [.ref a]) := e1
    exact ⟨_, rfl, U, a, t, ps, y, z, rfl, .inl (.inl e1), hT.same s1, stH s1 ht, hy, hz, fun G s2 => k G (s1.trans s2)⟩
end
end Gu
namespace Gu
open PySem PySem.Spec PyProof.Rows L2
/-! ### sets made of a list or a tuple of keys -/
/-- each once, in the order of their first coming -/
def dds {α : Type} [DecidableEq α] (ks : List α) : List α := ks.foldl (fun acc k => if k ∈ acc then acc else acc ++ [k]) []
/-- j is among ks -/
def isIn {α : Type} [DecidableEq α] (ks : List α) (j : α) : Bool := decide (j ∈ ks)
theorem dds_snoc {α : Type} [DecidableEq α] (ks : List α) (k : α) : dds (ks ++ [k]) = if k ∈ dds ks then dds ks else dds ks ++ [k] := by
  unfold dds
  rw [List.foldl_append]
  rfl
theorem mem_dds {α : Type} [DecidableEq α] {j : α} (ks : List α) : j ∈ dds ks ↔ j ∈ ks := by
  have main : ∀ (ks acc : List α), j ∈ ks.foldl (fun acc k => if k ∈ acc then acc else acc ++ [k]) acc ↔ j ∈ acc ∨ j ∈ ks := by
    intro ks
    induction ks with
    | nil =>
      intro acc
      show j ∈ acc ↔ _
      simp
    | cons k ks ih =>
      intro acc
      show j ∈ ks.foldl _ (if k ∈ acc then acc else acc ++ [k]) ↔ _
      rw [ih]
      by_cases h : k ∈ acc
      · rw [if_pos h, List.mem_cons]
        constructor
        · rintro (h1 | h1)
          · exact .inl h1
          · exact .inr (.inr h1)
        · rintro (h1 | h1 | h1)
          · exact .inl h1
          · exact .inl (h1 ▸ h)
          · exact .inr h1
      · rw [if_neg h, List.mem_append, List.mem_singleton, List.mem_cons, or_assoc]
  have := main ks []
  unfold dds
  rw [this]
  simp
theorem dds_nodup {α : Type} [DecidableEq α] (ks : List α) : (dds ks).Nodup := by
  have main : ∀ (ks acc : List α), acc.Nodup → (ks.foldl (fun acc k => if k ∈ acc then acc else acc ++ [k]) acc).Nodup := by
    intro ks
    induction ks with
    | nil => exact fun acc h => h
    | cons k ks ih =>
      intro acc h
      show (ks.foldl _ (if k ∈ acc then acc else acc ++ [k])).Nodup
      apply ih
      by_cases e : k ∈ acc
      · rw [if_pos e]
        exact h
      · rw [if_neg e, List.nodup_append]
        refine ⟨h, by simp, fun a ha b hb => ?_⟩
        rw [List.mem_singleton.mp hb]
        exact fun q => e (q ▸ ha)
  exact main ks [] List.nodup_nil
theorem dds_len {α : Type} [DecidableEq α] (ks : List α) : (dds ks).length ≤ ks.length := by
  have main : ∀ (ks acc : List α), (ks.foldl (fun acc k => if k ∈ acc then acc else acc ++ [k]) acc).length ≤ acc.length + ks.length := by
    intro ks
    induction ks with
    | nil => exact fun acc => Nat.le_refl _
    | cons k ks ih =>
      intro acc
      refine Nat.le_trans (ih _) ?_
      show (if k ∈ acc then acc else acc ++ [k]).length + _ ≤ _
      split
      · simp only [List.length_cons]
        omega
      · simp only [List.length_cons, List.length_append, List.length_nil]
        omega
  have e := main ks []
  rw [List.length_nil, Nat.zero_add] at e
  exact e
section
variable {prog : Program} {w : World} {A : Around} {R : Result → Shared → Prop} {I : Addr} {fp wr : List Addr} {G : Array GenState → Array GenState → Prop} {n : Nat} {Py : Nat → Value → Prop} {St : Nat → Shared → Prop} {α : Type} [DecidableEq α] {knd : KeyKind prog w α}
theorem fill_set (W : WalksS prog w A.in1 I fp wr G n Py St) (T : Addr) (away : T ∉ fp) (ks : List α) (many : n = ks.length) (few : ks.length + 1 < scanBound)
    (drawn : ∀ i v, Py i v → ∃ k, ks[i]? = some k ∧ knd.is k v = true ∧ v.scannable = true) :
    ∀ (left i : Nat) (s : Shared), n - i = left → i ≤ n → St i s → s.heap.SetOf knd T (isIn (ks.take i)) (dds (ks.take i)).length →
      (∀ t, Moved (T :: wr) G s t → t.heap.SetOf knd T (isIn ks) (dds ks).length → R (.ok (.ret .none)) t) →
      codeAny (model prog w) A (.builtin "set.update.loop" ⟨[.ref T, .ref I], []⟩) R s := by
  have awayW : T ∉ wr := fun h => away (W.sub _ h)
  have wider : ∀ b ∈ wr, b ∈ T :: wr := fun b q => List.mem_cons_of_mem _ q
  intro left
  induction left with
  | zero =>
    intro i s el il st so goal
    have ei : i = n := by omega
    subst ei
    refine codeAny_builtin F.entry_set_update_loop ?_
    rw [Around.under_plainId F.plain_set_update_loop _]
    show wpAny _ A.in1 (pyNext (.ref I) >>= _) _ _ s
    refine wpAny_bind (W.done s _ _ st fun t mv => ?_)
    show wpAny _ A.in1 (ret Value.none) _ _ t
    have full : ks.take i = ks := List.take_of_length_le (by omega)
    rw [full] at so
    refine wpAny_pure (goal t (mv.mono wider) ?_)
    obtain ⟨o, es, ep, tb, ho, more⟩ := so
    exact ⟨o, es, ep, tb, mv.heap T _ awayW ho, more⟩
  | succ left ih =>
    intro i s el il st so goal
    have less : i < n := by omega
    refine codeAny_builtin F.entry_set_update_loop ?_
    rw [Around.under_plainId F.plain_set_update_loop _]
    show wpAny _ A.in1 (pyNext (.ref I) >>= _) _ _ s
    refine wpAny_bind (W.item i s _ _ less st fun v t py st1 mv => ?_)
    obtain ⟨k, ek, isk, sc⟩ := drawn i v py
    have so1 : t.heap.SetOf knd T (isIn (ks.take i)) (dds (ks.take i)).length := by
      obtain ⟨o, es, ep, tb, ho, more⟩ := so
      exact ⟨o, es, ep, tb, mv.heap T _ awayW ho, more⟩
    show wpAny _ A.in1 (holding [v] (setAdd T v) >>= _) _ _ t
    refine wpAny_bind (wpAny_holding ?_)
    unfold setAdd
    refine wpAny_holding ?_
    refine wpAny_bind (knd.pyHash isk ?_)
    have room1 : (dds (ks.take i)).length + 1 < scanBound := by
      have a := dds_len (ks.take i)
      rw [List.length_take] at a
      omega
    refine wpAny_setAddHashed_of (knd := knd) (s := { t with toks := t.toks + 1 }) isk sc so1 room1 fun h2 sb so2 => ?_
    have snoc : ks.take (i + 1) = ks.take i ++ [k] := by
      rw [List.take_add_one, ek]
      rfl
    have so3 : h2.SetOf knd T (isIn (ks.take (i + 1))) (dds (ks.take (i + 1))).length := by
      have e1 : (fun j => isIn (ks.take i) j || decide (j = k)) = isIn (ks.take (i + 1)) := by
        funext j
        unfold isIn
        rw [snoc]
        simp [List.mem_append]
      have e2 : (if isIn (ks.take i) k = true then (dds (ks.take i)).length else (dds (ks.take i)).length + 1) = (dds (ks.take (i + 1))).length := by
        rw [snoc, dds_snoc]
        unfold isIn
        by_cases q : k ∈ ks.take i
        · rw [if_pos (decide_eq_true q), if_pos ((mem_dds _).mpr q)]
        · rw [if_neg (fun z => q (of_decide_eq_true z)), if_neg (fun z => q ((mem_dds _).mp z)), List.length_append]
          rfl
      rw [← e1, ← e2]
      exact so2
    refine wpAny_pure ⟨plainId_quiet F.plain_set_update_loop _, ih (i + 1) _ (by omega) less (W.frame _ t _ _ st1 (Nat.le_succ _) fun b q o e => ?_) so3 fun t2 mv2 so4 => ?_⟩
    · rw [sb.2 b (fun z : b = T => away (z ▸ q))]
      exact e
    · refine goal t2 (Moved.trans W.gtrans ((mv.mono wider).then_heap (Nat.le_succ _) fun b o q e => ?_) mv2) so4
      rw [sb.2 b (fun z : b = T => q (by rw [z]; exact List.mem_cons_self))]
      exact e
end
section
variable {prog : Program} {w : World} {A : Around} {E : Value → Shared → Prop} {s : Shared}
/-- the empty set's object, by its way of order -/
abbrev noneIn (b : Bool) : Obj := { cls := .type "set", dict := none, data := .set #[] 0 (.fresh 0 0 b) }
set_option maxHeartbeats 3200000 in
theorem init_goes {T l : Addr} {b : Bool} {Q : PySem.Fin → Shared → Prop} {TY : String} {od : Option Addr} {dt : Data} {sl : Array (Option Value)} (at_T : s.heap.get? T = some (noneIn b)) (at_l : s.heap.get? l = some { cls := .type TY, dict := od, data := dt, slots := sl })
    (notS : isSubtype (.type TY) (.type "set") = pure false) (notF : isSubtype (.type TY) (.type "frozenset") = pure false) (notD : (Value.type TY == Value.type "dict") = false)
    (h : wpAny (model prog w) A (pyIter (.ref l)) (fun a t => wpAny (model prog w) A (do let _ ← runValue (Code.builtin "set.update.loop" { pos := [Value.ref T, a] }); pure ()) (fun _ t2 => wpAny (model prog w) A (ret Value.none) Q E t2) E t) E s) :
    wpAny (model prog w) A (Builtin.«set.__init__» ⟨[.ref T, .ref l], []⟩) Q E s := by
  have isS : Shared.TypeIs s (.ref T) "set" := ⟨_, at_T, rfl⟩
  unfold Builtin.«set.__init__» noKeywords Builtin.Frozenset.updateFrom
  revert h
  generalize pyIter = PI
  intro h
  wp_walk
  exact h
end
section
variable {prog : Program} {w : World} {A : Around} {E : Value → Shared → Prop} {s : Shared} {α : Type} [DecidableEq α] {knd : KeyKind prog w α}
set_option maxHeartbeats 3200000 in
theorem call_setOfL {l : Addr} {items : Array Value} (ks : List α) {Q : Value → Shared → Prop} (calm : A.handled = none) (at_l : s.heap.IsList l items) (size : items.size = ks.length) (few : ks.length + 1 < scanBound)
    (keys : ∀ (i : Nat) (v : Value), items[i]? = some v → ∃ k : α, ks[i]? = some k ∧ knd.is k v = true ∧ v.scannable = true)
    (h : ∀ (g : Heap) (tk : Nat), g.SetOf knd s.heap.objs.size (isIn ks) (dds ks).length → (∀ b o, s.heap.get? b = some o → g.get? b = some o) → Q (.ref s.heap.objs.size) { s with heap := g, toks := tk }) :
    wpAny (model prog w) A (call (.type "set") [.ref l]) Q E s := by
  obtain ⟨c0, tl0, mro0⟩ := F.called_set.mro
  have made0 := F.called_set.made
  have sub0 := F.called_set.sub
  refine wpAny_call (codeAny_of_tree ?_)
  show wpAny _ _ (callAny (.type "set") _) _ _ _
  refine wpAny_pure ⟨Code.quiet_builtin _ (by decide +kernel), codeAny_builtin F.entry_type_call ?_⟩
  rw [Around.under_plain (weight_type_call_type "set" [.ref l] []) rfl]
  have nt0 := F.called_set.notType
  have cc0 := F.called_set.canCreate
  have tc0 := F.typeCall_set_1 (.ref l)
  repeat (any_goals (first | assumption | wp_step))
  refine codeAny_mono (code_set_new_1 (.ref l) (E := E) (Q₁ := fun x t => ∃ b : Bool, x = .ref s.heap.objs.size ∧ t = { s with heap := s.heap.push (noneIn b) }) fun b => ⟨b, rfl, rfl⟩) fun r t hr => ?_
  cases r with
  | error e => exact hr
  | ok fl =>
    cases fl with
    | next => exact (hr : False).elim
    | brk => exact (hr : False).elim
    | cont => exact (hr : False).elim
    | ret x =>
      obtain ⟨b0, rfl, rfl⟩ := hr
      have new0 : (s.heap.push (noneIn b0)).get? s.heap.objs.size = some (noneIn b0) := Heap.get?_push_size _ rfl
      have isS : Shared.TypeIs { s with heap := s.heap.push (noneIn b0) } (.ref s.heap.objs.size) "set" := ⟨_, new0, rfl⟩
      have li0 := F.called_set.init.lookup
      have bi0 := F.called_set.init.bind (.ref s.heap.objs.size)
      repeat (any_goals (first | assumption | wp_step))
      refine codeAny_mono (codeAny_call_builtin (R := wants (fun y t2 => y = .none ∧ ∃ (g : Heap) (tk : Nat), t2 = { s with heap := g, toks := tk } ∧ g.SetOf knd s.heap.objs.size (isIn ks) (dds ks).length ∧ (∀ b o, s.heap.get? b = some o → g.get? b = some o)) E)
        F.called_set.init.plain F.entry_set_init (check_set_init_1 isS ?_)) fun r2 t2 hr2 => ?_
      · obtain ⟨ol, hol, cl0, nl, dl0⟩ := at_l
        obtain ⟨ocls, odict, odata, oslots⟩ := ol
        simp only at cl0 dl0
        subst cl0
        subst dl0
        have hol1 : (s.heap.push (noneIn b0)).get? l = some { cls := .type "list", dict := odict, data := .seq items nl, slots := oslots } := Heap.get?_push_of_some _ hol
        have notS := F.sub_list_set
        have notF := F.sub_list_frozenset
        have notD : (Value.type "list" == Value.type "dict") = false := by decide
        have at1 : (s.heap.push (noneIn b0)).IsList l items := ⟨_, hol1, rfl, nl, rfl⟩
        refine init_goes (b := b0) new0 hol1 notS notF notD ?_
        refine wpAny_pyIter_list at1 ?_
        refine wpAny_bind (wpAny_runValue ?_)
        have lt0 : l < s.heap.objs.size := Heap.lt_size hol
        have calm3 : A.in1.in1.in1.handled = none := by simp [calm]
        have z1 : (s.heap.push (noneIn b0)).objs.size = s.heap.objs.size + 1 := Heap.size_push ..
        have apart : l ≠ (s.heap.push (noneIn b0)).objs.size := by
          rw [z1]
          exact Nat.ne_of_lt (Nat.lt_succ_of_lt lt0)
        have off : s.heap.objs.size ∉ [(s.heap.push (noneIn b0)).objs.size, l] := by
          rw [z1]
          intro q
          rcases List.mem_cons.mp q with q | q
          · exact absurd q (Nat.ne_of_lt (Nat.lt_succ_self _))
          · exact absurd (List.mem_singleton.mp q) (Nat.ne_of_gt lt0)
        refine fill_set ((Walks.list calm3 _ l apart items).toS) s.heap.objs.size off ks size few keys (items.size - 0) 0 _ (by omega) (Nat.zero_le _) ⟨⟨_, Heap.get?_push_size _ rfl, rfl, rfl⟩, (at1.push _)⟩ ?first ?last
        case first =>
          have got : ((s.heap.push (noneIn b0)).push { cls := .type "list_iterator", data := .fields #[.ref l, .int 0 0] }).get? s.heap.objs.size = some (noneIn b0) := Heap.get?_push_of_some _ new0
          refine ⟨_, #[], 0, _, got, ⟨rfl, rfl, rfl⟩, rfl, (fun e he => by simp at he), (fun k => by simp [isIn]), (by decide), (by rfl), rfl⟩
        case last =>
          intro t3 mv so
          obtain ⟨g, gn, dr, tk, os⟩ := t3
          have e1 : gn = s.gens := mv.gens
          have e2 : dr = s.drawn := mv.drawn
          have e3 : os = s.os := mv.os
          subst e1
          subst e2
          subst e3
          show wpAny _ _ _ _ _ _
          refine wpAny_pure ?_
          show wpAny _ _ (ret Value.none) _ _ _
          refine wpAny_pure ⟨rfl, g, tk, rfl, so, fun b o e => ?_⟩
          have below : b < s.heap.objs.size := Heap.lt_size e
          refine mv.heap b o (fun q => ?_) (Heap.get?_push_of_some _ (Heap.get?_push_of_some _ e))
          rcases List.mem_cons.mp q with q | q
          · exact absurd q (Nat.ne_of_lt below)
          · have q2 := List.mem_singleton.mp q
            rw [z1] at q2
            exact absurd q2 (Nat.ne_of_lt (Nat.lt_succ_of_lt below))
      · cases r2 with
        | error e => exact hr2
        | ok fl2 =>
          cases fl2 with
          | next => exact (hr2 : False).elim
          | brk => exact (hr2 : False).elim
          | cont => exact (hr2 : False).elim
          | ret y =>
            obtain ⟨rfl, g, tk, rfl, so, keep⟩ := hr2
            repeat (any_goals (first | assumption | wp_step))
            exact h _ _ so keep
end
section
variable {prog : Program} {w : World} {A : Around} {E : Value → Shared → Prop} {s : Shared} {α : Type} [DecidableEq α] {knd : KeyKind prog w α}
set_option maxHeartbeats 3200000 in
theorem call_setOfT {l : Addr} {items : Array Value} (ks : List α) {Q : Value → Shared → Prop} (calm : A.handled = none) (at_l : s.heap.IsTuple l items) (size : items.size = ks.length) (few : ks.length + 1 < scanBound)
    (keys : ∀ (i : Nat) (v : Value), items[i]? = some v → ∃ k : α, ks[i]? = some k ∧ knd.is k v = true ∧ v.scannable = true)
    (h : ∀ (g : Heap) (tk : Nat), g.SetOf knd s.heap.objs.size (isIn ks) (dds ks).length → (∀ b o, s.heap.get? b = some o → g.get? b = some o) → Q (.ref s.heap.objs.size) { s with heap := g, toks := tk }) :
    wpAny (model prog w) A (call (.type "set") [.ref l]) Q E s := by
  obtain ⟨c0, tl0, mro0⟩ := F.called_set.mro
  have made0 := F.called_set.made
  have sub0 := F.called_set.sub
  refine wpAny_call (codeAny_of_tree ?_)
  show wpAny _ _ (callAny (.type "set") _) _ _ _
  refine wpAny_pure ⟨Code.quiet_builtin _ (by decide +kernel), codeAny_builtin F.entry_type_call ?_⟩
  rw [Around.under_plain (weight_type_call_type "set" [.ref l] []) rfl]
  have nt0 := F.called_set.notType
  have cc0 := F.called_set.canCreate
  have tc0 := F.typeCall_set_1 (.ref l)
  repeat (any_goals (first | assumption | wp_step))
  refine codeAny_mono (code_set_new_1 (.ref l) (E := E) (Q₁ := fun x t => ∃ b : Bool, x = .ref s.heap.objs.size ∧ t = { s with heap := s.heap.push (noneIn b) }) fun b => ⟨b, rfl, rfl⟩) fun r t hr => ?_
  cases r with
  | error e => exact hr
  | ok fl =>
    cases fl with
    | next => exact (hr : False).elim
    | brk => exact (hr : False).elim
    | cont => exact (hr : False).elim
    | ret x =>
      obtain ⟨b0, rfl, rfl⟩ := hr
      have new0 : (s.heap.push (noneIn b0)).get? s.heap.objs.size = some (noneIn b0) := Heap.get?_push_size _ rfl
      have isS : Shared.TypeIs { s with heap := s.heap.push (noneIn b0) } (.ref s.heap.objs.size) "set" := ⟨_, new0, rfl⟩
      have li0 := F.called_set.init.lookup
      have bi0 := F.called_set.init.bind (.ref s.heap.objs.size)
      repeat (any_goals (first | assumption | wp_step))
      refine codeAny_mono (codeAny_call_builtin (R := wants (fun y t2 => y = .none ∧ ∃ (g : Heap) (tk : Nat), t2 = { s with heap := g, toks := tk } ∧ g.SetOf knd s.heap.objs.size (isIn ks) (dds ks).length ∧ (∀ b o, s.heap.get? b = some o → g.get? b = some o)) E)
        F.called_set.init.plain F.entry_set_init (check_set_init_1 isS ?_)) fun r2 t2 hr2 => ?_
      · obtain ⟨ol, hol, cl0, nl, dl0⟩ := at_l
        obtain ⟨ocls, odict, odata, oslots⟩ := ol
        simp only at cl0 dl0
        subst cl0
        subst dl0
        have hol1 : (s.heap.push (noneIn b0)).get? l = some { cls := .type "tuple", dict := odict, data := .seq items nl, slots := oslots } := Heap.get?_push_of_some _ hol
        have notS := F.sub_tuple_set
        have notF := F.sub_tuple_frozenset
        have notD : (Value.type "tuple" == Value.type "dict") = false := by decide
        have at1 : (s.heap.push (noneIn b0)).IsTuple l items := ⟨_, hol1, rfl, nl, rfl⟩
        refine init_goes (b := b0) new0 hol1 notS notF notD ?_
        refine wpAny_pyIter_tuple at1 ?_
        refine wpAny_bind (wpAny_runValue ?_)
        have lt0 : l < s.heap.objs.size := Heap.lt_size hol
        have calm3 : A.in1.in1.in1.handled = none := by simp [calm]
        have z1 : (s.heap.push (noneIn b0)).objs.size = s.heap.objs.size + 1 := Heap.size_push ..
        have apart : l ≠ (s.heap.push (noneIn b0)).objs.size := by
          rw [z1]
          exact Nat.ne_of_lt (Nat.lt_succ_of_lt lt0)
        have off : s.heap.objs.size ∉ [(s.heap.push (noneIn b0)).objs.size, l] := by
          rw [z1]
          intro q
          rcases List.mem_cons.mp q with q | q
          · exact absurd q (Nat.ne_of_lt (Nat.lt_succ_self _))
          · exact absurd (List.mem_singleton.mp q) (Nat.ne_of_gt lt0)
        refine fill_set ((Walks.tuple calm3 _ l apart items).toS) s.heap.objs.size off ks size few keys (items.size - 0) 0 _ (by omega) (Nat.zero_le _) ⟨⟨_, Heap.get?_push_size _ rfl, rfl, rfl⟩, (at1.push _)⟩ ?first ?last
        case first =>
          have got : ((s.heap.push (noneIn b0)).push { cls := .type "tuple_iterator", data := .fields #[.ref l, .int 0 0] }).get? s.heap.objs.size = some (noneIn b0) := Heap.get?_push_of_some _ new0
          refine ⟨_, #[], 0, _, got, ⟨rfl, rfl, rfl⟩, rfl, (fun e he => by simp at he), (fun k => by simp [isIn]), (by decide), (by rfl), rfl⟩
        case last =>
          intro t3 mv so
          obtain ⟨g, gn, dr, tk, os⟩ := t3
          have e1 : gn = s.gens := mv.gens
          have e2 : dr = s.drawn := mv.drawn
          have e3 : os = s.os := mv.os
          subst e1
          subst e2
          subst e3
          show wpAny _ _ _ _ _ _
          refine wpAny_pure ?_
          show wpAny _ _ (ret Value.none) _ _ _
          refine wpAny_pure ⟨rfl, g, tk, rfl, so, fun b o e => ?_⟩
          have below : b < s.heap.objs.size := Heap.lt_size e
          refine mv.heap b o (fun q => ?_) (Heap.get?_push_of_some _ (Heap.get?_push_of_some _ e))
          rcases List.mem_cons.mp q with q | q
          · exact absurd q (Nat.ne_of_lt below)
          · have q2 := List.mem_singleton.mp q
            rw [z1] at q2
            exact absurd q2 (Nat.ne_of_lt (Nat.lt_succ_of_lt below))
      · cases r2 with
        | error e => exact hr2
        | ok fl2 =>
          cases fl2 with
          | next => exact (hr2 : False).elim
          | brk => exact (hr2 : False).elim
          | cont => exact (hr2 : False).elim
          | ret y =>
            obtain ⟨rfl, g, tk, rfl, so, keep⟩ := hr2
            repeat (any_goals (first | assumption | wp_step))
            exact h _ _ so keep
end
theorem key_at : ∀ {ks : List Key} {us : List Value}, Vals (ks.map kV) us → ∀ (i : Nat) (v : Value), us[i]? = some v → ∃ k, ks[i]? = some k ∧ RelV (kV k) v
  | [], _, .nil, i, v, h => by simp at h
  | k :: ks, _, .cons r t, 0, v, h => by
    cases h
    exact ⟨k, rfl, r⟩
  | k :: ks, _, .cons r t, i + 1, v, h => key_at t i v h
/-- len(set(x)): how many different keys -/
def tLenSetK (K : PySem.W.Frag) (ta : TE) : TE := fun σ H Q => ta σ H fun x G => ∃ (l : Addr) (ks : List Key), x = .ref l ∧ (SqL K G l (ks.map kV) ∨ SqT K G l (ks.map kV)) ∧ ks.length ≤ 4000 ∧ Q (.int ((dds ks).length : Nat)) G
theorem pe_lenSetK {X : Cx} {a : Expr} {ta : TE} {p p2 q pos : Pos} (hg : Gl X "len") (hm : X.mg "len" = none) (hg2 : Gl X "set") (hm2 : X.mg "set" = none) (ha : PE X a ta) (calm : X.calm = true := by rfl)
    (na : starEach [a] X.env = (false, eval a X.env) :: starEach [] X.env := by rfl) : PE X (.Call (.Name "len" p) [.Call (.Name "set" p2) [a] [] q] [] pos) (tLenSetK X.K ta) := by
  refine ⟨fun pins s σ H Q I h => Call_ (ld_blt I hg hm boot_len (PyProof.Rows.callWith_builtin1 (PyProof.Rows.args_cons ?_ rfl) rfl rfl))⟩
  refine Call_ (ld_blt I hg2 hm2 boot_set (PyProof.Rows.callWith_type1 (PyProof.Rows.args_cons (thn (ha.run pins s σ H _ I h) fun v s1 ⟨x, G, I1, r1, q1⟩ => PyProof.Rows.args_nil ?_) na) na rfl))
  obtain ⟨l, ks, rfl, hq, few, q1⟩ := q1
  cases r1
  have fin : ∀ (g : Heap) (tk : Nat), g.SetOf (mixKind X.prog X.w) s1.heap.objs.size (isIn ks) (dds ks).length → (∀ b o, s1.heap.get? b = some o → g.get? b = some o) →
      wpAny (model X.prog X.w) X.A (call (.builtin "len") [.ref s1.heap.objs.size]) (fun v s' => ∃ (y : V) (J : Hp), Inv X pins σ J s' ∧ RelV y v ∧ Q y J) X.xe { s1 with heap := g, toks := tk } := by
    intro g tk so keep
    obtain ⟨o, es, ep, t, ho, hex, hd, _, _, _, hf, hn⟩ := so
    have I2 : Inv X pins σ G { s1 with heap := g, toks := tk } := I1.kept keep
    have b1 := dds_len ks
    exact call_len_set ho hex hd hf (by rw [hn]; omega) ⟨.int ((dds ks).length : Nat), G, I2.tok _, ⟨_, by rw [hn]⟩, q1⟩
  rcases hq with hq | hq
  · obtain ⟨its, r, pl, hz⟩ := I1.list hq
    have el : its.toArray.size = ks.length := by rw [List.size_toArray, ← r.length, List.length_map]
    refine call_setOfL (knd := mixKind X.prog X.w) ks (I1.ok.hd calm) pl.isList el (by unfold scanBound; omega) (fun i v hv => ?_) fun g tk so keep => PyProof.Rows.args_nil (fin g tk so keep)
    obtain ⟨k, e1, e2⟩ := key_at r i v (by simpa using hv)
    exact ⟨k, e1, kV_is e2, key_scan e2⟩
  · obtain ⟨its, r, pl, hz⟩ := I1.tuple hq
    have el : its.toArray.size = ks.length := by rw [List.size_toArray, ← r.length, List.length_map]
    refine call_setOfT (knd := mixKind X.prog X.w) ks (I1.ok.hd calm) pl el (by unfold scanBound; omega) (fun i v hv => ?_) fun g tk so keep => PyProof.Rows.args_nil (fin g tk so keep)
    obtain ⟨k, e1, e2⟩ := key_at r i v (by simpa using hv)
    exact ⟨k, e1, kV_is e2, key_scan e2⟩
end Gu
namespace Gu
open PySem PySem.Spec PyProof.Rows L2
/-! ### families of shorteners -/
inductive Kd where
  | e
  | s
  | m
def Kd.word : Kd → Str
  | .e => "end"
  | .s => "start"
  | .m => "middle"
def fam (k : Kd) (z : Str) (w : Int) : Rec := match k with
  | .e => ⟨w, w - z.length, 0, z⟩
  | .s => ⟨w, 0, w - z.length, z⟩
  | .m => ⟨w, (w - z.length) - (w - z.length) / 2, (w - z.length) / 2, z⟩
theorem fam_fit (k : Kd) {z : Str} {w : Int} (hz : isTxt z 3 = true) (h1 : (z.length : Int) ≤ w) (h2 : w ≤ 40) : (fam k z w).fit := by
  cases k
  · exact ⟨⟨show (0 : Int) ≤ w by omega, h2⟩, ⟨show (0 : Int) ≤ w - z.length by omega, show w - z.length ≤ 40 by omega⟩, ⟨show (0 : Int) ≤ 0 by omega, show (0 : Int) ≤ 40 by omega⟩, hz⟩
  · exact ⟨⟨show (0 : Int) ≤ w by omega, h2⟩, ⟨show (0 : Int) ≤ 0 by omega, show (0 : Int) ≤ 40 by omega⟩, ⟨show (0 : Int) ≤ w - z.length by omega, show w - z.length ≤ 40 by omega⟩, hz⟩
  · exact ⟨⟨show (0 : Int) ≤ w by omega, h2⟩, ⟨show (0 : Int) ≤ (w - z.length) - (w - z.length) / 2 by omega, show (w - z.length) - (w - z.length) / 2 ≤ 40 by omega⟩, ⟨show (0 : Int) ≤ (w - z.length) / 2 by omega, show (w - z.length) / 2 ≤ 40 by omega⟩, hz⟩
theorem str_eqL {y z : Str} (h : y.cps.toList = z.cps.toList) : y = z := by
  cases y with
  | mk a =>
    cases z with
    | mk b =>
      congr 1
      exact Array.toList_inj.mp h
/-- what is shown, as a text -/
def shown (rs : List Rec) (z : Str) : Str := ⟨(cuts rs z.cps.toList).toArray⟩
theorem shown_cps (rs : List Rec) (z : Str) : (shown rs z).cps.toList = cuts rs z.cps.toList := rfl
theorem shown_of {rs : List Rec} {y z : Str} (h : y.cps.toList = cuts rs z.cps.toList) : y = shown rs z := str_eqL h
theorem dds_map {α β : Type} [DecidableEq α] [DecidableEq β] {f : α → β} (inj : ∀ a b, f a = f b → a = b) (xs : List α) : dds (xs.map f) = (dds xs).map f := by
  have main : ∀ (xs acc : List α), (xs.map f).foldl (fun acc k => if k ∈ acc then acc else acc ++ [k]) (acc.map f) = (xs.foldl (fun acc k => if k ∈ acc then acc else acc ++ [k]) acc).map f := by
    intro xs
    induction xs with
    | nil => exact fun _ => rfl
    | cons x xs ih =>
      intro acc
      show (xs.map f).foldl _ (if f x ∈ acc.map f then acc.map f else acc.map f ++ [f x]) = (xs.foldl _ (if x ∈ acc then acc else acc ++ [x])).map f
      by_cases e : x ∈ acc
      · rw [if_pos e, if_pos (List.mem_map.mpr ⟨x, e, rfl⟩)]
        exact ih acc
      · rw [if_neg e, if_neg (fun h => by
          obtain ⟨y, h1, h2⟩ := List.mem_map.mp h
          exact e (inj _ _ h2 ▸ h1))]
        have := ih (acc ++ [x])
        rw [List.map_append] at this
        exact this
  exact main xs []
theorem keyS_len (zs : List Str) : (dds (zs.map (Sum.inr : Str → Key))).length = (dds zs).length := by
  rw [dds_map (fun a b h => Sum.inr.inj h), List.length_map]
/-- different texts are shown in different ways -/
def sepB (rs : List Rec) (zs : List Str) : Bool := decide ((dds (zs.map (shown rs))).length = (dds zs).length)
theorem atP_strs' {ts : List Str} {i : Nat} {x : V} (h : (ts.map V.str)[i]? = some x) : ∃ t, ts[i]? = some t ∧ x = .str t := by
  rw [List.getElem?_map] at h
  cases e : ts[i]? with
  | none =>
    rw [e] at h
    cases h
  | some t =>
    rw [e] at h
    cases h
    exact ⟨t, rfl, rfl⟩
theorem sameT {K : PySem.W.Frag} {H G : Hp} {l : Addr} {xs : List V} (a : Same H G) (h : SqT K H l xs) : SqT K G l xs := by
  rcases h with (h | ⟨o, h⟩) | h
  · exact .inl (.inl (a _ _ h))
  · exact .inl (.inr ⟨o, a _ _ h⟩)
  · exact .inr h
theorem offH {H J : Hp} {M : Addr} {o : HO} (s : Same H J) (n : H M = none) : Same H (upd J M o) := fun b x e => by
  rw [upd_ne (ne_of_none e n)]
  exact s b x e
theorem takeN {α : Type} {qs : List α} {i : Nat} {q : α} (h : qs[i]? = some q) : qs.take (i + 1) = qs.take i ++ [q] := by
  rw [List.take_add_one, h]
  rfl
section
variable {P : Program} {w : World} {K : PySem.W.Frag} {mg : Str → Option Value} {base : Heap} {C : Addr}
def spWidthsOf : Sp := fun vs H Q _ => ∃ (z : Str), vs = [.str z] ∧ isTxt z 3 = true ∧ ∀ (T : Addr), H T = none → Q (.ref T) (upd H T (.lst (rgV (z.length : Int) 41)))
theorem cal_widthsOf (B : Bi mg) (D : At K mg "widths_of" s_widths_of ps_widths_of) : Cal P w K mg base 1 "widths_of" ps_widths_of spWidthsOf := by
  refine D.cal sc_widths_of (fun vs H Q E h => ?_) (fun f cdv A outer s H vs Q E hr h => ?_)
  · obtain ⟨z, rfl, _⟩ := h
    rfl
  · obtain ⟨z, rfl, hz, k⟩ := h
    have zl := isTxt_len hz
    refine ⟨_, (pss_one (ps_ret (pe_listRg (by rfl) (by rfl) B.list (prg_2 (by rfl) B.range (pe_callB call_len (by rfl) B.len (by decide +kernel) (pa_cons (pv 0) pa_nil)) (pe_op op_add (pe_cst B.MOST_SIGNS (by rfl)) pe_int))))), ?_⟩
    refine ⟨_, rfl, _, _, rfl, ⟨Nat.le_of_lt (small1000 (by omega)), rfl⟩, _, _, rfl, rfl, _, _, rfl, rfl, RgOk.of_le (by omega) (by omega) (by omega) (by omega), fun T nT => k T nT⟩
def spMemberOf (C : Addr) : Sp := fun vs H Q _ => ∃ (k : Kd) (z : Str) (w : Int), vs = [.str k.word, .str z, .int w] ∧ isTxt z 3 = true ∧ (z.length : Int) ≤ w ∧ w ≤ 40 ∧ ∀ (x : Addr) (G : Hp), H x = none → ShAt C G x (fam k z w) → Same H G → Q (.ref x) G
theorem made_sh {H G : Hp} {x dx : Addr} {o1 o2 : HO} (nx : H x = none) (ndx : H dx = none) (keep : ∀ c o, upd (upd H dx o1) x o2 c = some o → c ≠ x → G c = some o) : Same H G := fun c o e => keep c o (by rw [upd_ne (ne_of_none e nx), upd_ne (ne_of_none e ndx)]; exact e) (ne_of_none e nx)
theorem cal_memberOf (B : Bi mg) (D : At K mg "member_of" s_member_of ps_member_of) (M_sh : Mak P w K mg base 3 "Shortener" C (spInit C)) : Cal P w K mg base 5 "member_of" ps_member_of (spMemberOf C) := by
  refine D.cal sc_member_of (fun vs H Q E h => ?_) (fun f cdv A outer s H vs Q E hr h => ?_)
  · obtain ⟨k, z, w, rfl, _⟩ := h
    rfl
  · obtain ⟨kd, z, w, rfl, hz, w1, w2, k⟩ := h
    have zl := isTxt_len hz
    have fit := fam_fit kd hz w1 w2
    have e1 : V.str "end" ≠ V.str "start" := by decide +kernel
    have e2 : V.str "end" ≠ V.str "middle" := by decide +kernel
    have e3 : V.str "start" ≠ V.str "middle" := by decide +kernel
    refine ⟨_, (pss_cons (ps_set (i := 3) sc_member_of.nd rfl (.inl rfl) (pe_op op_sub (pv 2) (pe_callB call_len (by rfl) B.len (by decide +kernel) (pa_cons (pv 1) pa_nil))))
      (pss_cons (ps_if (pt_cmpR op_eq (pv 0) pe_str (nomark _)) (pss_one (ps_ret (pe_new M_sh hr (by decide) (by rfl) (pa_cons (pv 2) (pa_cons (pv 3) (pa_cons pe_int (pa_cons (pv 1) pa_nil))))))) pss_nil)
      (pss_cons (ps_if (pt_cmpR op_eq (pv 0) pe_str (nomark _)) (pss_one (ps_ret (pe_new M_sh hr (by decide) (by rfl) (pa_cons (pv 2) (pa_cons pe_int (pa_cons (pv 3) (pa_cons (pv 1) pa_nil))))))) pss_nil)
      (pss_one (ps_ret (pe_new M_sh hr (by decide) (by rfl) (pa_cons (pv 2) (pa_cons (pe_op op_sub (pv 3) (pe_op op_fdiv (pv 3) pe_int)) (pa_cons (pe_op op_fdiv (pv 3) pe_int) (pa_cons (pv 1) pa_nil)))))))))), ?_⟩
    refine ⟨_, rfl, _, rfl, _, _, rfl, ⟨Nat.le_of_lt (small1000 (by omega)), rfl⟩, _, _, rfl, rfl, ?_⟩
    cases kd with
    | e =>
      refine ⟨_, rfl, rfl, _, rfl, ?_⟩
      rw [decide_eq_true (show V.str Kd.e.word = V.str "end" from rfl)]
      refine iteT ⟨_, rfl, _, rfl, _, rfl, fun x dx nx ndx nex => ⟨x, dx, fam .e z w, rfl, upd_same, fit, fun b G nb gx gb keep => ?_⟩⟩
      exact ⟨rfl, k x G nx ⟨dx, b, gx, gb⟩ (made_sh nx ndx keep)⟩
    | s =>
      refine ⟨_, rfl, rfl, _, rfl, ?_⟩
      rw [decide_eq_false (show V.str Kd.s.word ≠ V.str "end" from Ne.symm e1)]
      refine iteF ⟨_, rfl, rfl, _, rfl, ?_⟩
      rw [decide_eq_true (show V.str Kd.s.word = V.str "start" from rfl)]
      refine iteT ⟨_, rfl, _, rfl, _, rfl, fun x dx nx ndx nex => ⟨x, dx, fam .s z w, rfl, upd_same, fit, fun b G nb gx gb keep => ?_⟩⟩
      exact ⟨rfl, k x G nx ⟨dx, b, gx, gb⟩ (made_sh nx ndx keep)⟩
    | m =>
      refine ⟨_, rfl, rfl, _, rfl, ?_⟩
      rw [decide_eq_false (show V.str Kd.m.word ≠ V.str "end" from Ne.symm e2)]
      refine iteF ⟨_, rfl, rfl, _, rfl, ?_⟩
      rw [decide_eq_false (show V.str Kd.m.word ≠ V.str "start" from Ne.symm e3)]
      refine iteF ⟨_, rfl, _, rfl, _, rfl, _, _, rfl, rfl, ⟨by decide, by decide⟩, _, _, rfl, rfl, _, rfl, _, _, rfl, rfl, ⟨by decide, by decide⟩, _, rfl, fun x dx nx ndx nex => ⟨x, dx, fam .m z w, rfl, upd_same, fit, fun b G nb gx gb keep => ?_⟩⟩
      exact ⟨rfl, k x G nx ⟨dx, b, gx, gb⟩ (made_sh nx ndx keep)⟩
/-! ### separates -/
def spSep (K : PySem.W.Frag) (C : Addr) : Sp := fun vs H Q _ => ∃ (a T : Addr) (rs : List (Addr × Rec)) (zs : List Str), vs = [.ref a, .ref T] ∧ RowAt C H a rs ∧ SqT K H T (zs.map V.str) ∧ (∀ z ∈ zs, z.cps.toList.length ≤ 600) ∧ zs.length ≤ 100 ∧ ∀ G, Same H G → Q (.bl (sepB (rs.map (·.2)) zs)) G
theorem cal_sep (B : Bi mg) (D : At K mg "separates" s_separates ps_separates) (C_shown_by : Cal P w K mg base 2 "shown_by" ps_shown_by (spShownBy C)) : Cal P w K mg base 3 "separates" ps_separates (spSep K C) := by
  refine D.cal sc_separates (fun vs H Q E h => ?_) (fun f cdv A outer s H vs Q E hr h => ?_)
  · obtain ⟨a, T, rs, zs, rfl, _⟩ := h
    rfl
  · obtain ⟨a, T, rs, zs, rfl, hR, hT, zl, nl, k⟩ := h
    refine ⟨_, (pss_one (ps_ret (pe_cmpR op_eq (pe_lenSetK (by rfl) B.len (by rfl) B.set (pe_lc (own := [("text", 2)]) (by rfl) sc_separates.nd (pi_tup (pv 1)) (blkOk_by (own := [("text", 2)]) (N := ["row", "texts", "text"]) (sc := defScope s_separates) (by decide +kernel)) (fun _ _ _ _ _ => pg_name (i := 2) sc_separates.nd rfl (.inl rfl)) (fun _ _ _ _ _ => pts_nil) (fun _ _ _ _ _ => (pe_own C_shown_by hr (by decide) (by rfl) (pa_cons (pv 0) (pa_cons (pv 2) pa_nil)))))) (pe_lenSetK (by rfl) B.len (by rfl) B.set (pv 1)) (nomark _)))), ?_⟩
    refine ⟨_, rfl, T, rfl, ⟨_, hT⟩, fun M nM => lc_tup (K := K) (a := T) (xs := zs.map V.str) (fun i J => J M = some (.lst (((zs.take i).map (shown (rs.map (·.2)))).map V.str)) ∧ Same H J)
      ⟨upd_same, same_new nM⟩ (fun i J _ ⟨_, sJ⟩ => sameT sJ hT) ?_ ?_⟩
    · rintro i v J hi ⟨eM, sJ⟩
      obtain ⟨z, hz, rfl⟩ := atP_strs' hi
      have mz := List.mem_of_getElem? hz
      refine ⟨rfl, yes (iteT ⟨_, rfl, _, rfl, a, rs, z, rfl, hR.same sJ, zl z mz, fun y ey => ⟨_, eM, small1000 ?_, ?_, offH sJ nM⟩⟩)⟩
      · rw [List.length_map, List.length_map, List.length_take]
        omega
      · rw [upd_same, takeN hz, shown_of ey, List.map_append, List.map_append]
        rfl
    · rintro J ⟨eM, sJ⟩
      rw [List.length_map, List.take_length] at eM
      refine ⟨M, (zs.map (shown (rs.map (·.2)))).map Sum.inr, rfl, .inl (.inl (.inl ?_)), by rw [List.length_map, List.length_map]; omega, ?_⟩
      · rw [eM]
        simp only [List.map_map]
        rfl
      refine ⟨_, rfl, T, zs.map Sum.inr, rfl, .inr ?_, by rw [List.length_map]; omega, rfl, ?_⟩
      · rw [List.map_map]
        exact sameT sJ hT
      · rw [keyS_len, keyS_len]
        have e : decide (V.int ((dds (zs.map (shown (rs.map (·.2))))).length : Nat) = V.int ((dds zs).length : Nat)) = sepB (rs.map (·.2)) zs := by
          unfold sepB
          refine decide_eq_decide.mpr ⟨fun h => ?_, fun h => by rw [h]⟩
          have := V.int.inj h
          omega
        rw [e]
        exact k J sJ
end
end Gu
namespace Gu
open PySem PySem.Spec PyProof.Rows L2
/-! ### checks of kinds and texts -/
/-- a module's tuple of texts -/
structure TupC (K : PySem.W.Frag) (mg : Str → Option Value) (x : Str) (ys : List Str) : Prop where
  ex : ∃ T, mg x = some (.ref T) ∧ ∀ H : Hp, SqT K H T (ys.map V.str)
def kinds : List Str := ["end", "start", "middle"]
theorem Kd.mem (k : Kd) : k.word ∈ kinds := by
  cases k
  · exact List.mem_cons_self ..
  · exact List.mem_cons_of_mem _ (List.mem_cons_self ..)
  · exact List.mem_cons_of_mem _ (List.mem_cons_of_mem _ (List.mem_cons_self ..))
theorem kind_of {y : Str} (h : y ∈ kinds) : ∃ k : Kd, y = k.word := by
  unfold kinds at h
  simp only [List.mem_cons, List.not_mem_nil, or_false] at h
  rcases h with rfl | rfl | rfl
  · exact ⟨.e, rfl⟩
  · exact ⟨.s, rfl⟩
  · exact ⟨.m, rfl⟩
theorem inV_strs (y : Str) (ys : List Str) : inV (.str y) (ys.map V.str) = decide (y ∈ ys) := by
  induction ys with
  | nil => rfl
  | cons x xs ih =>
    show (eqV (.str x) (.str y) || inV (.str y) (xs.map V.str)) = _
    rw [ih]
    by_cases h : x = y
    · subst h
      have e : eqV (.str x) (.str x) = true := decide_eq_true rfl
      rw [e, Bool.true_or, decide_eq_true (List.mem_cons_self ..)]
    · have e : eqV (.str x) (.str y) = false := decide_eq_false fun q => h q
      rw [e, Bool.false_or]
      refine decide_eq_decide.mpr ⟨fun q => List.mem_cons_of_mem _ q, fun q => ?_⟩
      rcases List.mem_cons.mp q with q | q
      · exact absurd q.symm h
      · exact q
theorem flatS (ys : List Str) : (ys.map V.str).all flatV = true := by
  rw [List.all_map, List.all_eq_true]
  exact fun _ _ => rfl
section
variable {P : Program} {w : World} {K : PySem.W.Frag} {mg : Str → Option Value} {base : Heap} {C : Addr}
def spCheckKind : Sp := fun vs H Q _ => ∃ (k : Kd), vs = [.str k.word] ∧ Q .non H
theorem cal_checkKind (B : Bi mg) (Z : TupC K mg "KINDS" kinds) (D : At K mg "check_kind" s_check_kind ps_check_kind) : Cal P w K mg base 1 "check_kind" ps_check_kind spCheckKind := by
  refine D.cal sc_check_kind (fun vs H Q E h => ?_) (fun f cdv A outer s H vs Q E hr h => ?_)
  · obtain ⟨k, rfl, _⟩ := h
    rfl
  · obtain ⟨kd, rfl, k⟩ := h
    obtain ⟨T, gT, hT⟩ := Z.ex
    refine ⟨_, (pss_one (ps_if (PW.pt (pw_or (pt_not (pt_val (pe_callB call_isi (by rfl) B.isinstance (by decide +kernel) (pa_cons (pv 0) (pa_cons (pe_bltn (v := .ty "str") (by rfl) B.str (by decide +kernel) rfl) pa_nil))))) (pw_or1 (pt_cmpR op_notIn_seq (pv 0) (pe_glob (v := .ref T) (by rfl) gT rfl) (by rfl))))) pss_never pss_nil)), ?_⟩
    obtain ⟨t, i1, i2⟩ := Isa.str_str (K := K) (H := H) (z := kd.word)
    refine ⟨_, rfl, _, _, t, _, true, rfl, .ty _, i1, i2, _, rfl, iteF ?_⟩
    refine ⟨_, rfl, T, _, rfl, .inr (hT H), rfl, flatS kinds, _, rfl, ?_⟩
    rw [inV_strs, decide_eq_true kd.mem]
    exact iteF k
def spTexts (K : PySem.W.Frag) : Sp := fun vs H Q _ => ∃ (l : Addr) (ts : List Str) (m : Int), vs = [.ref l, .int m] ∧ SqT K H l (ts.map V.str) ∧ (ts.length : Int) ≤ m ∧ (∀ t ∈ ts, isTxt t 200 = true) ∧ ∀ G, Same H G → Q .non G
theorem cal_texts (B : Bi mg) (D : At K mg "check_texts" s_check_texts ps_check_texts) (C_is_tuple : Cal P w K mg base 1 "is_tuple" ps_is_tuple (spIsTuple K)) (C_is_text : Cal P w K mg base 1 "is_text" ps_is_text (spIsText K)) : Cal P w K mg base 2 "check_texts" ps_check_texts (spTexts K) := by
  refine D.cal sc_check_texts (fun vs H Q E h => ?_) (fun f cdv A outer s H vs Q E hr h => ?_)
  · obtain ⟨l, ts, m, rfl, _⟩ := h
    rfl
  · obtain ⟨l, ts, m, rfl, hl, tm, wt, k⟩ := h
    refine ⟨_, (pss_cons (ps_if (pt_not (pt_val (pe_own C_is_tuple hr (by decide) (by rfl) (pa_cons (pv 0) (pa_cons pe_int (pa_cons (pv 1) pa_nil)))))) pss_never pss_nil)
      (pss_one (ps_for PassesOwn.never rfl (pi_enT (by rfl) B.enumerate (pa_cons (pv 0) pa_nil)) (pg_tup rfl (pgs_cons (pg_name (i := 2) sc_check_texts.nd rfl (.inl rfl)) (pgs_cons (pg_name (i := 3) sc_check_texts.nd rfl (.inl rfl)) pgs_nil)))
      (pss_one (ps_if (pt_not (pt_val (pe_own C_is_text hr (by decide) (by rfl) (pa_cons (pv 3) (pa_cons (pe_cst B.MOST_TEXT (by rfl)) pa_nil))))) pss_never pss_nil))))), ?_⟩
    refine ⟨_, rfl, _, rfl, _, _, _, rfl, .inl ⟨l, _, rfl, hl, _, rfl, ?_⟩⟩
    rw [decide_eq_true (show (0 : Int) ≤ ((ts.map V.str).length : Int) ∧ ((ts.map V.str).length : Int) ≤ m by rw [List.length_map]; omega)]
    refine iteF ⟨_, rfl, l, _, rfl, hl, for_it walk_enT (fun i σ J => ∃ u v, σ = [some (.ref l), some (.int m), u, v] ∧ Same H J) ⟨none, none, rfl, Same.refl H⟩ (fun i σ J _ ⟨_, _, _, sJ⟩ => sameT sJ hl) ?_ ?_⟩
    · rintro i v σ J J1 hi ⟨u, v2, rfl, sJ⟩ ⟨T, x, hx, rfl, nT, rfl⟩
      obtain ⟨t, ht, rfl⟩ := atP_strs' hx
      have mt := List.mem_of_getElem? ht
      have sT : Same H (upd J T (.tup [.int (i : Nat), .str t])) := sJ.trans (same_new nT)
      have tl := isTxt_len (wt t mt)
      refine ⟨T, _, rfl, .inl (.inl upd_same), rfl, _, _, rfl, _, _, rfl, rfl, ?_⟩
      refine ⟨_, rfl, _, _, rfl, .inl ⟨t, rfl, by omega, fun G sG => ⟨_, rfl, ?_⟩⟩⟩
      rw [show isTxt t 200 = true from wt t mt]
      exact iteF ⟨_, _, rfl, sT.trans sG⟩
    · rintro σ J ⟨u, v, rfl, sJ⟩
      exact k J sJ
/-! ### tells_apart, widths, narrowest -/
def spTells (K : PySem.W.Frag) (C : Addr) : Sp := fun vs H Q _ => ∃ (a T : Addr) (rs : List (Addr × Rec)) (zs : List Str), vs = [.ref a, .ref T] ∧ RowAt C H a rs ∧ 1 ≤ rs.length ∧ rs.length ≤ 4 ∧ SqT K H T (zs.map V.str) ∧ (∀ z ∈ zs, isTxt z 200 = true) ∧ zs.length ≤ 20 ∧ ∀ G, Same H G → Q (.bl (sepB (rs.map (·.2)) zs)) G
theorem txt_len {z : Str} (h : isTxt z 200 = true) : z.cps.toList.length ≤ 200 := by
  have a := isTxt_len h
  have e : z.length = z.cps.toList.length := rfl
  omega
theorem cal_tells (B : Bi mg) (D : At K mg "tells_apart" s_tells_apart ps_tells_apart) (C_check_row : Cal P w K mg base 2 "check_row" ps_check_row (spCheckRow C)) (C_check_texts : Cal P w K mg base 2 "check_texts" ps_check_texts (spTexts K)) (C_separates : Cal P w K mg base 3 "separates" ps_separates (spSep K C)) : Cal P w K mg base 4 "tells_apart" ps_tells_apart (spTells K C) := by
  refine D.cal sc_tells_apart (fun vs H Q E h => ?_) (fun f cdv A outer s H vs Q E hr h => ?_)
  · obtain ⟨a, T, rs, zs, rfl, _⟩ := h
    rfl
  · obtain ⟨a, T, rs, zs, rfl, hR, l1, l4, hT, zt, zl, k⟩ := h
    refine ⟨_, (pss_cons (ps_expr (pe_own C_check_row hr (by decide) (by rfl) (pa_cons (pv 0) pa_nil)))
      (pss_cons (ps_expr (pe_own C_check_texts hr (by decide) (by rfl) (pa_cons (pv 1) (pa_cons (pe_cst B.MOST_TEXTS (by rfl)) pa_nil))))
      (pss_one (ps_ret (pe_own C_separates hr (by decide) (by rfl) (pa_cons (pv 0) (pa_cons (pv 1) pa_nil))))))), ?_⟩
    refine ⟨_, rfl, a, rs, rfl, hR, l1, l4, fun G1 s1 => ⟨_, rfl, T, zs, _, rfl, sameT s1 hT, by omega, zt, fun G2 s2 => ?_⟩⟩
    have s12 := s1.trans s2
    exact ⟨_, rfl, _, rfl, a, T, rs, zs, rfl, hR.same s12, sameT s12 hT, fun z hz => Nat.le_trans (txt_len (zt z hz)) (by decide), by omega, fun G s3 => k G (s12.trans s3)⟩
/-- the widths from m on, n of them, that tell apart -/
def widL (k : Kd) (z : Str) (zs : List Str) (n : Nat) : List Int := ((List.range n).map fun i => (z.length : Int) + (i : Nat)).filter fun w => sepB [fam k z w] zs
theorem widL_succ (k : Kd) (z : Str) (zs : List Str) (n : Nat) : widL k z zs (n + 1) = widL k z zs n ++ if sepB [fam k z ((z.length : Int) + (n : Nat))] zs = true then [(z.length : Int) + (n : Nat)] else [] := by
  unfold widL
  rw [List.range_succ, List.map_append, List.filter_append]
  congr 1
  show List.filter _ [_] = _
  rw [List.filter_cons, List.filter_nil]
theorem widL_len (k : Kd) (z : Str) (zs : List Str) (n : Nat) : (widL k z zs n).length ≤ n := by
  unfold widL
  refine Nat.le_trans (List.length_filter_le _ _) ?_
  rw [List.length_map, List.length_range]
  exact Nat.le_refl n
theorem rgV_at {a b : Int} {i : Nat} {x : V} (h : (rgV a b)[i]? = some x) : x = .int (a + (i : Nat)) ∧ (i : Int) < b - a := by
  unfold rgV at h
  rw [List.getElem?_map] at h
  cases e : (List.range (b - a).toNat)[i]? with
  | none =>
    rw [e] at h
    cases h
  | some j =>
    rw [e] at h
    cases h
    obtain ⟨h1, h2⟩ := List.getElem?_eq_some_iff.mp e
    rw [List.getElem_range] at h2
    subst h2
    rw [List.length_range] at h1
    exact ⟨rfl, by omega⟩
def widAll (k : Kd) (z : Str) (zs : List Str) : List Int := widL k z zs ((41 : Int) - z.length).toNat
def spWidths (K : PySem.W.Frag) : Sp := fun vs H Q _ => ∃ (kd : Kd) (z : Str) (T : Addr) (zs : List Str), vs = [.str kd.word, .str z, .ref T] ∧ isTxt z 3 = true ∧ SqT K H T (zs.map V.str) ∧ (∀ z ∈ zs, isTxt z 200 = true) ∧ zs.length ≤ 20 ∧ ∀ (U : Addr) (G : Hp), Same H G → G U = some (.tup ((widAll kd z zs).map V.int)) → Q (.ref U) G
theorem cal_widths (B : Bi mg) (D : At K mg "widths" s_widths ps_widths) (C_check_kind : Cal P w K mg base 1 "check_kind" ps_check_kind spCheckKind) (C_check_mark : Cal P w K mg base 2 "check_mark" ps_check_mark spCheckMark) (C_check_texts : Cal P w K mg base 2 "check_texts" ps_check_texts (spTexts K)) (C_widths_of : Cal P w K mg base 1 "widths_of" ps_widths_of spWidthsOf)
    (C_member_of : Cal P w K mg base 5 "member_of" ps_member_of (spMemberOf C)) (C_separates : Cal P w K mg base 3 "separates" ps_separates (spSep K C)) : Cal P w K mg base 6 "widths" ps_widths (spWidths K) := by
  refine D.cal sc_widths (fun vs H Q E h => ?_) (fun f cdv A outer s H vs Q E hr h => ?_)
  · obtain ⟨kd, z, T, zs, rfl, _⟩ := h
    rfl
  · obtain ⟨kd, z, T, zs, rfl, hz, hT, zt, zl, k⟩ := h
    have ml := isTxt_len hz
    refine ⟨_, (pss_cons (ps_expr (pe_own C_check_kind hr (by decide) (by rfl) (pa_cons (pv 0) pa_nil)))
      (pss_cons (ps_expr (pe_own C_check_mark hr (by decide) (by rfl) (pa_cons (pv 1) pa_nil)))
      (pss_cons (ps_expr (pe_own C_check_texts hr (by decide) (by rfl) (pa_cons (pv 2) (pa_cons (pe_cst B.MOST_TEXTS (by rfl)) pa_nil))))
      (pss_one (ps_ret (pe_callTy call_tuple_of (by rfl) B.tuple (by decide +kernel) (pa_cons (pe_lc (own := [("width", 3)]) (by rfl) sc_widths.nd (pi_list (pe_own C_widths_of hr (by decide) (by rfl) (pa_cons (pv 1) pa_nil))) (blkOk_by (own := [("width", 3)]) (N := ["kind", "mark", "texts", "width"]) (sc := defScope s_widths) (by decide +kernel)) (fun _ _ _ _ _ => pg_name (i := 3) sc_widths.nd rfl (.inl rfl)) (fun _ _ _ _ _ => (pts_one (pt_val (pe_own C_separates hr (by decide) (by rfl) (pa_cons (pe_tup (pa_cons (pe_own C_member_of hr (by decide) (by rfl) (pa_cons (pv 0) (pa_cons (pv 1) (pa_cons (pv 3) pa_nil)))) pa_nil)) (pa_cons (pv 2) pa_nil)))))) (fun _ _ _ _ _ => (pv 3))) pa_nil))))))), ?_⟩
    refine ⟨_, rfl, kd, rfl, _, rfl, z, rfl, hz, fun G1 s1 => ⟨_, rfl, T, zs, _, rfl, sameT s1 hT, by omega, zt, fun G2 s2 => ?_⟩⟩
    have s12 := s1.trans s2
    refine ⟨_, rfl, z, rfl, hz, fun W nW => ?_⟩
    have sW : Same G2 (upd G2 W (.lst (rgV (z.length : Int) 41))) := same_new nW
    have eW : upd G2 W (.lst (rgV (z.length : Int) 41)) W = some (.lst (rgV (z.length : Int) 41)) := upd_same
    generalize upd G2 W (.lst (rgV (z.length : Int) 41)) = G3 at sW eW
    have s3 := s12.trans sW
    refine ⟨W, rfl, ⟨_, .inl (.inl eW)⟩, fun M nM => lc_list (K := K) (a := W) (xs := rgV (z.length : Int) 41) (fun i J => J M = some (.lst ((widL kd z zs i).map V.int)) ∧ Same G3 J)
      ⟨upd_same, same_new nM⟩ (fun i J _ ⟨_, sJ⟩ => .inl (.inl (sJ _ _ eW))) ?_ ?_⟩
    · rintro i x J hi ⟨eM, sJ⟩
      obtain ⟨rfl, i41⟩ := rgV_at hi
      have wl := widL_len kd z zs i
      refine ⟨rfl, _, rfl, _, rfl, _, rfl, kd, z, _, rfl, hz, by omega, by omega, fun x G nx gx sG => ?_⟩
      refine ⟨by show 1 ≤ sizeLine; decide, fun t nt => ?_⟩
      have s4 : Same J (upd G t (.tup [.ref x])) := sG.trans (same_new nt)
      refine ⟨_, rfl, t, T, [(x, fam kd z ((z.length : Int) + (i : Nat)))], zs, rfl, ⟨upd_same, fun q hq => ?_⟩, sameT (s3.trans (sJ.trans s4)) hT, fun y hy => Nat.le_trans (txt_len (zt y hy)) (by decide), by omega, fun G5 s5 => ⟨_, rfl, ?_⟩⟩
      · rw [List.mem_singleton.mp hq]
        exact ⟨gx.same (same_new nt), fam_fit kd hz (by omega) (by omega)⟩
      · show if sepB [fam kd z ((z.length : Int) + (i : Nat))] zs = true then _ else _
        have sJ5 := s4.trans s5
        refine ite2 (fun e => ?_) (fun e => ?_)
        · refine ⟨_, rfl, _, sJ5 _ _ eM, small1000 (by rw [List.length_map]; omega), ?_, offH (sJ.trans sJ5) nM⟩
          rw [upd_same, widL_succ, if_pos e, List.map_append]
          rfl
        · refine ⟨?_, sJ.trans sJ5⟩
          rw [widL_succ, if_neg e, List.append_nil]
          exact sJ5 _ _ eM
    · rintro J ⟨eM, sJ⟩
      rw [rgV_length] at eM
      exact ⟨M, _, rfl, .inl ⟨.inl (.inl eM), fun U nU => k U _ (s3.trans (sJ.trans (same_new nU))) upd_same⟩⟩
def firstW : List Int → V
  | [] => .non
  | i :: _ => .int i
def spNarrow (K : PySem.W.Frag) : Sp := fun vs H Q _ => ∃ (kd : Kd) (z : Str) (T : Addr) (zs : List Str), vs = [.str kd.word, .str z, .ref T] ∧ isTxt z 3 = true ∧ SqT K H T (zs.map V.str) ∧ (∀ z ∈ zs, isTxt z 200 = true) ∧ zs.length ≤ 20 ∧ ∀ (G : Hp), Same H G → Q (firstW (widAll kd z zs)) G
end
end Gu
namespace Gu
open PySem PySem.Spec PyProof.Rows L2
/-! ### the law's lists of texts, and its families -/
theorem txt_mk {z : Str} (h : Signs z.cps.toList) (l : z.cps.toList.length ≤ 200) : isTxt z 200 = true := by
  have e : z.length = z.cps.toList.length := rfl
  unfold isTxt
  rw [decide_eq_true (by omega), Bool.true_and, List.all_eq_true]
  exact fun c hc => decide_eq_true (h c hc)
theorem cutS_sub {z : Str} {lo hi : Option Int} : ∀ c ∈ (cutS z lo hi).cps.toList, c ∈ z.cps.toList := by
  intro c h
  have h : c ∈ ((z.cps.toList.drop _).take _).toArray.toList := h
  rw [List.toList_toArray] at h
  exact List.mem_of_mem_drop (List.mem_of_mem_take h)
theorem app_len (a b : Str) : (a ++ b).length = a.length + b.length := by
  show (a ++ b).cps.toList.length = _
  rw [app_cps, List.length_append]
  rfl
section
variable {P : Program} {w : World} {K : PySem.W.Frag} {mg : Str → Option Value} {base : Heap}
def spSomeLines : Sp := fun vs H Q _ => ∃ (p : Addr) (m : Int), vs = [.ref p, .int m] ∧ Pot H p ∧ 0 ≤ m ∧ m ≤ 20 ∧ ∀ (T : Addr) (G : Hp) (zs : List Str), H T = none → G T = some (.tup (zs.map V.str)) → (zs.length : Int) ≤ m → (∀ z ∈ zs, isTxt z 200 = true) → Ladled p H G → Q (.ref T) G
theorem cal_someLines (B : Bi mg) (D : At K mg "_law_some_lines" s_law_some_lines ps_law_some_lines) (C_law_ladle : Cal P w K mg base 1 "_law_ladle" ps_law_ladle spLadle) (C_law_one_of : Cal P w K mg base 2 "_law_one_of" ps_law_one_of (spOneOf K)) (C_law_line : Cal P w K mg base 3 "_law_line" ps_law_line spLine) : Cal P w K mg base 4 "_law_some_lines" ps_law_some_lines spSomeLines := by
  refine D.cal sc_law_some_lines (fun vs H Q E h => ?_) (fun f cdv A outer s H vs Q E hr h => ?_)
  · obtain ⟨p, m, rfl, _⟩ := h
    rfl
  · obtain ⟨p, m, rfl, hp, m0, m1, k⟩ := h
    refine ⟨_, (pss_cons (ps_par (i := 2) (j := 3) (by rfl) sc_law_some_lines.nd rfl rfl (by decide) rfl rfl (pa_cons (pe_own C_law_line hr (by decide) (by rfl) (pa_cons (pv 0) (pa_cons (pe_own C_law_ladle hr (by decide) (by rfl) (pa_cons (pv 0) (pa_cons (pe_own C_law_one_of hr (by decide) (by rfl) (pa_cons (pv 0) (pa_cons (pe_lst (pa_cons pe_int (pa_cons pe_int (pa_cons pe_int pa_nil)))) pa_nil))) pa_nil))) pa_nil))) (pa_cons (pe_lst pa_nil) pa_nil)) (by rfl))
      (pss_cons (ps_for PassesOwn.never rfl (pi_range1 (by rfl) B.range (pa_cons (pe_own C_law_ladle hr (by decide) (by rfl) (pa_cons (pv 0) (pa_cons (pe_op op_add (pv 1) pe_int) pa_nil))) pa_nil)) (pg_name (i := 4) sc_law_some_lines.nd rfl (.inl rfl))
      (pss_cons (ps_par (i := 5) (j := 6) (by rfl) sc_law_some_lines.nd rfl rfl (by decide) rfl rfl (pa_cons (pe_own C_law_ladle hr (by decide) (by rfl) (pa_cons (pv 0) (pa_cons pe_int pa_nil))) (pa_cons (pe_own C_law_ladle hr (by decide) (by rfl) (pa_cons (pv 0) (pa_cons (pe_op op_add (pe_callB call_len (by rfl) B.len (by decide +kernel) (pa_cons (pv 2) pa_nil)) pe_int) pa_nil))) pa_nil)) (by rfl))
      (pss_cons (ps_set (i := 7) sc_law_some_lines.nd rfl (.inl rfl) (pe_op op_add_str (pe_op op_add_str (pe_slice sl_str (pv 2) po_none (po_some (pv 6))) (pe_own C_law_line hr (by decide) (by rfl) (pa_cons (pv 0) (pa_cons (pe_own C_law_ladle hr (by decide) (by rfl) (pa_cons (pv 0) (pa_cons pe_int pa_nil))) pa_nil)))) (pe_slice sl_str (pv 2) (po_some (pe_op op_add (pv 6) (pe_own C_law_ladle hr (by decide) (by rfl) (pa_cons (pv 0) (pa_cons pe_int pa_nil))))) po_none)))
      (pss_one (ps_expr (pe_bm PySem.F.plainAttrs_list PySem.F.slot_list_append PySem.F.type_list_append mt_append (pv 3) (pa_cons (pe_own C_law_one_of hr (by decide) (by rfl) (pa_cons (pv 0) (pa_cons (pe_lst (pa_cons (pv 2) (pa_cons (pv 7) (pa_cons (pv 7) (pa_cons (pv 7) (pa_cons (pe_own C_law_line hr (by decide) (by rfl) (pa_cons (pv 0) (pa_cons pe_int pa_nil))) pa_nil)))))) pa_nil))) pa_nil)))))))
      (pss_one (ps_ret (pe_callTy call_tuple_of (by rfl) B.tuple (by decide +kernel) (pa_cons (pv 3) pa_nil)))))), ?_⟩
    refine ⟨_, rfl, _, rfl, _, rfl, by show 3 ≤ sizeLine; decide, fun q0 n0 => ?_⟩
    have L0 : Ladled p H (upd H q0 (.lst [.int 6, .int 20, .int 45])) := .ofSame hp (same_new n0)
    refine ⟨p, L0.pot, .inl ⟨q0, _, rfl, .inl (.inl upd_same), hp.ne n0, by decide, by decide, fun v G1 hv L1 => ?_⟩⟩
    obtain ⟨n, e0, e1, rfl⟩ : ∃ n : Int, 1 ≤ n ∧ n ≤ 45 ∧ v = .int n := by
      simp only [List.mem_cons, List.not_mem_nil, or_false] at hv
      rcases hv with rfl | rfl | rfl <;> exact ⟨_, by decide, by decide, rfl⟩
    have M1 := L0.trans L1
    refine ⟨p, n, rfl, M1.pot, by omega, by omega, fun d G2 d0 d1 L2 => ?_⟩
    have M2 := M1.trans L2
    refine ⟨p, d, rfl, M2.pot, d0, by omega, fun stem G3 L3 ly ty => ?_⟩
    have M3 := M2.trans L3
    have sg := isTxt_signs ty
    have sl : stem.length = stem.cps.toList.length := rfl
    have sz : stem.length ≤ sizeLine := Nat.le_of_lt (small1000 (by omega))
    refine ⟨Nat.zero_le _, fun F nF => ⟨_, _, rfl, ?_⟩⟩
    have hF : H F = none := M3.free nF
    have nFp : F ≠ p := M3.pot.ne nF
    have M4 : Ladled p H (upd G3 F (.lst [])) := M3.new nF
    have eF : upd G3 F (.lst []) F = some (.lst []) := upd_same
    generalize upd G3 F (.lst []) = G4 at M4 eF
    refine ⟨_, rfl, _, rfl, _, _, rfl, rfl, p, m + 1, rfl, M4.pot, by omega, by omega, fun t G5 t0 t1 L5 => ?_⟩
    have M5 := M4.trans L5
    have eF5 := L5.keep _ _ eF nFp
    refine ⟨t, rfl, by omega, by omega, for_range (lo := 0) (n := t.toNat) (fun i σ J => ∃ (zs : List Str) (a b c d : Option V), σ = [some (.ref p), some (.int m), some (.str stem), some (.ref F), a, b, c, d] ∧ zs.length = i ∧ J F = some (.lst (zs.map V.str)) ∧ (∀ z ∈ zs, isTxt z 200 = true) ∧ Ladled p H J)
      ⟨[], none, none, none, none, rfl, rfl, eF5, (fun z hz => by cases hz), M5⟩ ?_ ?_⟩
    · rintro i σ J hi ⟨zs, a, b, c, d, rfl, rfl, eJ, tz, M⟩
      refine ⟨_, rfl, p, 5, rfl, M.pot, by decide, by decide, fun d1 H1 d10 d11 N1 => ?_⟩
      have M6 := M.trans N1
      refine ⟨_, rfl, _, rfl, _, _, rfl, ⟨sz, rfl⟩, _, _, rfl, rfl, p, _, rfl, M6.pot, by omega, by omega, fun d2 H2 d20 d21 N2 => ⟨_, _, rfl, ?_⟩⟩
      have M7 := M6.trans N2
      refine ⟨_, rfl, _, rfl, _, rfl, stem, rfl, sz, _, rfl, _, rfl, p, 3, rfl, M7.pot, by decide, by decide, fun d3 H3 d30 d31 N3 => ?_⟩
      have M8 := M7.trans N3
      refine ⟨p, d3, rfl, M8.pot, d30, by omega, fun y H4 N4 yl yt => ?_⟩
      have M9 := M8.trans N4
      have yl2 : y.length = y.cps.toList.length := rfl
      have c1 := cutS_length stem none (some d2)
      refine ⟨_, _, rfl, rfl, Nat.le_of_lt (small1000 (by omega)), ?_⟩
      refine ⟨_, rfl, _, rfl, _, rfl, p, 2, rfl, M9.pot, by decide, by decide, fun d4 H5 d40 d41 N5 => ?_⟩
      have M10 := M9.trans N5
      have c2 := cutS_length stem (some (d2 + d4)) none
      have al := app_len (cutS stem none (some d2)) y
      refine ⟨_, _, rfl, rfl, _, rfl, stem, rfl, sz, _, _, rfl, rfl, Nat.le_of_lt (small1000 (by omega)), ?_⟩
      have lt : isTxt (cutS stem none (some d2) ++ y ++ cutS stem (some (d2 + d4)) none) 200 = true := by
        have al2 := app_len (cutS stem none (some d2) ++ y) (cutS stem (some (d2 + d4)) none)
        refine txt_mk (fun c hc => ?_) (show (cutS stem none (some d2) ++ y ++ cutS stem (some (d2 + d4)) none).length ≤ 200 by omega)
        rw [app_cps, app_cps, List.mem_append, List.mem_append] at hc
        rcases hc with (hc | hc) | hc
        · exact sg c (cutS_sub c hc)
        · exact isTxt_signs yt c hc
        · exact sg c (cutS_sub c hc)
      generalize cutS stem none (some d2) ++ y ++ cutS stem (some (d2 + d4)) none = line at lt
      have eJ5 := N5.keep _ _ (N4.keep _ _ (N3.keep _ _ (N2.keep _ _ (N1.keep _ _ eJ nFp) nFp) nFp) nFp) nFp
      refine ⟨_, rfl, .inl ⟨rfl, _, .inl (.inl eJ5)⟩, _, rfl, _, rfl, _, rfl, _, rfl, _, rfl, _, rfl, p, 4, rfl, M10.pot, by decide, by decide, fun y2 H6 N6 y2l y2t => ?_⟩
      have M11 := M10.trans N6
      refine ⟨by show 5 ≤ sizeLine; decide, fun q nq => ?_⟩
      have M12 : Ladled p H (upd H6 q (.lst [.str stem, .str line, .str line, .str line, .str y2])) := M11.new nq
      refine ⟨p, M12.pot, .inl ⟨q, _, rfl, .inl (.inl upd_same), M11.pot.ne nq, by show 0 < 5; decide, by show 5 < 1000; decide, fun v H7 hv N7 => ?_⟩⟩
      obtain ⟨z, rfl, tz2⟩ : ∃ z : Str, v = .str z ∧ isTxt z 200 = true := by
        simp only [List.mem_cons, List.not_mem_nil, or_false] at hv
        rcases hv with rfl | rfl | rfl | rfl | rfl
        · exact ⟨_, rfl, ty⟩
        · exact ⟨_, rfl, lt⟩
        · exact ⟨_, rfl, lt⟩
        · exact ⟨_, rfl, lt⟩
        · exact ⟨_, rfl, y2t⟩
      have eJ7 : H7 F = some (.lst (zs.map V.str)) := N7.keep _ _ (same_new nq _ _ (N6.keep _ _ eJ5 nFp)) nFp
      refine ⟨F, _, _, rfl, rfl, eJ7, small1000 (by rw [List.length_map]; omega), zs ++ [z], _, _, _, _, rfl, by rw [List.length_append]; rfl, ?_, fun x hx => ?_, (M12.trans N7).mut hF nFp⟩
      · rw [upd_same, List.map_append]
        rfl
      · rcases List.mem_append.mp hx with hx | hx
        · exact tz x hx
        · rw [List.mem_singleton.mp hx]
          exact tz2
    · rintro σ J ⟨zs, a, b, c, d, rfl, el, eJ, tz, M⟩
      refine ⟨_, rfl, F, _, rfl, .inl ⟨.inl (.inl eJ), fun T nT => k T _ zs (M.free nT) upd_same (by omega) tz (M.new nT)⟩⟩
def spFamily : Sp := fun vs H Q _ => ∃ (kd : Kd) (z : Str) (w : Int), vs = [.str kd.word, .str z, .int w] ∧ z.length ≤ 1000 ∧ ∀ (T : Addr), H T = none → Q (.ref T) (upd H T (.tup (fam kd z w).vs))
theorem cal_family (B : Bi mg) (D : At K mg "_law_family" s_law_family ps_law_family) : Cal P w K mg base 1 "_law_family" ps_law_family spFamily := by
  refine D.cal sc_law_family (fun vs H Q E h => ?_) (fun f cdv A outer s H vs Q E hr h => ?_)
  · obtain ⟨kd, z, w, rfl, _⟩ := h
    rfl
  · obtain ⟨kd, z, w, rfl, zl, k⟩ := h
    have e1 : V.str "end" ≠ V.str "middle" := by decide +kernel
    have e2 : V.str "start" ≠ V.str "middle" := by decide +kernel
    have e3 : V.str "start" ≠ V.str "end" := by decide +kernel
    refine ⟨_, (pss_cons (ps_set (i := 3) sc_law_family.nd rfl (.inl rfl) (pe_op op_sub (pv 2) (pe_callB call_len (by rfl) B.len (by decide +kernel) (pa_cons (pv 1) pa_nil))))
      (pss_cons (ps_if (pt_cmpR op_eq (pv 0) pe_str (nomark _)) (pss_one (ps_ret (pe_tup (pa_cons (pv 2) (pa_cons (pe_op op_sub (pv 3) (pe_op op_fdiv (pv 3) pe_int)) (pa_cons (pe_op op_fdiv (pv 3) pe_int) (pa_cons (pv 1) pa_nil))))))) pss_nil)
      (pss_one (ps_ret (pe_mid (pe_ifExp (pt_cmpR op_eq (pv 0) pe_str (nomark _)) (pe_tup (pa_cons (pv 2) (pa_cons (pv 3) (pa_cons pe_int (pa_cons (pv 1) pa_nil))))) (pe_tup (pa_cons (pv 2) (pa_cons pe_int (pa_cons (pv 3) (pa_cons (pv 1) pa_nil))))))))))), ?_⟩
    refine ⟨_, rfl, _, rfl, _, _, rfl, ⟨Nat.le_of_lt (small1000 zl), rfl⟩, _, _, rfl, rfl, ?_⟩
    cases kd with
    | e =>
      refine ⟨_, rfl, rfl, _, rfl, ?_⟩
      rw [decide_eq_false (show V.str Kd.e.word ≠ V.str "middle" from e1)]
      refine iteF ⟨_, ⟨_, rfl, rfl, _, rfl, ?_⟩, fun v J h => h⟩
      rw [decide_eq_true (show V.str Kd.e.word = V.str "end" from rfl)]
      exact iteT ⟨_, rfl, _, rfl, _, rfl, by show 4 ≤ sizeLine; decide, fun T nT => k T nT⟩
    | s =>
      refine ⟨_, rfl, rfl, _, rfl, ?_⟩
      rw [decide_eq_false (show V.str Kd.s.word ≠ V.str "middle" from e2)]
      refine iteF ⟨_, ⟨_, rfl, rfl, _, rfl, ?_⟩, fun v J h => h⟩
      rw [decide_eq_false (show V.str Kd.s.word ≠ V.str "end" from e3)]
      exact iteF ⟨_, rfl, _, rfl, _, rfl, by show 4 ≤ sizeLine; decide, fun T nT => k T nT⟩
    | m =>
      refine ⟨_, rfl, rfl, _, rfl, ?_⟩
      rw [decide_eq_true (show V.str Kd.m.word = V.str "middle" from rfl)]
      exact iteT ⟨_, rfl, _, rfl, _, rfl, _, _, rfl, rfl, ⟨by decide, by decide⟩, _, _, rfl, rfl, _, rfl, _, _, rfl, rfl, ⟨by decide, by decide⟩, _, rfl, by show 4 ≤ sizeLine; decide, fun T nT => k T nT⟩
end
end Gu
namespace Gu
open PySem PySem.Spec PyProof.Rows L2
/-! ### when different texts are shown in different ways -/
theorem len_sub {α : Type} [DecidableEq α] : ∀ (xs : List α) {ys : List α}, xs.Nodup → (∀ x ∈ xs, x ∈ ys) → xs.length ≤ ys.length
  | [], ys, _, _ => Nat.zero_le _
  | x :: xs, ys, nd, sub => by
    have nd := List.nodup_cons.mp nd
    have hx := sub x (List.mem_cons_self ..)
    have := len_sub xs (ys := ys.erase x) nd.2 fun y hy => by
      have ne : y ≠ x := fun e => nd.1 (e ▸ hy)
      exact (List.mem_erase_of_ne ne).mpr (sub y (List.mem_cons_of_mem _ hy))
    rw [List.length_erase_of_mem hx] at this
    have : 0 < ys.length := List.length_pos_of_mem hx
    simp only [List.length_cons]
    omega
theorem dds_mapOn {α β : Type} [DecidableEq α] [DecidableEq β] {f : α → β} (xs : List α) (inj : ∀ a ∈ xs, ∀ b ∈ xs, f a = f b → a = b) : dds (xs.map f) = (dds xs).map f := by
  have main : ∀ (ys acc : List α), (∀ a, a ∈ ys ∨ a ∈ acc → a ∈ xs) → (ys.map f).foldl (fun acc k => if k ∈ acc then acc else acc ++ [k]) (acc.map f) = (ys.foldl (fun acc k => if k ∈ acc then acc else acc ++ [k]) acc).map f := by
    intro ys
    induction ys with
    | nil => exact fun _ _ => rfl
    | cons x ys ih =>
      intro acc sub
      show (ys.map f).foldl _ (if f x ∈ acc.map f then acc.map f else acc.map f ++ [f x]) = (ys.foldl _ (if x ∈ acc then acc else acc ++ [x])).map f
      by_cases e : x ∈ acc
      · rw [if_pos e, if_pos (List.mem_map.mpr ⟨x, e, rfl⟩)]
        exact ih acc fun a ha => sub a (ha.imp (fun h => List.mem_cons_of_mem _ h) id)
      · rw [if_neg e, if_neg (fun h => by
          obtain ⟨y, h1, h2⟩ := List.mem_map.mp h
          exact e (inj _ (sub y (.inr h1)) _ (sub x (.inl (List.mem_cons_self ..))) h2 ▸ h1))]
        have := ih (acc ++ [x]) fun a ha => by
          rcases ha with ha | ha
          · exact sub a (.inl (List.mem_cons_of_mem _ ha))
          · rcases List.mem_append.mp ha with ha | ha
            · exact sub a (.inr ha)
            · rw [List.mem_singleton.mp ha]
              exact sub x (.inl (List.mem_cons_self ..))
        rw [List.map_append] at this
        exact this
  exact main xs [] fun a ha => ha.elim id fun h => by cases h
theorem dds_inj {α β : Type} [DecidableEq α] [DecidableEq β] {f : α → β} (xs : List α) (h : (dds (xs.map f)).length = (dds xs).length) : ∀ a ∈ xs, ∀ b ∈ xs, f a = f b → a = b := fun a ha b hb e => by
  refine Decidable.byContradiction fun ne => ?_
  have hb2 : b ∈ dds xs := (mem_dds xs).mpr hb
  have le := len_sub (dds (xs.map f)) (ys := ((dds xs).erase b).map f) (dds_nodup _) fun y hy => by
    obtain ⟨x, hx, rfl⟩ := List.mem_map.mp ((mem_dds _).mp hy)
    by_cases q : x = b
    · exact List.mem_map.mpr ⟨a, (List.mem_erase_of_ne ne).mpr ((mem_dds xs).mpr ha), by rw [q, e]⟩
    · exact List.mem_map.mpr ⟨x, (List.mem_erase_of_ne q).mpr ((mem_dds xs).mpr hx), rfl⟩
  rw [List.length_map, List.length_erase_of_mem hb2] at le
  have := List.length_pos_of_mem hb2
  omega
theorem sepB_iff {rs : List Rec} {zs : List Str} : sepB rs zs = true ↔ ∀ a ∈ zs, ∀ b ∈ zs, shown rs a = shown rs b → a = b := by
  unfold sepB
  rw [decide_eq_true_iff]
  refine ⟨dds_inj zs, fun h => ?_⟩
  rw [dds_mapOn zs h, List.length_map]
end Gu
namespace Gu
open PySem PySem.Spec PyProof.Rows L2
/-! ### places of equal texts -/
def idxs (ss : List Str) (s : Str) : List Nat := (List.range ss.length).filter fun j => decide (ss[j]? = some s)
theorem idxs_snoc (ss : List Str) (y s : Str) : idxs (ss ++ [y]) s = idxs ss s ++ if s = y then [ss.length] else [] := by
  unfold idxs
  rw [List.length_append, show [y].length = 1 from rfl, List.range_succ, List.filter_append]
  congr 1
  · refine List.filter_congr fun j hj => ?_
    rw [List.getElem?_append_left (List.mem_range.mp hj)]
  · rw [List.filter_cons, List.filter_nil, List.getElem?_append_right (Nat.le_refl _), Nat.sub_self]
    by_cases e : s = y
    · rw [if_pos e, if_pos (decide_eq_true (by rw [e]; rfl))]
    · rw [if_neg e, if_neg (show ¬ decide ([y][0]? = some s) = true from fun h => e (Option.some.inj (show some y = some s from of_decide_eq_true h)).symm)]
theorem idxs_mem {ss : List Str} {s : Str} {j : Nat} : j ∈ idxs ss s ↔ ss[j]? = some s := by
  unfold idxs
  rw [List.mem_filter, List.mem_range, decide_eq_true_iff]
  exact ⟨fun h => h.2, fun h => ⟨(List.getElem?_eq_some_iff.mp h).1, h⟩⟩
theorem idxs_none {ss : List Str} {s : Str} (h : s ∉ ss) : idxs ss s = [] := by
  refine List.eq_nil_iff_forall_not_mem.mpr fun j hj => h ?_
  exact List.mem_of_getElem? (idxs_mem.mp hj)
theorem idxs_len (ss : List Str) (s : Str) : (idxs ss s).length ≤ ss.length := by
  unfold idxs
  refine Nat.le_trans (List.length_filter_le _ _) ?_
  rw [List.length_range]
  exact Nat.le_refl _
def glL (ss : List Str) : List (Str × List Nat) := (dds ss).map fun s => (s, idxs ss s)
theorem glL_old {ss : List Str} {y : Str} (h : y ∈ ss) : glL (ss ++ [y]) = (glL ss).map fun g => if g.1 = y then (g.1, g.2 ++ [ss.length]) else g := by
  unfold glL
  rw [dds_snoc, if_pos ((mem_dds ss).mpr h), List.map_map]
  refine List.map_congr_left fun s _ => ?_
  rw [idxs_snoc]
  show (s, idxs ss s ++ _) = if s = y then (s, idxs ss s ++ [ss.length]) else (s, idxs ss s)
  by_cases e : s = y
  · rw [if_pos e, if_pos e]
  · rw [if_neg e, if_neg e, List.append_nil]
theorem glL_new {ss : List Str} {y : Str} (h : y ∉ ss) : glL (ss ++ [y]) = glL ss ++ [(y, [ss.length])] := by
  unfold glL
  rw [dds_snoc, if_neg (fun q => h ((mem_dds ss).mp q)), List.map_append]
  congr 1
  · refine List.map_congr_left fun s hs => ?_
    rw [idxs_snoc, if_neg (fun e => h (by rw [← e]; exact (mem_dds ss).mp hs)), List.append_nil]
  · show [(y, idxs (ss ++ [y]) y)] = _
    rw [idxs_snoc, if_pos rfl, idxs_none h]
    rfl
def rLenG (K : PySem.W.Frag) : List V → Hp → VK → Prop := fun xs H Q => ∃ (x : V) (n : Nat), xs = [x] ∧ LenV K x H n ∧ Q (.int n) H
def rTupG (K : PySem.W.Frag) : List V → Hp → VK → Prop := fun xs H Q => ∃ p ys, xs = [.ref p] ∧ ((SqL K H p ys ∧ ∀ l, H l = none → Q (.ref l) (upd H l (.tup ys))) ∨ (SqT K H p ys ∧ Q (.ref p) H))
def natI (n : Nat) : V := .int (n : Int)
/-- a group: its form, the place of its list, its places -/
structure Gr where
  key : Str
  ad : Addr
  pl : List Nat
def gkv (gs : List Gr) : List (Key × V) := gs.map fun g => (Sum.inr g.key, V.ref g.ad)
theorem gkv_some : ∀ {gs : List Gr} {y : Str} {v : V}, valV (gkv gs) (Sum.inr y) = some v → ∃ g ∈ gs, g.key = y ∧ v = .ref g.ad
  | [], _, _, h => by cases h
  | g :: gs, y, v, h => by
    by_cases e : g.key = y
    · have := valV_pos (p := (Sum.inr g.key, V.ref g.ad)) (r := gkv gs) (k := (Sum.inr y : Key)) (by rw [e])
      rw [show gkv (g :: gs) = (Sum.inr g.key, V.ref g.ad) :: gkv gs from rfl, this] at h
      exact ⟨g, List.mem_cons_self .., e, (Option.some.inj h).symm⟩
    · rw [show gkv (g :: gs) = (Sum.inr g.key, V.ref g.ad) :: gkv gs from rfl, valV_neg (fun q => e (Sum.inr.inj q))] at h
      obtain ⟨g2, h1, h2⟩ := gkv_some h
      exact ⟨g2, List.mem_cons_of_mem _ h1, h2⟩
theorem gkv_none : ∀ {gs : List Gr} {y : Str}, valV (gkv gs) (Sum.inr y) = none → ∀ g ∈ gs, g.key ≠ y
  | [], _, _, g, hg => by cases hg
  | g :: gs, y, h, g2, hg => by
    have ne : g.key ≠ y := fun e => by
      have := valV_pos (p := (Sum.inr g.key, V.ref g.ad)) (r := gkv gs) (k := (Sum.inr y : Key)) (by rw [e])
      rw [show gkv (g :: gs) = (Sum.inr g.key, V.ref g.ad) :: gkv gs from rfl, this] at h
      cases h
    rcases List.mem_cons.mp hg with rfl | hg
    · exact ne
    · rw [show gkv (g :: gs) = (Sum.inr g.key, V.ref g.ad) :: gkv gs from rfl, valV_neg (fun q => ne (Sum.inr.inj q))] at h
      exact gkv_none h g2 hg
/-- the groups as they stand -/
structure GrAt (J : Hp) (gs : List Gr) : Prop where
  at_ : ∀ g ∈ gs, J g.ad = some (.lst (g.pl.map natI))
  ai : ∀ g ∈ gs, ∀ h ∈ gs, g.ad = h.ad → g.key = h.key
  ki : ∀ g ∈ gs, ∀ h ∈ gs, g.key = h.key → g = h
theorem GrAt.same {H G : Hp} {gs : List Gr} (s : Same H G) (h : GrAt H gs) : GrAt G gs := ⟨fun g hg => s _ _ (h.at_ g hg), h.ai, h.ki⟩
def addAt (y : Str) (n : Nat) (g : Gr) : Gr := if g.key = y then ⟨g.key, g.ad, g.pl ++ [n]⟩ else g
theorem addAt_key (y : Str) (n : Nat) (g : Gr) : (addAt y n g).key = g.key := by
  unfold addAt
  split <;> rfl
theorem addAt_ad (y : Str) (n : Nat) (g : Gr) : (addAt y n g).ad = g.ad := by
  unfold addAt
  split <;> rfl
theorem gkv_add (y : Str) (n : Nat) (gs : List Gr) : gkv (gs.map (addAt y n)) = gkv gs := by
  unfold gkv
  rw [List.map_map]
  refine List.map_congr_left fun g _ => ?_
  show (Sum.inr (addAt y n g).key, V.ref (addAt y n g).ad) = _
  rw [addAt_key, addAt_ad]
theorem GrAt.add {J : Hp} {gs : List Gr} {g : Gr} {n : Nat} (h : GrAt J gs) (hg : g ∈ gs) : GrAt (upd J g.ad (.lst (g.pl.map natI ++ [natI n]))) (gs.map (addAt g.key n)) := by
  refine ⟨fun x hx => ?_, fun x hx y hy e => ?_, fun x hx y hy e => ?_⟩
  · obtain ⟨x, mx, rfl⟩ := List.mem_map.mp hx
    rw [addAt_ad]
    by_cases e : x.ad = g.ad
    · have ek := h.ai x mx g hg e
      have ex := h.ki x mx g hg ek
      subst ex
      rw [upd_same]
      unfold addAt
      rw [if_pos rfl, List.map_append]
      rfl
    · rw [upd_ne e, h.at_ x mx]
      unfold addAt
      rw [if_neg fun q => e (by rw [h.ki x mx g hg q])]
  · obtain ⟨x, mx, rfl⟩ := List.mem_map.mp hx
    obtain ⟨y, my, rfl⟩ := List.mem_map.mp hy
    rw [addAt_ad, addAt_ad] at e
    rw [addAt_key, addAt_key]
    exact h.ai x mx y my e
  · obtain ⟨x, mx, rfl⟩ := List.mem_map.mp hx
    obtain ⟨y, my, rfl⟩ := List.mem_map.mp hy
    rw [addAt_key, addAt_key] at e
    rw [h.ki x mx y my e]
theorem GrAt.new {J : Hp} {gs : List Gr} {y : Str} {L : Addr} {n : Nat} (h : GrAt J gs) (nL : ∀ g ∈ gs, g.ad ≠ L) (no : ∀ g ∈ gs, g.key ≠ y) : GrAt (upd J L (.lst [natI n])) (gs ++ [⟨y, L, [n]⟩]) := by
  refine ⟨fun x hx => ?_, fun a ha b hb e => ?_, fun a ha b hb e => ?_⟩
  · rcases List.mem_append.mp hx with hx | hx
    · rw [upd_ne (nL x hx)]
      exact h.at_ x hx
    · rw [List.mem_singleton.mp hx]
      exact upd_same
  · rcases List.mem_append.mp ha with ha | ha
    · rcases List.mem_append.mp hb with hb | hb
      · exact h.ai a ha b hb e
      · rw [List.mem_singleton.mp hb] at e
        exact absurd e (nL a ha)
    · rcases List.mem_append.mp hb with hb | hb
      · rw [List.mem_singleton.mp ha] at e
        exact absurd e.symm (nL b hb)
      · rw [List.mem_singleton.mp ha, List.mem_singleton.mp hb]
  · rcases List.mem_append.mp ha with ha | ha
    · rcases List.mem_append.mp hb with hb | hb
      · exact h.ki a ha b hb e
      · rw [List.mem_singleton.mp hb] at e
        exact absurd e (no a ha)
    · rcases List.mem_append.mp hb with hb | hb
      · rw [List.mem_singleton.mp ha] at e
        exact absurd e.symm (no b hb)
      · rw [List.mem_singleton.mp ha, List.mem_singleton.mp hb]
def grpL (ss : List Str) : List (List Nat) := ((glL ss).map (·.2)).filter fun l => decide (1 < l.length)
/-- tuples of numbers in the heap -/
def Tns (G : Hp) (ts : List (Addr × List Nat)) : Prop := ∀ t ∈ ts, G t.1 = some (.tup (t.2.map natI))
theorem Tns.same {H G : Hp} {ts : List (Addr × List Nat)} (s : Same H G) (h : Tns H ts) : Tns G ts := fun q hq => s _ _ (h q hq)
theorem Tns.list {H : Hp} {M : Addr} {acc ys : List V} {ts : List (Addr × List Nat)} (h : Tns H ts) (e : H M = some (.lst acc)) : Tns (upd H M (.lst ys)) ts := fun q hq => by
  rw [upd_ne (ne_of (h q hq) e (by intro z; cases z))]
  exact h q hq
theorem Tns.snoc {H : Hp} {ts : List (Addr × List Nat)} {a : Addr} {l : List Nat} (h : Tns H ts) (e : H a = some (.tup (l.map natI))) : Tns H (ts ++ [(a, l)]) := fun q hq => by
  rcases List.mem_append.mp hq with hq | hq
  · exact h q hq
  · rw [List.mem_singleton.mp hq]
    exact e
section
variable {P : Program} {w : World} {K : PySem.W.Frag} {mg : Str → Option Value} {base : Heap} {C : Addr}
def spGroups (K : PySem.W.Frag) (C : Addr) : Sp := fun vs H Q _ => ∃ (a T : Addr) (rs : List (Addr × Rec)) (zs : List Str), vs = [.ref a, .ref T] ∧ RowAt C H a rs ∧ 1 ≤ rs.length ∧ rs.length ≤ 4 ∧ SqT K H T (zs.map V.str) ∧ (∀ z ∈ zs, isTxt z 200 = true) ∧ zs.length ≤ 20 ∧
  ∀ (U : Addr) (G : Hp) (ts : List (Addr × List Nat)), Same H G → G U = some (.tup (ts.map fun t => V.ref t.1)) → Tns G ts → ts.map (·.2) = grpL (zs.map (shown (rs.map (·.2)))) → Q (.ref U) G
theorem cal_groups (B : Bi mg) (D : At K mg "groups" s_groups ps_groups) (C_check_row : Cal P w K mg base 2 "check_row" ps_check_row (spCheckRow C)) (C_check_texts : Cal P w K mg base 2 "check_texts" ps_check_texts (spTexts K)) (C_shown_by : Cal P w K mg base 2 "shown_by" ps_shown_by (spShownBy C)) : Cal P w K mg base 3 "groups" ps_groups (spGroups K C) := by
  refine D.cal sc_groups (fun vs H Q E h => ?_) (fun f cdv A outer s H vs Q E hr h => ?_)
  · obtain ⟨a, T, rs, zs, rfl, _⟩ := h
    rfl
  · obtain ⟨a, T, rs, zs, rfl, hR, l1, l4, hT, zt, zl, k⟩ := h
    refine ⟨_, (pss_cons (ps_expr (pe_own C_check_row hr (by decide) (by rfl) (pa_cons (pv 0) pa_nil)))
      (pss_cons (ps_expr (pe_own C_check_texts hr (by decide) (by rfl) (pa_cons (pv 1) (pa_cons (pe_cst B.MOST_TEXTS (by rfl)) pa_nil))))
      (pss_cons (ps_set (i := 2) sc_groups.nd rfl (.inl rfl) pe_dnewK)
      (pss_cons (ps_for PassesOwn.never rfl (pi_enT (by rfl) B.enumerate (pa_cons (pv 1) pa_nil)) (pg_tup rfl (pgs_cons (pg_name (i := 3) sc_groups.nd rfl (.inl rfl)) (pgs_cons (pg_name (i := 4) sc_groups.nd rfl (.inl rfl)) pgs_nil)))
      (pss_one (ps_expr (pe_bm PySem.F.plainAttrs_list PySem.F.slot_list_append PySem.F.type_list_append mt_append (pe_dsetd (pv 2) (pe_own C_shown_by hr (by decide) (by rfl) (pa_cons (pv 0) (pa_cons (pv 4) pa_nil))) (pe_lst pa_nil) ⟨rfl, rfl, rfl, rfl⟩) (pa_cons (pv 3) pa_nil)))))
      (pss_one (ps_ret (pe_callTy call_tuple_of (by rfl) B.tuple (by decide +kernel) (pa_cons (pe_lock (pe_lc (own := [("shared", 5)]) (by rfl) sc_groups.nd (pi_values (pv 2)) (blkOk_by (own := [("shared", 5)]) (N := ["row", "texts", "places", "place", "text", "shared"]) (sc := defScope s_groups) (by decide +kernel)) (fun _ _ _ _ _ => pg_name (i := 5) sc_groups.nd rfl (.inl rfl)) (fun _ _ _ _ _ => (pts_one (pt_cmpR op_gt (pe_callB (id := "len") (r := rLenG K) call_len (by rfl) B.len (by decide +kernel) (pa_cons (pv 5) pa_nil)) pe_int (nomark _)))) (fun _ _ _ _ _ => (pe_callTy (r := rTupG K) call_tuple_of (by rfl) B.tuple (by decide +kernel) (pa_cons (pv 5) pa_nil))))) pa_nil)))))))), ?_⟩
    obtain ⟨rr, hrr⟩ : ∃ rr : List Rec, rr = rs.map (·.2) := ⟨_, rfl⟩
    rw [← hrr] at k
    refine ⟨_, rfl, a, rs, rfl, hR, l1, l4, fun G1 s1 => ⟨_, rfl, T, zs, _, rfl, sameT s1 hT, by omega, zt, fun G2 s2 => ?_⟩⟩
    have s12 := s1.trans s2
    intro d nd
    have sd : Same G2 (upd G2 d (.dK [])) := same_new nd
    refine ⟨_, rfl, T, _, rfl, sameT (s12.trans sd) hT, for_it walk_enT (fun i σ J => ∃ (u v : Option V) (gs : List Gr), σ = [some (.ref a), some (.ref T), some (.ref d), u, v, none] ∧ J d = some (.dK (gkv gs)) ∧ GrAt J gs ∧ (gs.map fun g => (g.key, g.pl)) = glL ((zs.take i).map (shown rr)) ∧ (∀ g ∈ gs, G2 g.ad = none ∧ g.ad ≠ d) ∧ gs.length ≤ i ∧ Same G2 J)
      ⟨none, none, [], rfl, upd_same, ⟨(fun g hg => by cases hg), (fun g hg => by cases hg), (fun g hg => by cases hg)⟩, rfl, (fun g hg => by cases hg), Nat.le_refl _, sd⟩ (fun i σ J _ ⟨_, _, _, _, _, _, _, _, _, sJ⟩ => sameT (s12.trans sJ) hT) ?_ ?_⟩
    · rintro i v σ J J1 hi ⟨u, v2, gs, rfl, eD, hG, eg, ng, gl, sJ⟩ ⟨N, x, hx, rfl, nN, rfl⟩
      obtain ⟨z, hz, rfl⟩ := atP_strs' hx
      have mz := List.mem_of_getElem? hz
      have il := (List.getElem?_eq_some_iff.mp hz).1
      have sN : Same J (upd J N (.tup [.int (i : Nat), .str z])) := same_new nN
      refine ⟨N, _, rfl, .inl (.inl upd_same), rfl, _, _, rfl, _, _, rfl, rfl, ?_⟩
      generalize upd J N (.tup [.int (i : Nat), .str z]) = J1 at sN
      refine ⟨_, rfl, d, rfl, .inl ⟨_, .inl (sN _ _ eD)⟩, _, rfl, _, rfl, a, rs, z, rfl, hR.same (s12.trans (sJ.trans sN)), Nat.le_trans (txt_len (zt z mz)) (by decide), fun y ey => ?_⟩
      rw [← hrr] at ey
      obtain rfl := shown_of ey
      refine ⟨Nat.zero_le _, fun L nL => ?_⟩
      have sL : Same J1 (upd J1 L (.lst [])) := same_new nL
      have eL : upd J1 L (.lst []) L = some (.lst []) := upd_same
      generalize upd J1 L (.lst []) = J2 at sL eL
      have s3 := sN.trans sL
      have eD2 := s3 _ _ eD
      have hG2 := hG.same s3
      have nL2 : G2 L = none := (sJ.trans sN).free nL
      have nLd : L ≠ d := Ne.symm (ne_of_none (sN _ _ eD) nL)
      have nLg : ∀ g ∈ gs, g.ad ≠ L := fun g hg => ne_of_none (sN _ _ (hG.at_ g hg)) nL
      have len : ((zs.take i).map (shown rr)).length = i := by
        rw [List.length_map, List.length_take]
        omega
      have nextS : (zs.take (i + 1)).map (shown rr) = (zs.take i).map (shown rr) ++ [shown rr z] := by
        rw [takeN hz, List.map_append]
        rfl
      have keys : ∀ y, y ∈ (zs.take i).map (shown rr) ↔ ∃ g ∈ gs, g.key = y := fun y => by
        have e2 : gs.map (·.key) = dds ((zs.take i).map (shown rr)) := by
          have := congrArg (List.map (·.1)) eg
          unfold glL at this
          rw [List.map_map, List.map_map] at this
          have e3 : (List.map ((fun x => x.1) ∘ fun s => (s, idxs ((zs.take i).map (shown rr)) s)) (dds ((zs.take i).map (shown rr)))) = dds ((zs.take i).map (shown rr)) := List.map_id _
          rw [e3] at this
          exact this
        rw [← mem_dds, ← e2, List.mem_map]
      refine ⟨gkv gs, Sum.inr (shown rr z), eD2, rfl, small1000 (by unfold gkv; rw [List.length_map]; omega), fun v hv => ?_, fun hn => ?_⟩
      · obtain ⟨g, mg, kg, rfl⟩ := gkv_some hv
        have eg2 := hG2.at_ g mg
        have il2 : g.pl.length ≤ 20 := by
          have m2 : (g.key, g.pl) ∈ gs.map fun g => (g.key, g.pl) := List.mem_map.mpr ⟨g, mg, rfl⟩
          rw [eg] at m2
          unfold glL at m2
          obtain ⟨s, _, e⟩ := List.mem_map.mp m2
          have e4 : idxs ((zs.take i).map (shown rr)) s = g.pl := congrArg Prod.snd e
          have := idxs_len ((zs.take i).map (shown rr)) s
          rw [e4, len] at this
          omega
        refine ⟨.inl ⟨rfl, _, .inl (.inl eg2)⟩, _, rfl, g.ad, _, _, rfl, rfl, eg2, small1000 (by rw [List.length_map]; omega), ?_⟩
        refine ⟨_, _, gs.map (addAt g.key i), rfl, ?_, hG2.add mg, ?_, fun x hx => ?_, by rw [List.length_map]; omega, offH (sJ.trans s3) (ng g mg).1⟩
        · rw [gkv_add, upd_ne (Ne.symm (ng g mg).2)]
          exact eD2
        · rw [nextS, glL_old ((keys _).mpr ⟨g, mg, kg⟩), ← eg, List.map_map, List.map_map, len]
          refine List.map_congr_left fun x _ => ?_
          show ((addAt g.key i x).key, (addAt g.key i x).pl) = if x.key = shown rr z then (x.key, x.pl ++ [i]) else (x.key, x.pl)
          rw [← kg]
          unfold addAt
          split <;> rfl
        · obtain ⟨x, mx, rfl⟩ := List.mem_map.mp hx
          rw [addAt_ad]
          exact ng x mx
      · have no := gkv_none hn
        have eLu : upd J2 d (.dK (putK (gkv gs) (Sum.inr (shown rr z)) (.ref L))) L = some (.lst []) := by
          rw [upd_ne nLd]
          exact eL
        refine ⟨.inl ⟨rfl, _, .inl (.inl eLu)⟩, _, rfl, L, _, _, rfl, rfl, eLu, by show 0 < sizeLine; decide, ?_⟩
        have hG3 : GrAt (upd J2 d (.dK (putK (gkv gs) (Sum.inr (shown rr z)) (.ref L)))) gs := ⟨fun g hg => by rw [upd_ne (ng g hg).2]; exact hG2.at_ g hg, hG2.ai, hG2.ki⟩
        refine ⟨_, _, gs ++ [Gr.mk (shown rr z) L [i]], rfl, ?_, hG3.new (n := i) nLg no, ?_, fun x hx => ?_, by rw [List.length_append]; exact Nat.succ_le_succ gl, offH (offH (sJ.trans s3) nd) nL2⟩
        · rw [upd_ne (Ne.symm nLd), upd_same, putK_new _ hn]
          unfold gkv
          rw [List.map_append]
          rfl
        · rw [nextS, glL_new (fun q => by
            obtain ⟨g, hg, e⟩ := (keys _).mp q
            exact no g hg e), ← eg, List.map_append, len]
          rfl
        · rcases List.mem_append.mp hx with hx | hx
          · exact ng x hx
          · rw [List.mem_singleton.mp hx]
            exact ⟨nL2, nLd⟩
    · rintro σ J ⟨u, v, gs, rfl, eD, hG, eg, ng, gl, sJ⟩
      rw [List.length_map, List.take_length] at eg
      rw [List.length_map] at gl
      refine ⟨d, _, eD, trivial, fun od => ?_⟩
      have sl : ∀ b o, J b = some o → b ≠ d → upd J d (.frz od (.dK (gkv gs))) b = some o := fun b o e n => by
        rw [upd_ne n]
        exact e
      refine ⟨_, rfl, d, od, _, rfl, upd_same, fun M nM => lc_it walk_values (fun i J1 => ∃ ts : List (Addr × List Nat), J1 M = some (.lst (ts.map fun t => V.ref t.1)) ∧ Tns J1 ts ∧ ts.map (·.2) = ((gs.map (·.pl)).take i).filter (fun l => decide (1 < l.length)) ∧ J1 d = some (.frz od (.dK (gkv gs))) ∧ ∀ b o, J b = some o → b ≠ d → J1 b = some o)
        ⟨[], upd_same, (fun t ht => by cases ht), rfl, ?_, fun b o e n => ?_⟩ (fun i J1 _ ⟨_, _, _, _, e, _⟩ => e) ?_ ?_⟩
      · rw [upd_ne (ne_of_none upd_same nM), upd_same]
      · rw [upd_ne (ne_of_none (sl b o e n) nM)]
        exact sl b o e n
      · rintro i v J1 J2 hi ⟨ts, eM, hts, et, ed, keep⟩ ⟨rfl, kk, hk⟩
        unfold gkv at hk hi
        rw [List.getElem?_map] at hk
        rw [List.length_map] at hi
        cases hg : gs[i]? with
        | none =>
          rw [hg] at hk
          cases hk
        | some g =>
          rw [hg] at hk
          cases hk
          have mg := List.mem_of_getElem? hg
          have gp : (gs.map (·.pl))[i]? = some g.pl := by rw [List.getElem?_map, hg]; rfl
          have e1 := keep _ _ (hG.at_ g mg) (ng g mg).2
          have tl : ts.length ≤ 20 := by
            have a := congrArg List.length et
            rw [List.length_map] at a
            have b := List.length_filter_le (fun l : List Nat => decide (1 < l.length)) ((gs.map (·.pl)).take i)
            rw [List.length_take] at b
            omega
          have nx : ((gs.map (·.pl)).take (i + 1)).filter (fun l => decide (1 < l.length)) = ((gs.map (·.pl)).take i).filter (fun l => decide (1 < l.length)) ++ if decide (1 < g.pl.length) = true then [g.pl] else [] := by
            rw [takeN gp, List.filter_append]
            congr 1
            show List.filter _ [_] = _
            rw [List.filter_cons, List.filter_nil]
          refine ⟨rfl, _, rfl, _, _, rfl, .inl ⟨_, .inl (.inl e1), rfl⟩, _, _, rfl, rfl, _, rfl, ?_⟩
          rw [List.length_map]
          refine ite2 (fun q => ?_) (fun q => ?_)
          · have q2 : 1 < g.pl.length := by
              have := of_decide_eq_true q
              omega
            refine ⟨_, rfl, g.ad, _, rfl, .inl ⟨.inl (.inl e1), fun t nt => ?_⟩⟩
            have st : Same J2 (upd J2 t (.tup (g.pl.map natI))) := same_new nt
            have ett : upd J2 t (.tup (g.pl.map natI)) t = some (.tup (g.pl.map natI)) := upd_same
            generalize upd J2 t (.tup (g.pl.map natI)) = J3 at st ett
            refine ⟨_, st _ _ eM, small1000 (by rw [List.length_map]; omega), ts ++ [(t, g.pl)], ?_, ((hts.same st).snoc ett).list (st _ _ eM), ?_, ?_, fun b o e n => ?_⟩
            · rw [upd_same, List.map_append]
              rfl
            · rw [List.map_append, et, nx, if_pos (decide_eq_true q2)]
              rfl
            · have nMd : d ≠ M := fun z => by
                have a := ed
                rw [z, eM] at a
                cases a
              rw [upd_ne nMd]
              exact st _ _ ed
            · rw [upd_ne (ne_of_none (sl b o e n) nM)]
              exact st _ _ (keep b o e n)
          · have q2 : ¬ 1 < g.pl.length := fun h => q (decide_eq_true (by omega))
            refine ⟨ts, eM, hts, ?_, ed, keep⟩
            rw [nx, if_neg (fun h => q2 (of_decide_eq_true h)), List.append_nil]
            exact et
      · rintro J1 ⟨ts, eM, hts, et, ed, keep⟩
        refine ⟨ed, ?_⟩
        have nMd : M ≠ d := fun z => by
          rw [z, ed] at eM
          cases eM
        have sF : Same H (upd J1 d (.dK (gkv gs))) := s12.trans (fun b o e => by
          have nb : b ≠ d := ne_of_none e nd
          rw [upd_ne nb]
          exact keep b o (sJ b o e) nb)
        have eM2 : upd J1 d (.dK (gkv gs)) M = some (.lst (ts.map fun t => V.ref t.1)) := by
          rw [upd_ne nMd]
          exact eM
        have hts2 : Tns (upd J1 d (.dK (gkv gs))) ts := fun t ht => by
          rw [upd_ne (ne_of (hts t ht) ed (by intro z; cases z))]
          exact hts t ht
        refine ⟨M, _, rfl, .inl ⟨.inl (.inl eM2), fun U nU => k U _ ts (sF.trans (same_new nU)) upd_same (hts2.same (same_new nU)) ?_⟩⟩
        have gl2 : (gkv gs).length = (gs.map (·.pl)).length := by
          unfold gkv
          rw [List.length_map, List.length_map]
        rw [et, gl2, List.take_length]
        unfold grpL
        rw [← eg, List.map_map]
        rfl
end
end Gu
namespace Gu
open PySem PySem.Spec PyProof.Rows L2
/-! ### the law's groups -/
def atS (ss : List Str) (k : Nat) : Str := (ss[k]?).getD Str.empty
theorem atS_some {ss : List Str} {k : Nat} (h : k < ss.length) : ss[k]? = some (atS ss k) := by
  unfold atS
  rw [List.getElem?_eq_getElem h]
  rfl
def mateL (ss : List Str) (k : Nat) : List Nat := idxs ss (atS ss k)
def dueB (ss : List Str) (k : Nat) : Bool := decide (1 < (mateL ss k).length) && decide ((mateL ss k)[0]? = some k)
def dueL (ss : List Str) (m : Nat) : List (List Nat) := ((List.range m).filter (dueB ss)).map (mateL ss)
theorem dueL_succ (ss : List Str) (m : Nat) : dueL ss (m + 1) = dueL ss m ++ if dueB ss m = true then [mateL ss m] else [] := by
  unfold dueL
  rw [List.range_succ, List.filter_append, List.map_append]
  congr 1
  rw [List.filter_cons, List.filter_nil]
  split <;> rfl
theorem dueL_len (ss : List Str) (m : Nat) : (dueL ss m).length ≤ m := by
  unfold dueL
  rw [List.length_map]
  refine Nat.le_trans (List.length_filter_le _ _) ?_
  rw [List.length_range]
  exact Nat.le_refl _
theorem not_take {ss : List Str} {k : Nat} {s : Str} : s ∉ ss.take k ↔ ∀ j, j < k → ss[j]? ≠ some s := by
  constructor
  · intro h j hj e
    refine h (List.mem_of_getElem? (i := j) ?_)
    rw [List.getElem?_take, if_pos hj]
    exact e
  · intro h q
    obtain ⟨j, hj⟩ := List.mem_iff_getElem?.mp q
    rw [List.getElem?_take] at hj
    by_cases e : j < k
    · rw [if_pos e] at hj
      exact h j e hj
    · rw [if_neg e] at hj
      cases hj
theorem dds_first (ss : List Str) : ∀ m, m ≤ ss.length → dds (ss.take m) = ((List.range m).filter fun k => decide (atS ss k ∉ ss.take k)).map (atS ss)
  | 0, _ => rfl
  | m + 1, h => by
    have ih := dds_first ss m (by omega)
    rw [takeN (atS_some (show m < ss.length by omega)), dds_snoc, List.range_succ, List.filter_append, List.map_append, ← ih, List.filter_cons, List.filter_nil]
    by_cases e : atS ss m ∈ ss.take m
    · rw [if_pos ((mem_dds _).mpr e), if_neg (show ¬ decide (atS ss m ∉ ss.take m) = true from fun q => of_decide_eq_true q e)]
      exact (List.append_nil _).symm
    · rw [if_neg (fun q => e ((mem_dds _).mp q)), if_pos (decide_eq_true e)]
      rfl
theorem head_mate {ss : List Str} {k : Nat} (hk : k < ss.length) : (mateL ss k)[0]? = some k ↔ atS ss k ∉ ss.take k := by
  unfold mateL idxs
  rw [← List.head?_eq_getElem?, List.head?_filter, List.find?_range_eq_some, not_take]
  constructor
  · rintro ⟨_, _, h⟩ j hj e
    have := h j hj
    rw [decide_eq_true e] at this
    cases this
  · intro h
    refine ⟨decide_eq_true (atS_some hk), List.mem_range.mpr hk, fun j hj => ?_⟩
    rw [decide_eq_false (h j hj)]
    rfl
theorem due_grp (ss : List Str) : dueL ss ss.length = grpL ss := by
  unfold grpL glL dueL
  have e := dds_first ss ss.length (Nat.le_refl _)
  rw [List.take_length] at e
  rw [e]
  simp only [List.map_map, List.filter_map, List.filter_filter]
  have e2 : (List.range ss.length).filter (dueB ss) = (List.range ss.length).filter fun a => ((fun l => decide (1 < l.length)) ∘ (fun x => x.2) ∘ (fun s => (s, idxs ss s)) ∘ atS ss) a && decide (atS ss a ∉ ss.take a) := by
    refine List.filter_congr fun k hk => ?_
    unfold dueB
    show (decide (1 < (mateL ss k).length) && decide ((mateL ss k)[0]? = some k)) = (decide (1 < (idxs ss (atS ss k)).length) && decide (atS ss k ∉ ss.take k))
    rw [decide_eq_decide.mpr (head_mate (List.mem_range.mp hk))]
    rfl
  rw [e2]
  rfl
def apB (zs ss : List Str) (k : Nat) : Bool := ((mateL ss k).map fun j => decide (atS zs j = atS zs k)).all id
def apL (zs ss : List Str) (m : Nat) : Bool := ((List.range m).filter (dueB ss)).all (apB zs ss)
theorem apL_succ (zs ss : List Str) (m : Nat) : apL zs ss (m + 1) = (apL zs ss m && if dueB ss m = true then apB zs ss m else true) := by
  unfold apL
  rw [List.range_succ, List.filter_append, List.all_append, List.filter_cons, List.filter_nil]
  congr 1
  split
  · show (apB zs ss m && true) = _
    rw [Bool.and_true]
  · rfl
theorem atS_map {f : Str → Str} {zs : List Str} {k : Nat} (h : k < zs.length) : atS (zs.map f) k = f (atS zs k) := by
  have a := atS_some (ss := zs.map f) (by rw [List.length_map]; exact h)
  rw [List.getElem?_map, atS_some h] at a
  exact (Option.some.inj a).symm
theorem apart_sep (rs : List Rec) (zs : List Str) : apL zs (zs.map (shown rs)) zs.length = sepB rs zs := by
  refine Bool.eq_iff_iff.mpr ?_
  rw [sepB_iff]
  unfold apL
  rw [List.all_eq_true]
  have len : (zs.map (shown rs)).length = zs.length := List.length_map ..
  constructor
  · intro h a ha b hb e
    obtain ⟨i, hi⟩ := List.mem_iff_getElem?.mp ha
    obtain ⟨j, hj⟩ := List.mem_iff_getElem?.mp hb
    have il := (List.getElem?_eq_some_iff.mp hi).1
    have jl := (List.getElem?_eq_some_iff.mp hj).1
    have ai : atS zs i = a := Option.some.inj ((atS_some il).symm.trans hi)
    have aj : atS zs j = b := Option.some.inj ((atS_some jl).symm.trans hj)
    have si : (zs.map (shown rs))[i]? = some (shown rs a) := by rw [List.getElem?_map, hi]; rfl
    have sj : (zs.map (shown rs))[j]? = some (shown rs a) := by rw [List.getElem?_map, hj, e]; rfl
    by_cases q : i = j
    · rw [← ai, ← aj, q]
    have mi : i ∈ idxs (zs.map (shown rs)) (shown rs a) := idxs_mem.mpr si
    have mj : j ∈ idxs (zs.map (shown rs)) (shown rs a) := idxs_mem.mpr sj
    -- the first of the form
    cases hk : idxs (zs.map (shown rs)) (shown rs a) with
    | nil =>
      rw [hk] at mi
      cases mi
    | cons k r =>
      have mk : (zs.map (shown rs))[k]? = some (shown rs a) := idxs_mem.mp (by rw [hk]; exact List.mem_cons_self ..)
      have kl := (List.getElem?_eq_some_iff.mp mk).1
      have ek : atS (zs.map (shown rs)) k = shown rs a := Option.some.inj ((atS_some kl).symm.trans mk)
      have em : mateL (zs.map (shown rs)) k = k :: r := by
        unfold mateL
        rw [ek, hk]
      have rl : r ≠ [] := fun z => by
        rw [hk, z] at mi mj
        rw [List.mem_singleton] at mi mj
        exact q (mi.trans mj.symm)
      have due : dueB (zs.map (shown rs)) k = true := by
        unfold dueB
        rw [em, decide_eq_true (show 1 < (k :: r).length from Nat.succ_lt_succ (List.length_pos_iff.mpr rl)), decide_eq_true (show (k :: r)[0]? = some k from rfl)]
        rfl
      have al := h k (List.mem_filter.mpr ⟨List.mem_range.mpr (by rw [← len]; exact kl), due⟩)
      unfold apB at al
      rw [List.all_map, List.all_eq_true, em, ← hk] at al
      have t1 : atS zs i = atS zs k := of_decide_eq_true (al i mi)
      have t2 : atS zs j = atS zs k := of_decide_eq_true (al j mj)
      rw [← ai, ← aj, t1, t2]
  · intro h k hk
    have kl := List.mem_range.mp (List.mem_filter.mp hk).1
    unfold apB
    rw [List.all_map, List.all_eq_true]
    intro j hj
    have sj := idxs_mem.mp hj
    have jl : j < zs.length := by
      have := (List.getElem?_eq_some_iff.mp sj).1
      omega
    have e1 : atS (zs.map (shown rs)) j = atS (zs.map (shown rs)) k := Option.some.inj ((atS_some (by omega)).symm.trans sj)
    rw [atS_map jl, atS_map kl] at e1
    exact decide_eq_true (h _ (List.mem_of_getElem? (atS_some jl)) _ (List.mem_of_getElem? (atS_some kl)) e1)
end Gu
namespace Gu
open PySem PySem.Spec PyProof.Rows L2
/-! ### plans as data, and filled in -/
def dat : V → PyData
  | .int i => .int i
  | .str z => .str z
  | _ => .none
/-- a place or a single sign -/
def Plain (n : Nat) (x : V) : Prop := (∃ i : Int, x = .int i ∧ 0 ≤ i ∧ i < (n : Int)) ∨ ∃ c : Nat, x = .str (one c) ∧ c < 128
theorem Plain.fine {n : Nat} {x : V} (hn : n ≤ 500) (h : Plain n x) : Fine 0 70 (dat x) := by
  rcases h with ⟨i, rfl, h0, h1⟩ | ⟨c, rfl, hc⟩
  · exact Fine.int (by omega)
  · exact (Fine.str (z := one c) (W := 1) (fun d hd => by
      rw [List.mem_singleton.mp (show d ∈ [c] from hd)]
      exact Nat.lt_of_lt_of_le hc (by decide)) (Nat.le_refl _)).mono (Nat.le_refl _) (by decide)
theorem Plain.dp {K : PySem.W.Frag} {H : Hp} {n : Nat} {x : V} (h : Plain n x) : Dp K H x (dat x) := by
  rcases h with ⟨i, rfl, _⟩ | ⟨c, rfl, _⟩
  · exact .int i
  · exact .str _
theorem dp_all {K : PySem.W.Frag} {H : Hp} {n : Nat} : ∀ {xs : List V}, (∀ x ∈ xs, Plain n x) → DpAll K H xs (xs.map dat)
  | [], _ => .nil
  | x :: xs, h => .cons (h x (List.mem_cons_self ..)).dp (dp_all fun y hy => h y (List.mem_cons_of_mem _ hy))
theorem ones_plain {n : Nat} {cs : List Nat} (h : Signs cs) : ∀ x ∈ ones cs, Plain n x := by
  intro x hx
  obtain ⟨c, hc, rfl⟩ := List.mem_map.mp hx
  have a : ∀ c ∈ signs.cps.toList, c < 128 := by decide +kernel
  exact .inr ⟨c, rfl, a c (h c hc)⟩
theorem cutsV_all {p : V → Prop} : ∀ (rs : List Rec) {xs : List V}, (∀ r ∈ rs, ∀ x ∈ ones r.z.cps.toList, p x) → (∀ x ∈ xs, p x) → ∀ x ∈ cutsV rs xs, p x
  | [], _, _, h => h
  | r :: rs, xs, hz, h => by
    refine cutsV_all rs (xs := cut r.l.toNat r.h.toNat r.t.toNat (ones r.z.cps.toList) xs) (fun q hq => hz q (List.mem_cons_of_mem _ hq)) fun x hx => ?_
    unfold cut at hx
    split at hx
    · exact h x hx
    · rcases List.mem_append.mp hx with hx | hx
      · rcases List.mem_append.mp hx with hx | hx
        · exact h x (List.mem_of_mem_take hx)
        · exact hz r (List.mem_cons_self ..) x hx
      · exact h x (List.mem_of_mem_drop hx)
theorem plan_plain {rs : List Rec} (hf : ∀ r ∈ rs, r.fit) {n : Nat} : ∀ x ∈ cutsV rs (rgV 0 n), Plain n x :=
  cutsV_all rs (fun r hr => ones_plain (isTxt_signs (hf r hr).z)) fun x hx => by
    unfold rgV at hx
    obtain ⟨i, hi, rfl⟩ := List.mem_map.mp hx
    have := List.mem_range.mp hi
    exact .inl ⟨_, rfl, by omega, by omega⟩
theorem plan_fine {rs : List Rec} (hf : ∀ r ∈ rs, r.fit) {n : Nat} (hn : n ≤ 500) : Fine 60 100000 (.list [.tuple ((cutsV rs (rgV 0 n)).map dat), .tuple ((cutsV rs (rgV 0 n)).map dat)]) := by
  have a : FineAll 0 70 ((cutsV rs (rgV 0 n)).map dat) := .of fun d hd => by
    obtain ⟨x, hx, rfl⟩ := List.mem_map.mp hd
    exact (plan_plain hf x hx).fine hn
  have l : ((cutsV rs (rgV 0 n)).map dat).length ≤ 500 := by
    rw [List.length_map, cutsV_length, rgV_length]
    exact lens_le rs hf (by omega)
  have b := a.tup
  have c : Fine 1 35500 (.tuple ((cutsV rs (rgV 0 n)).map dat)) := b.mono (Nat.le_refl _) (by omega)
  have d : FineAll 1 35500 [.tuple ((cutsV rs (rgV 0 n)).map dat), .tuple ((cutsV rs (rgV 0 n)).map dat)] := .of fun e he => by
    simp only [List.mem_cons, List.not_mem_nil, or_false, or_self] at he
    rw [he]
    exact c
  exact d.list.mono (by decide) (by show 2 * 35501 ≤ 100000; decide)
def fill (cs : List Nat) : V → V
  | .int i => .str (one (cs.getD i.toNat 0))
  | v => v
theorem fill_ones (cs ds : List Nat) : (ones ds).map (fill cs) = ones ds := by
  unfold ones
  rw [List.map_map]
  rfl
theorem fill_cuts (cs : List Nat) : ∀ (rs : List Rec) (xs : List V), (cutsV rs xs).map (fill cs) = cutsV rs (xs.map (fill cs))
  | [], _ => rfl
  | r :: rs, xs => by
    show (cutsV rs (cut r.l.toNat r.h.toNat r.t.toNat (ones r.z.cps.toList) xs)).map (fill cs) = cutsV rs (cut r.l.toNat r.h.toNat r.t.toNat (ones r.z.cps.toList) (xs.map (fill cs)))
    rw [fill_cuts cs rs, ← cut_map, fill_ones]
theorem fill_range (cs : List Nat) : (rgV 0 (cs.length : Nat)).map (fill cs) = ones cs := by
  unfold rgV ones
  rw [List.map_map]
  refine List.ext_getElem? fun j => ?_
  rw [List.getElem?_map, List.getElem?_map]
  simp only [Int.sub_zero, Int.toNat_natCast]
  by_cases hj : j < cs.length
  · rw [List.getElem?_range hj, List.getElem?_eq_getElem hj]
    show some (V.str (one (cs.getD (0 + (j : Int)).toNat 0))) = some (V.str (one cs[j]))
    rw [Int.zero_add, Int.toNat_natCast, List.getD_eq_getElem?_getD, List.getElem?_eq_getElem hj]
    rfl
  · rw [List.getElem?_eq_none (by rw [List.length_range]; omega), List.getElem?_eq_none (by omega)]
    rfl
theorem at_of' {α : Type} {xs : List α} {i : Int} {j : Nat} {v : α} (e : i = (j : Int)) (h : xs[j]? = some v) : atI xs i = some v := by
  rw [e]
  exact atI_nat h
def idl {α : Type} (l : List α) : List α := l
end Gu
namespace Gu
open PySem PySem.Spec PyProof.Rows L2
/-! ### plans that differ, and the least text that tells -/
def planV (rs : List Rec) (n : Nat) : List V := cutsV rs (rgV 0 (n : Int))
theorem fill_plan (rs : List Rec) (cs : List Nat) : (planV rs cs.length).map (fill cs) = ones (cuts rs cs) := by
  unfold planV
  rw [fill_cuts, fill_range, cutsV_ones]
theorem map_injL {α β : Type} {f : α → β} (h : ∀ x y, f x = f y → x = y) : ∀ {xs ys : List α}, xs.map f = ys.map f → xs = ys
  | [], [], _ => rfl
  | [], _ :: _, e => nomatch e
  | _ :: _, [], e => nomatch e
  | x :: xs, y :: ys, e => by
    have e := List.cons.inj e
    rw [h _ _ e.1, map_injL h e.2]
theorem ones_inj {cs ds : List Nat} (h : ones cs = ones ds) : cs = ds := by
  refine map_injL (fun a b e => ?_) h
  have := congrArg (fun z : Str => z.cps.toList) (V.str.inj e)
  exact List.singleton_inj.mp this
theorem shown_iff (rs ss : List Rec) (cs : List Nat) : cuts rs cs = cuts ss cs ↔ (planV rs cs.length).map (fill cs) = (planV ss cs.length).map (fill cs) := by
  rw [fill_plan, fill_plan]
  exact ⟨fun h => by rw [h], ones_inj⟩
theorem map_cuts {f : V → V} (hf : ∀ z, f (.str z) = .str z) : ∀ (rs : List Rec) (xs : List V), cutsV rs (xs.map f) = (cutsV rs xs).map f
  | [], _ => rfl
  | r :: rs, xs => by
    have e : ones r.z.cps.toList = (ones r.z.cps.toList).map f := by
      unfold ones
      rw [List.map_map]
      refine List.map_congr_left fun c _ => ?_
      exact (hf _).symm
    show cutsV rs (cut r.l.toNat r.h.toNat r.t.toNat (ones r.z.cps.toList) (xs.map f)) = (cutsV rs (cut r.l.toNat r.h.toNat r.t.toNat (ones r.z.cps.toList) xs)).map f
    conv => lhs; rw [e]
    rw [cut_map, map_cuts hf rs]
/-! far lengths -/
def far (n : Nat) : V → V
  | .int i => .int (if i < 40 then i else i + ((n : Int) - 80))
  | v => v
theorem far_inj {n : Nat} (h : 80 ≤ n) {x y : V} (e : far n x = far n y) : x = y := by
  cases x <;> cases y <;> first | exact e | cases e | skip
  have e := V.int.inj e
  congr 1
  split at e <;> split at e <;> omega
theorem rg_get (n j : Nat) : (rgV 0 (n : Int))[j]? = if j < n then some (V.int (j : Int)) else none := by
  unfold rgV
  rw [List.getElem?_map, Int.sub_zero, Int.toNat_natCast]
  split
  · next h =>
    rw [List.getElem?_range h]
    show some (V.int (0 + (j : Int))) = _
    rw [Int.zero_add]
  · next h =>
    rw [List.getElem?_eq_none (by rw [List.length_range]; omega)]
    rfl
theorem rg_len (n : Nat) : (rgV 0 (n : Int)).length = n := by
  rw [rgV_length]
  omega
theorem cut_far {r : Rec} (f : r.fit) {n : Nat} (hn : 80 ≤ n) : cut r.l.toNat r.h.toNat r.t.toNat (ones r.z.cps.toList) (rgV 0 (n : Int)) = (cut r.l.toNat r.h.toNat r.t.toNat (ones r.z.cps.toList) (rgV 0 ((80 : Nat) : Int))).map (far n) := by
  have f1 := f.l
  have f2 := f.h
  have f3 := f.t
  unfold cut
  rw [rg_len, rg_len, if_neg (by omega), if_neg (by omega), List.map_append, List.map_append]
  congr 1
  · congr 1
    · refine List.ext_getElem? fun j => ?_
      rw [List.getElem?_map, List.getElem?_take, List.getElem?_take]
      split
      · rw [rg_get, rg_get, if_pos (by omega), if_pos (by omega)]
        show _ = some (V.int _)
        rw [if_pos (by omega)]
      · rfl
    · unfold ones
      rw [List.map_map]
      rfl
  · refine List.ext_getElem? fun j => ?_
    rw [List.getElem?_map, List.getElem?_drop, List.getElem?_drop, rg_get, rg_get]
    by_cases hj : j < r.t.toNat
    · rw [if_pos (by omega), if_pos (by omega)]
      show _ = some (V.int _)
      rw [if_neg (by omega)]
      congr 2
      omega
    · rw [if_neg (by omega), if_neg (by omega)]
      rfl
theorem plan_far {rs : List Rec} (hf : ∀ r ∈ rs, r.fit) (h1 : 1 ≤ rs.length) {n : Nat} (hn : 80 ≤ n) : planV rs n = (planV rs 80).map (far n) := by
  cases rs with
  | nil => cases h1
  | cons r rs =>
    show cutsV rs (cut r.l.toNat r.h.toNat r.t.toNat (ones r.z.cps.toList) (rgV 0 (n : Int))) = (cutsV rs (cut r.l.toNat r.h.toNat r.t.toNat (ones r.z.cps.toList) (rgV 0 ((80 : Nat) : Int)))).map (far n)
    rw [cut_far (hf r (List.mem_cons_self ..)) hn, map_cuts (fun z => rfl)]
theorem map_inj {f : V → V} (h : ∀ x y, f x = f y → x = y) {xs ys : List V} (e : xs.map f = ys.map f) : xs = ys := map_injL h e
/-- what is so up to 80 is so for all lengths -/
theorem alike_all {rs ss : List Rec} (hr : ∀ r ∈ rs, r.fit) (hs : ∀ r ∈ ss, r.fit) (r1 : 1 ≤ rs.length) (s1 : 1 ≤ ss.length) (h : ∀ n, n ≤ 80 → planV rs n = planV ss n) (n : Nat) : planV rs n = planV ss n := by
  rcases Nat.lt_or_ge 80 n with hn | hn
  · rw [plan_far hr r1 (by omega), plan_far hs s1 (by omega), h 80 (by omega)]
  · exact h n hn
/-! least texts -/
def dots (n : Nat) : List Nat := List.replicate n 46
def dotp (n p : Nat) : List Nat := List.replicate p 46 ++ 48 :: List.replicate (n - p - 1) 46
theorem dots_len (n : Nat) : (dots n).length = n := List.length_replicate ..
theorem dotp_len {n p : Nat} (h : p < n) : (dotp n p).length = n := by
  unfold dotp
  rw [List.length_append, List.length_cons, List.length_replicate, List.length_replicate]
  omega
theorem dots_at {n i : Nat} (h : i < n) : (dots n).getD i 0 = 46 := by
  unfold dots
  rw [List.getD_eq_getElem?_getD, List.getElem?_replicate, if_pos h]
  rfl
theorem dotp_at {n p i : Nat} (hp : p < n) (h : i < n) : (dotp n p).getD i 0 = if i = p then 48 else 46 := by
  unfold dotp
  rw [List.getD_eq_getElem?_getD]
  rcases Nat.lt_trichotomy i p with h1 | h1 | h1
  · rw [List.getElem?_append_left (by rw [List.length_replicate]; exact h1), List.getElem?_replicate, if_pos h1, if_neg (by omega)]
    rfl
  · rw [List.getElem?_append_right (by rw [List.length_replicate]; omega), List.length_replicate, h1, Nat.sub_self, if_pos rfl]
    rfl
  · rw [List.getElem?_append_right (by rw [List.length_replicate]; omega), List.length_replicate, if_neg (by omega)]
    obtain ⟨k, hk⟩ : ∃ k, i - p = k + 1 := ⟨i - p - 1, by omega⟩
    rw [hk, List.getElem?_cons_succ, List.getElem?_replicate, if_pos (by omega)]
    rfl
/-- at some place one has the sign p and the other something else -/
def Diff (xs ys : List V) (p : Nat) : Prop := ∃ (i : Nat) (x y : V), xs[i]? = some x ∧ ys[i]? = some y ∧ x ≠ y ∧ (x = V.int (p : Int) ∨ y = V.int (p : Int))
def flat0 : V → V
  | .int _ => .str (one 46)
  | v => v
theorem fill_dots {n : Nat} {x : V} (h : Plain n x) : fill (dots n) x = flat0 x := by
  rcases h with ⟨i, rfl, h0, h1⟩ | ⟨c, rfl, _⟩
  · show V.str (one _) = V.str (one 46)
    rw [dots_at (by omega)]
  · rfl
theorem fill_dotp {n p : Nat} (hp : p < n) {x : V} (h : Plain n x) (ne : x ≠ .int (p : Int)) : fill (dotp n p) x = fill (dots n) x := by
  rcases h with ⟨i, rfl, h0, h1⟩ | ⟨c, rfl, _⟩
  · show V.str (one _) = V.str (one _)
    rw [dots_at (by omega), dotp_at hp (by omega), if_neg]
    intro e
    exact ne (by rw [← e, Int.toNat_of_nonneg h0])
  · rfl
theorem fill_here {n p : Nat} (hp : p < n) : fill (dotp n p) (.int (p : Int)) = .str (one 48) := by
  show V.str (one _) = _
  rw [Int.toNat_natCast, dotp_at hp hp, if_pos rfl]
theorem one_ne : ¬ V.str (one 48) = V.str (one 46) := by
  intro h
  have := congrArg (fun z : Str => z.cps.toList) (V.str.inj h)
  exact absurd this (by decide)
section
variable {n : Nat} {xs ys : List V} (px : ∀ x ∈ xs, Plain n x) (py : ∀ y ∈ ys, Plain n y) (e0 : xs.map (fill (dots n)) = ys.map (fill (dots n)))
include px py e0
theorem same_at {i : Nat} {x y : V} (hx : xs[i]? = some x) (hy : ys[i]? = some y) : fill (dots n) x = fill (dots n) y := by
  have a := congrArg (fun l : List V => l[i]?) e0
  simp only [List.getElem?_map, hx, hy, Option.map_some] at a
  exact Option.some.inj a
theorem not_diff {p : Nat} (hp : p < n) (h : ¬ Diff xs ys p) : xs.map (fill (dotp n p)) = ys.map (fill (dotp n p)) := by
  have el : xs.length = ys.length := by
    have := congrArg List.length e0
    rw [List.length_map, List.length_map] at this
    exact this
  refine List.ext_getElem? fun i => ?_
  rw [List.getElem?_map, List.getElem?_map]
  by_cases hi : i < xs.length
  · have hx := List.getElem?_eq_getElem hi
    have hi2 : i < ys.length := by omega
    have hy := List.getElem?_eq_getElem hi2
    rw [hx, hy]
    show some _ = some _
    by_cases e : xs[i] = ys[i]
    · rw [e]
    · have n1 : xs[i] ≠ .int (p : Int) := fun q => h ⟨i, _, _, hx, hy, e, .inl q⟩
      have n2 : ys[i] ≠ .int (p : Int) := fun q => h ⟨i, _, _, hx, hy, e, .inr q⟩
      rw [fill_dotp hp (px _ (List.getElem_mem hi)) n1, fill_dotp hp (py _ (List.getElem_mem hi2)) n2, same_at px py e0 hx hy]
  · rw [List.getElem?_eq_none (by omega), List.getElem?_eq_none (by omega)]
theorem is_diff {p : Nat} (hp : p < n) (h : Diff xs ys p) : xs.map (fill (dotp n p)) ≠ ys.map (fill (dotp n p)) := by
  intro e
  obtain ⟨i, x, y, hx, hy, ne, h⟩ := h
  have a := congrArg (fun l : List V => l[i]?) e
  simp only [List.getElem?_map, hx, hy, Option.map_some] at a
  have a := Option.some.inj a
  have b := same_at px py e0 hx hy
  have qx := px x (List.mem_of_getElem? hx)
  have qy := py y (List.mem_of_getElem? hy)
  rcases h with rfl | rfl
  · rw [fill_here hp, fill_dotp hp qy (fun q => ne q.symm), ← b, fill_dots qx] at a
    exact one_ne a
  · rw [fill_here hp, fill_dotp hp qx ne, b, fill_dots qy] at a
    exact one_ne a.symm
theorem some_diff (ne : xs ≠ ys) : ∃ p, p < n ∧ Diff xs ys p := by
  have el : xs.length = ys.length := by
    have := congrArg List.length e0
    rw [List.length_map, List.length_map] at this
    exact this
  obtain ⟨i, hi, h⟩ : ∃ i, ∃ hi : i < xs.length, ¬ xs[i] = ys[i] := Decidable.byContradiction fun q => ne (List.ext_getElem el fun i h1 h2 => Decidable.byContradiction fun z => q ⟨i, h1, z⟩)
  have hx := List.getElem?_eq_getElem hi
  have hi2 : i < ys.length := by omega
  have hy := List.getElem?_eq_getElem hi2
  have b := same_at px py e0 hx hy
  have qx := px _ (List.getElem_mem hi)
  have qy := py _ (List.getElem_mem hi2)
  rcases id qx with ⟨j, ej, j0, j1⟩ | ⟨c, ec, _⟩
  · exact ⟨j.toNat, by omega, i, _, _, hx, hy, h, .inl (by rw [ej, Int.toNat_of_nonneg j0])⟩
  · rcases id qy with ⟨j, ej, j0, j1⟩ | ⟨d, ed, _⟩
    · exact ⟨j.toNat, by omega, i, _, _, hx, hy, h, .inr (by rw [ej, Int.toNat_of_nonneg j0])⟩
    · rw [fill_dots qx, fill_dots qy, ec, ed] at b
      exact absurd (by rw [ec, ed]; exact b) h
end
/-! the places that differ, as they are gathered -/
def isI : V → List Int
  | .int i => [i]
  | _ => []
def dpl : List V → List V → List Int
  | x :: xs, y :: ys => (if x = y then [] else isI x ++ isI y) ++ dpl xs ys
  | _, _ => []
theorem dpl_snoc : ∀ {xs ys : List V} (x y : V), xs.length = ys.length → dpl (xs ++ [x]) (ys ++ [y]) = dpl xs ys ++ (if x = y then [] else isI x ++ isI y)
  | [], [], x, y, _ => by
    show (if x = y then [] else isI x ++ isI y) ++ dpl [] [] = [] ++ _
    show _ ++ [] = [] ++ _
    rw [List.append_nil, List.nil_append]
  | a :: xs, b :: ys, x, y, h => by
    show (if a = b then [] else isI a ++ isI b) ++ dpl (xs ++ [x]) (ys ++ [y]) = ((if a = b then [] else isI a ++ isI b) ++ dpl xs ys) ++ _
    rw [dpl_snoc x y (by simpa using h), List.append_assoc]
theorem mem_isI {x : V} {i : Int} : i ∈ isI x ↔ x = .int i := by
  cases x <;> simp [isI, eq_comm]
theorem mem_dpl : ∀ {xs ys : List V} {i : Int}, i ∈ dpl xs ys ↔ ∃ (j : Nat) (x y : V), xs[j]? = some x ∧ ys[j]? = some y ∧ x ≠ y ∧ (x = V.int i ∨ y = V.int i)
  | [], ys, i => by
    refine ⟨fun h => ?_, fun ⟨j, x, y, hx, _⟩ => by simp at hx⟩
    unfold dpl at h
    cases h
  | a :: xs, [], i => by
    refine ⟨fun h => ?_, fun ⟨j, x, y, _, hy, _⟩ => by simp at hy⟩
    unfold dpl at h
    cases h
  | a :: xs, b :: ys, i => by
    show i ∈ (if a = b then [] else isI a ++ isI b) ++ dpl xs ys ↔ _
    rw [List.mem_append, mem_dpl (xs := xs) (ys := ys)]
    constructor
    · rintro (h | ⟨j, x, y, hx, hy, h⟩)
      · split at h
        · cases h
        · next ne => exact ⟨0, a, b, rfl, rfl, ne, (List.mem_append.mp h).imp mem_isI.mp mem_isI.mp⟩
      · exact ⟨j + 1, x, y, hx, hy, h⟩
    · rintro ⟨j, x, y, hx, hy, ne, h⟩
      cases j with
      | zero =>
        cases (Option.some.inj hx : a = x)
        cases (Option.some.inj hy : b = y)
        refine .inl ?_
        rw [if_neg ne]
        exact List.mem_append.mpr (h.imp mem_isI.mpr mem_isI.mpr)
      | succ j => exact .inr ⟨j, x, y, hx, hy, ne, h⟩
/-- the least text of n signs that two rows show differently -/
def LeastAt (rs ss : List Rec) (n : Nat) (cs : List Nat) : Prop :=
  (cs = dots n ∧ cuts rs (dots n) ≠ cuts ss (dots n)) ∨ ∃ p, p < n ∧ cs = dotp n p ∧ cuts rs (dots n) = cuts ss (dots n) ∧ cuts rs (dotp n p) ≠ cuts ss (dotp n p) ∧ ∀ q, p < q → q < n → cuts rs (dotp n q) = cuts ss (dotp n q)
theorem LeastAt.one {rs ss : List Rec} {n : Nat} {cs ds : List Nat} (a : LeastAt rs ss n cs) (b : LeastAt rs ss n ds) : cs = ds := by
  rcases a with ⟨rfl, a⟩ | ⟨p, hp, rfl, a0, a1, a2⟩
  · rcases b with ⟨rfl, _⟩ | ⟨q, _, _, b0, _⟩
    · rfl
    · exact absurd b0 a
  · rcases b with ⟨_, b⟩ | ⟨q, hq, rfl, b0, b1, b2⟩
    · exact absurd a0 b
    · rcases Nat.lt_trichotomy p q with h | h | h
      · exact absurd (a2 q h hq) b1
      · rw [h]
      · exact absurd (b2 p h hp) a1
theorem LeastAt.len {rs ss : List Rec} {n : Nat} {cs : List Nat} (a : LeastAt rs ss n cs) : cs.length = n := by
  rcases a with ⟨rfl, _⟩ | ⟨p, hp, rfl, _⟩
  · exact dots_len n
  · exact dotp_len hp
theorem LeastAt.ne {rs ss : List Rec} {n : Nat} {cs : List Nat} (a : LeastAt rs ss n cs) : cuts rs cs ≠ cuts ss cs := by
  rcases a with ⟨rfl, h⟩ | ⟨p, hp, rfl, _, h, _⟩ <;> exact h
theorem LeastAt.sg {rs ss : List Rec} {n : Nat} {cs : List Nat} (a : LeastAt rs ss n cs) : Signs cs := by
  have d : 46 ∈ signs.cps.toList := by decide +kernel
  have z : 48 ∈ signs.cps.toList := by decide +kernel
  rcases a with ⟨rfl, _⟩ | ⟨p, hp, rfl, _⟩
  · intro c hc
    rw [(List.mem_replicate.mp hc).2]
    exact d
  · intro c hc
    rcases List.mem_append.mp hc with hc | hc
    · rw [(List.mem_replicate.mp hc).2]
      exact d
    · rcases List.mem_cons.mp hc with rfl | hc
      · exact z
      · rw [(List.mem_replicate.mp hc).2]
        exact d
theorem LeastAt.symm {rs ss : List Rec} {n : Nat} {cs : List Nat} (a : LeastAt rs ss n cs) : LeastAt ss rs n cs := by
  rcases a with ⟨rfl, h⟩ | ⟨p, hp, rfl, a0, a1, a2⟩
  · exact .inl ⟨rfl, fun e => h e.symm⟩
  · exact .inr ⟨p, hp, rfl, a0.symm, fun e => a1 e.symm, fun q h1 h2 => (a2 q h1 h2).symm⟩
section
variable {rs ss : List Rec} (hr : ∀ r ∈ rs, r.fit) (hs : ∀ r ∈ ss, r.fit) {n : Nat}
include hr hs
theorem dots_iff : cuts rs (dots n) = cuts ss (dots n) ↔ (planV rs n).map (fill (dots n)) = (planV ss n).map (fill (dots n)) := by
  have := shown_iff rs ss (dots n)
  rw [dots_len] at this
  exact this
theorem dotp_iff {p : Nat} (hp : p < n) : cuts rs (dotp n p) = cuts ss (dotp n p) ↔ (planV rs n).map (fill (dotp n p)) = (planV ss n).map (fill (dotp n p)) := by
  have := shown_iff rs ss (dotp n p)
  rw [dotp_len hp] at this
  exact this
/-- the last place that differs tells it -/
theorem least_last (e0 : cuts rs (dots n) = cuts ss (dots n)) {m : Int} (h : Top m (dpl (planV rs n) (planV ss n))) : ∃ p : Nat, m = (p : Int) ∧ p < n ∧ LeastAt rs ss n (dotp n p) := by
  have px : ∀ x ∈ planV rs n, Plain n x := plan_plain hr
  have py : ∀ y ∈ planV ss n, Plain n y := plan_plain hs
  have f0 := (dots_iff hr hs).mp e0
  obtain ⟨j, x, y, hx, hy, ne, h1⟩ := mem_dpl.mp h.1
  obtain ⟨p, rfl, hp⟩ : ∃ p : Nat, m = (p : Int) ∧ p < n := by
    have a : Plain n (.int m) := by
      rcases h1 with rfl | rfl
      · exact px _ (List.mem_of_getElem? hx)
      · exact py _ (List.mem_of_getElem? hy)
    rcases a with ⟨i, e, i0, i1⟩ | ⟨c, e, _⟩
    · cases e
      exact ⟨m.toNat, by omega, by omega⟩
    · cases e
  refine ⟨p, rfl, hp, .inr ⟨p, hp, rfl, e0, fun e => is_diff px py f0 hp ⟨j, x, y, hx, hy, ne, h1⟩ ((dotp_iff hr hs hp).mp e), fun q h2 h3 => (dotp_iff hr hs h3).mpr (not_diff px py f0 h3 fun ⟨i, u, v, hu, hv, nuv, hh⟩ => ?_)⟩⟩
  have := h.2 (q : Int) (mem_dpl.mpr ⟨i, u, v, hu, hv, nuv, hh⟩)
  omega
theorem dpl_some (e0 : cuts rs (dots n) = cuts ss (dots n)) (ne : planV rs n ≠ planV ss n) : dpl (planV rs n) (planV ss n) ≠ [] := by
  obtain ⟨p, hp, i, x, y, hx, hy, h⟩ := some_diff (plan_plain hr) (plan_plain hs) ((dots_iff hr hs).mp e0) ne
  intro e
  have : (p : Int) ∈ dpl (planV rs n) (planV ss n) := mem_dpl.mpr ⟨i, x, y, hx, hy, h⟩
  rw [e] at this
  cases this
/-- rows whose plans are the same show the same -/
theorem plan_show {cs : List Nat} (h : planV rs cs.length = planV ss cs.length) : cuts rs cs = cuts ss cs := (shown_iff rs ss cs).mpr (by rw [h])
end
/-- the first length at which the plans differ -/
structure First (rs ss : List Rec) (n : Nat) : Prop where
  ne : planV rs n ≠ planV ss n
  eq : ∀ m, m < n → planV rs m = planV ss m
theorem First.one {rs ss : List Rec} {n m : Nat} (a : First rs ss n) (b : First rs ss m) : n = m := by
  rcases Nat.lt_trichotomy n m with h | h | h
  · exact absurd (b.eq n h) a.ne
  · exact h
  · exact absurd (a.eq m h) b.ne
theorem First.symm {rs ss : List Rec} {n : Nat} (a : First rs ss n) : First ss rs n := ⟨fun e => a.ne e.symm, fun m h => (a.eq m h).symm⟩
/-- what is told of two rows -/
def Told (rs ss : List Rec) (v : V) : Prop := (v = .non ∧ ∀ n, planV rs n = planV ss n) ∨ ∃ n y, v = .str y ∧ n ≤ 80 ∧ First rs ss n ∧ LeastAt rs ss n y.cps.toList
theorem Told.one {rs ss : List Rec} {u v : V} (a : Told rs ss u) (b : Told rs ss v) : u = v := by
  rcases a with ⟨rfl, a⟩ | ⟨n, y, rfl, _, a, a1⟩
  · rcases b with ⟨rfl, _⟩ | ⟨m, z, _, _, b, _⟩
    · rfl
    · exact absurd (a m) b.ne
  · rcases b with ⟨_, b⟩ | ⟨m, z, rfl, _, b, b1⟩
    · exact absurd (b n) a.ne
    · cases a.one b
      rw [str_ext (a1.one b1)]
theorem Told.symm {rs ss : List Rec} {v : V} (a : Told rs ss v) : Told ss rs v := by
  rcases a with ⟨rfl, a⟩ | ⟨n, y, rfl, h, a, a1⟩
  · exact .inl ⟨rfl, fun n => (a n).symm⟩
  · exact .inr ⟨n, y, rfl, h, a.symm, a1.symm⟩
/-! signs of what is filled in -/
def fillN (cs : List Nat) : V → Nat
  | .int i => cs.getD i.toNat 0
  | .str z => z.cps.toList.getD 0 0
  | _ => 0
theorem fillN_one {n : Nat} {cs : List Nat} {x : V} (h : Plain n x) : fill cs x = .str (one (fillN cs x)) := by
  rcases h with ⟨i, rfl, _⟩ | ⟨c, rfl, _⟩
  · rfl
  · rfl
theorem fillN_map {n : Nat} {cs : List Nat} {xs : List V} (h : ∀ x ∈ xs, Plain n x) : xs.map (fill cs) = ones (xs.map (fillN cs)) := by
  unfold ones
  rw [List.map_map]
  exact List.map_congr_left fun x hx => fillN_one (h x hx)
end Gu
namespace Gu
open PySem PySem.Spec PyProof.Rows L2
theorem stF_same {K : PySem.W.Frag} {H G : Hp} {l : Addr} {xs : List V} (a : Same H G) (h : SqT K H l xs) : SqT K G l xs := by
  rcases h with (h | ⟨o, h⟩) | h
  · exact .inl (.inl (a _ _ h))
  · exact .inl (.inr ⟨o, a _ _ h⟩)
  · exact .inr h
theorem same_offF {H J : Hp} {M : Addr} {o : HO} (s : Same H J) (n : H M = none) : Same H (upd J M o) := fun b x e => by
  rw [upd_ne (ne_of_none e n)]
  exact s b x e
theorem takeF_next {α : Type} {qs : List α} {i : Nat} {q : α} (h : qs[i]? = some q) : qs.take (i + 1) = qs.take i ++ [q] := by
  rw [List.take_add_one, h]
  rfl
theorem RowAt.fits {C : Addr} {H : Hp} {a : Addr} {rs : List (Addr × Rec)} (h : RowAt C H a rs) : ∀ r ∈ rs.map (·.2), r.fit := fun r hr => by
  obtain ⟨q, hq, rfl⟩ := List.mem_map.mp hr
  exact (h.sh q hq).2
end Gu
namespace Gu
open PySem PySem.Spec PyProof.Rows L2
/-! text * int, however often -/
def rRepN : R2 := fun x y H Q => ∃ z k, x = .str z ∧ y = .int k ∧ 0 ≤ k ∧ k ≤ 1000 ∧ z.length ≤ 1000 ∧ ∀ y : Str, y.cps.toList = (List.replicate k.toNat z.cps.toList).flatten → Q (.str y) H
theorem fold_repN (z : Array Nat) : ∀ (k : Nat) (acc : Array Nat), ((List.replicate k z).foldl (· ++ ·) acc).toList = acc.toList ++ (List.replicate k z.toList).flatten
  | 0, acc => by simp
  | k + 1, acc => by
    rw [List.replicate_succ, List.foldl_cons, fold_repN z k, List.replicate_succ, List.flatten_cons, Array.toList_append, List.append_assoc]
theorem op_mul_strN {X : Cx} : OpR X (binaryOp .Mult) rRepN := by
  intro pins s σ H x y v u Q I rx ry h
  obtain ⟨z, k, rfl, rfl, k0, k1, z1, q⟩ := h
  obtain ⟨t, rfl⟩ := rx
  obtain ⟨t', rfl⟩ := ry
  refine PySem.P.mul_str ?_ (fun h1 _ => Int.not_lt.mpr ((Int.le_ediv_iff_mul_le (by omega)).mpr ?_)) (fun _ _ => decide_eq_false ?_) ?_
  · rw [Bool.or_eq_false_iff]
    exact ⟨decide_eq_false (by omega), decide_eq_false (by omega)⟩
  · have m1 : (z.length : Int) * k ≤ 1000 * 1000 := Int.mul_le_mul (by omega) k1 (by omega) (by omega)
    omega
  · have m2 : z.length * k.toNat ≤ 1000 * 1000 := Nat.mul_le_mul z1 (by omega)
    rw [sizeLine_eq]
    omega
  · split
    · next h1 =>
      refine ⟨by decide, .str Str.empty, H, I.tok _, ⟨_, rfl⟩, q _ ?_⟩
      rw [show k.toNat = 0 by omega]
      rfl
    · split
      · next h1 h2 =>
        refine ⟨.str z, H, I, ⟨_, rfl⟩, q _ ?_⟩
        rcases Bool.or_eq_true _ _ ▸ h2 with e | e
        · have e := eq_of_beq e
          rw [e]
          simp
        · have e : z.cps.toList.length = 0 := eq_of_beq e
          rw [List.eq_nil_of_length_eq_zero e]
          simp
      · have m2 : z.length * k.toNat ≤ 1000 * 1000 := Nat.mul_le_mul z1 (by omega)
        have e : ((List.replicate k.toNat z.cps).foldl (· ++ ·) #[]).toList = (List.replicate k.toNat z.cps.toList).flatten := by
          rw [fold_repN]
          rfl
        refine ⟨?_, .str ⟨(List.replicate k.toNat z.cps).foldl (· ++ ·) #[]⟩, H, I.tok _, ⟨_, rfl⟩, q _ e⟩
        show ((List.replicate k.toNat z.cps).foldl (· ++ ·) #[]).size ≤ _
        rw [← Array.length_toList, e, PyProof.Rows.lm_len_rep_flat]
        show k.toNat * z.length ≤ sizeLine
        rw [Nat.mul_comm, sizeLine_eq]
        omega
/-- a call without arguments -/
theorem pe_own0 {X : Cx} {k j : Nat} {x : Str} {sp : Sp} {p pos : Pos} (c : Cal X.prog X.w X.K X.mg X.base k x [] sp) (hr : Room j X.A) (hk : k ≤ j) (hg : Gl X x) (hdb : (x == ("__debug__" : Str)) = false := by decide) : PE X (.Call (.Name x p) [] [] pos) (tCall sp [] E0 tNil) := by
  obtain ⟨f, fd, F, hm, kp, b, _⟩ := c.ex
  exact pe_call0 F (hr.mono hk) hg hm kp b .nil pass0 hdb
def rIsiK (K : PySem.W.Frag) : List V → Hp → VK → Prop := rIsi K
section
variable {P : Program} {w : World} {K : PySem.W.Frag} {mg : Str → Option Value} {base : Heap} {C : Addr}
theorem Isa.str_int {H : Hp} {z : Str} : Isa K H (.str z) "int" false := ⟨_, .base (.str z), kit_ty (by decide +kernel)⟩
/-! ### telling_lengths -/
def spTelling : Sp := fun vs H Q _ => vs = [] ∧ ∀ (T : Addr), H T = none → Q (.ref T) (upd H T (.lst (rgV 0 ((81 : Nat) : Int))))
theorem cal_telling (B : Bi mg) (D : At K mg "telling_lengths" s_telling_lengths ps_telling_lengths) : Cal P w K mg base 1 "telling_lengths" ps_telling_lengths spTelling := by
  refine D.cal sc_telling_lengths (fun vs H Q E h => ?_) (fun f cdv A outer s H vs Q E hr h => ?_)
  · obtain ⟨rfl, _⟩ := h
    rfl
  · obtain ⟨rfl, k⟩ := h
    refine ⟨_, (pss_one (ps_ret (pe_listRg (by rfl) (by rfl) B.list (prg_1 (by rfl) B.range (pe_op op_add (pe_op op_mul pe_int (pe_cst B.MOST_SIGNS (by rfl))) pe_int))))), ?_⟩
    exact ⟨_, _, rfl, rfl, .inl ⟨by decide, by decide⟩, _, _, rfl, rfl, _, rfl, RgOk.of_le (by decide) (by decide) (by decide) (by decide), fun T nT => k T nT⟩
/-! ### filled_in -/
def spFilled (K : PySem.W.Frag) : Sp := fun vs H Q _ => ∃ (a : Addr) (xs : List V) (z : Str), vs = [.ref a, .str z] ∧ SqT K H a xs ∧ (∀ x ∈ xs, Plain z.cps.toList.length x) ∧ xs.length ≤ 600 ∧ z.cps.toList.length ≤ 600 ∧ ∀ (y : Str) (G : Hp), Same H G → y.cps.toList = xs.map (fillN z.cps.toList) → Q (.str y) G
theorem cal_filled (B : Bi mg) (D : At K mg "filled_in" s_filled_in ps_filled_in) : Cal P w K mg base 1 "filled_in" ps_filled_in (spFilled K) := by
  refine D.cal sc_filled_in (fun vs H Q E h => ?_) (fun f cdv A outer s H vs Q E hr h => ?_)
  · obtain ⟨a, xs, z, rfl, _⟩ := h
    rfl
  · obtain ⟨a, xs, z, rfl, ha, hp, xl, zl, k⟩ := h
    refine ⟨_, (pss_one (ps_ret (pe_join pe_str (pe_lc (own := [("source", 2)]) (by rfl) sc_filled_in.nd (pi_tup (pv 0)) (blkOk_by (own := [("source", 2)]) (N := ["sources", "text", "source"]) (sc := defScope s_filled_in) (by decide +kernel)) (fun _ _ _ _ _ => pg_name (i := 2) sc_filled_in.nd rfl (.inl rfl)) (fun _ _ _ _ _ => pts_nil) (fun _ _ _ _ _ => (pe_mid (pe_ifExp (pt_val (pe_callB (id := "isinstance") (r := rIsi K) call_isi (by rfl) B.isinstance (by decide +kernel) (pa_cons (pv 2) (pa_cons (pe_bltn (v := .ty "int") (by rfl) B.int (by decide +kernel) rfl) pa_nil)))) (pe_ix ix_str (pv 1) (pv 2) (fun _ _ => rfl)) (pv 2)))))))), ?_⟩
    refine ⟨⟨_, rfl⟩, _, rfl, a, rfl, ⟨_, ha⟩, fun M nM => lc_tup (K := K) (a := a) (xs := xs) (fun i J => J M = some (.lst (ones ((xs.take i).map (fillN z.cps.toList)))) ∧ Same H J)
      ⟨upd_same, same_new nM⟩ (fun i J _ ⟨_, sJ⟩ => stF_same sJ ha) ?_ ?_⟩
    · rintro i x J hi ⟨eM, sJ⟩
      refine ⟨rfl, yes (iteT ⟨fun v J1 => v = .str (one (fillN z.cps.toList x)) ∧ J1 = J, ?_, ?_⟩)⟩
      · rcases hp x (List.mem_of_getElem? hi) with ⟨j, rfl, j0, j1⟩ | ⟨c, rfl, _⟩
        · obtain ⟨t, i1, i2⟩ := Isa.int_int (K := K) (H := J) (i := j)
          refine ⟨_, rfl, _, _, t, _, true, rfl, .ty _, i1, i2, _, rfl, iteT ?_⟩
          have jl : j.toNat < z.cps.toList.length := by omega
          refine ⟨_, rfl, _, rfl, z, j, z.cps.toList[j.toNat], rfl, rfl, Nat.le_of_lt (small1000 (by have e : z.length = z.cps.toList.length := rfl; omega)), at_of' (j := j.toNat) (by omega) (List.getElem?_eq_getElem jl), ?_, rfl⟩
          show V.str ⟨#[_]⟩ = V.str (one (z.cps.toList.getD j.toNat 0))
          rw [List.getD_eq_getElem?_getD, List.getElem?_eq_getElem jl]
          rfl
        · obtain ⟨t, i1, i2⟩ := Isa.str_int (K := K) (H := J) (z := one c)
          exact ⟨_, rfl, _, _, t, _, false, rfl, .ty _, i1, i2, _, rfl, iteF ⟨_, rfl, rfl, rfl⟩⟩
      · rintro _ _ ⟨rfl, rfl⟩
        refine ⟨_, eM, small1000 ?_, ?_, same_offF sJ nM⟩
        · unfold ones
          rw [List.length_map, List.length_map, List.length_take]
          omega
        · rw [upd_same, takeF_next hi, List.map_append]
          unfold ones
          rw [List.map_append]
          rfl
    · rintro J ⟨eM, sJ⟩
      rw [List.take_length, ones_map] at eM
      refine ⟨_, M, _, rfl, rfl, .inl (.inl (.inl eM)), ?_, k _ J sJ (tjoin_ones _)⟩
      rw [ones_len, List.length_map, List.length_map]
      have e0 : (("" : String) : Str).length = 0 := by decide +kernel
      rw [e0]
      omega
/-! ### differing_places -/
def spDiffP (K : PySem.W.Frag) : Sp := fun vs H Q _ => ∃ (a b : Addr) (xs ys : List V) (n : Nat), vs = [.ref a, .ref b] ∧ SqT K H a xs ∧ SqT K H b ys ∧ xs.length = ys.length ∧ xs.length ≤ 600 ∧ (∀ x ∈ xs, Plain n x) ∧ (∀ y ∈ ys, Plain n y) ∧ ∀ (p : Addr) (G : Hp), G p = some (.lst ((dpl xs ys).map V.int)) → Same H G → Q (.ref p) G
theorem scal_plain {n m : Nat} {x y : V} (hx : Plain n x) (hy : Plain m y) : scal x y = true := by
  rcases hx with ⟨i, rfl, _⟩ | ⟨c, rfl, _⟩ <;> rcases hy with ⟨j, rfl, _⟩ | ⟨d, rfl, _⟩ <;> rfl
theorem isI_len (x : V) : (isI x).length ≤ 1 := by
  cases x <;> simp [isI]
theorem dpl_len : ∀ xs ys : List V, (dpl xs ys).length ≤ 2 * xs.length
  | [], _ => Nat.le_refl _
  | _ :: _, [] => Nat.zero_le _
  | x :: xs, y :: ys => by
    have a := isI_len x
    have b := isI_len y
    have c := dpl_len xs ys
    show ((if x = y then [] else isI x ++ isI y) ++ dpl xs ys).length ≤ 2 * (xs.length + 1)
    rw [List.length_append]
    split
    · rw [List.length_nil]
      omega
    · rw [List.length_append]
      omega
theorem cal_diffP (B : Bi mg) (D : At K mg "differing_places" s_differing_places ps_differing_places) : Cal P w K mg base 1 "differing_places" ps_differing_places (spDiffP K) := by
  refine D.cal sc_differing_places (fun vs H Q E h => ?_) (fun f cdv A outer s H vs Q E hr h => ?_)
  · obtain ⟨a, b, xs, ys, n, rfl, _⟩ := h
    rfl
  · obtain ⟨a, b, xs, ys, n, rfl, ha, hb, el, xl, px, py, k⟩ := h
    refine ⟨_, (pss_cons (ps_set (i := 2) sc_differing_places.nd rfl (.inl rfl) (pe_lst pa_nil))
      (pss_cons (ps_for PassesOwn.never rfl (RZ.pi_zipA (by rfl) B.zip (pa_cons (pv 0) (pa_cons (pv 1) pa_nil))) (pg_tup rfl (pgs_cons (pg_name (i := 3) sc_differing_places.nd rfl (.inl rfl)) (pgs_cons (pg_name (i := 4) sc_differing_places.nd rfl (.inl rfl)) pgs_nil)))
      (pss_one (ps_if (pt_cmpR op_ne (pv 3) (pv 4) (nomark _)) (pss_one (ps_expr (pe_bm PySem.F.plainAttrs_list PySem.F.slot_list_extend PySem.F.type_list_extend mt_extend (pv 2) (pa_cons (pe_lc (own := [("place", 5)]) (by rfl) sc_differing_places.nd (pi_tup (pe_tup (pa_cons (pv 3) (pa_cons (pv 4) pa_nil)))) (blkOk_by (own := [("place", 5)]) (N := ["sources", "others", "places", "source", "other", "place"]) (sc := defScope s_differing_places) (by decide +kernel)) (fun _ _ _ _ _ => pg_name (i := 5) sc_differing_places.nd rfl (.inl rfl)) (fun _ _ _ _ _ => (pts_one (pt_val (pe_callB (id := "isinstance") (r := rIsi K) call_isi (by rfl) B.isinstance (by decide +kernel) (pa_cons (pv 5) (pa_cons (pe_bltn (v := .ty "int") (by rfl) B.int (by decide +kernel) rfl) pa_nil)))))) (fun _ _ _ _ _ => (pv 5))) pa_nil)))) pss_nil)))
      (pss_one (ps_ret (pv 2))))), ?_⟩
    refine ⟨Nat.zero_le _, fun g ng => ?_⟩
    have s0 : Same H (upd H g (.lst [])) := same_new ng
    refine ⟨_, rfl, _, rfl, a, b, xs, ys, rfl, .inr ⟨stF_same s0 ha, stF_same s0 hb, RZ.for_zipT (K := K) (xs := xs) (ys := ys) el (fun i σ J => ∃ u v z, σ = [some (.ref a), some (.ref b), some (.ref g), u, v, z] ∧ J g = some (.lst ((dpl (xs.take i) (ys.take i)).map V.int)) ∧ Same H J)
      ⟨none, none, none, rfl, upd_same, s0⟩ (fun i σ J ⟨_, _, _, _, _, sJ⟩ => ⟨stF_same sJ ha, stF_same sJ hb⟩) ?_ ?_⟩⟩
    · rintro i x y T σ J hx hy ⟨u, v, z, rfl, eg, sJ⟩ nT
      have qx := px x (List.mem_of_getElem? hx)
      have qy := py y (List.mem_of_getElem? hy)
      have sT : Same J (upd J T (.tup [x, y])) := same_new nT
      have il : i < xs.length := (List.getElem?_eq_some_iff.mp hx).1
      have next : dpl (xs.take (i + 1)) (ys.take (i + 1)) = dpl (xs.take i) (ys.take i) ++ (if x = y then [] else isI x ++ isI y) := by
        rw [takeF_next hx, takeF_next hy, dpl_snoc x y (by rw [List.length_take, List.length_take]; omega)]
      refine ⟨T, _, rfl, .inl (.inl upd_same), rfl, _, _, rfl, _, _, rfl, rfl, ?_⟩
      refine ⟨_, rfl, _, rfl, scal_plain qx qy, _, rfl, ?_⟩
      by_cases e : x = y
      · rw [decide_eq_true e]
        refine iteF ⟨_, _, _, rfl, ?_, sJ.trans sT⟩
        rw [next, if_pos e, List.append_nil]
        exact sT _ _ eg
      · rw [decide_eq_false e]
        refine iteT ⟨_, rfl, .inl ⟨rfl, _, .inl (.inl (sT _ _ eg))⟩, ?_⟩
        refine ⟨_, rfl, _, rfl, by show 2 ≤ sizeLine; decide, fun T2 nT2 => ?_⟩
        have sT2 : Same J (upd (upd J T (.tup [x, y])) T2 (.tup [x, y])) := sT.trans (same_new nT2)
        have eT2 : upd (upd J T (.tup [x, y])) T2 (.tup [x, y]) T2 = some (.tup [x, y]) := upd_same
        generalize upd (upd J T (.tup [x, y])) T2 (.tup [x, y]) = H2 at sT2 eT2
        refine ⟨T2, rfl, ⟨_, .inl (.inl eT2)⟩, fun M nM => lc_tup (K := K) (a := T2) (xs := [x, y]) (fun i J1 => J1 M = some (.lst ((([x, y].take i).map isI).flatten.map V.int)) ∧ Same H2 J1)
          ⟨upd_same, same_new nM⟩ (fun i J1 _ ⟨_, s1⟩ => .inl (.inl (s1 _ _ eT2))) ?_ ?_⟩
        · rintro i3 v3 J3 hi3 ⟨eM, s3⟩
          have mv : Plain n v3 := by
            have := List.mem_of_getElem? hi3
            simp only [List.mem_cons, List.not_mem_nil, or_false] at this
            rcases this with rfl | rfl
            · exact qx
            · exact qy
          have i2 : i3 < 2 := (List.getElem?_eq_some_iff.mp hi3).1
          have nx : ((([x, y].take (i3 + 1)).map isI).flatten.map V.int) = ((([x, y].take i3).map isI).flatten.map V.int) ++ (isI v3).map V.int := by
            rw [takeF_next hi3, List.map_append, List.flatten_append, List.map_append]
            show _ ++ List.map V.int (isI v3 ++ []) = _
            rw [List.append_nil]
          rcases mv with ⟨j, rfl, j0, j1⟩ | ⟨c, rfl, _⟩
          · obtain ⟨t, i1, i2'⟩ := Isa.int_int (K := K) (H := J3) (i := j)
            refine ⟨rfl, _, rfl, _, _, t, _, true, rfl, .ty _, i1, i2', _, rfl, iteT ⟨_, rfl, _, eM, small1000 ?_, ?_, same_offF s3 nM⟩⟩
            · rw [List.length_map]
              have a1 := isI_len x
              have a2 := isI_len y
              have : (([x, y].take i3).map isI).flatten.length ≤ 2 := by
                match i3, i2 with
                | 0, _ => exact Nat.zero_le _
                | 1, _ =>
                  show (isI x ++ []).length ≤ 2
                  rw [List.append_nil]
                  omega
              omega
            · rw [upd_same, nx]
              rfl
          · obtain ⟨t, i1, i2'⟩ := Isa.str_int (K := K) (H := J3) (z := one c)
            refine ⟨rfl, _, rfl, _, _, t, _, false, rfl, .ty _, i1, i2', _, rfl, iteF ⟨?_, s3⟩⟩
            rw [nx]
            show _ = some (HO.lst (_ ++ []))
            rw [List.append_nil]
            exact eM
        · rintro J3 ⟨eM, s3⟩
          have e4 : (([x, y].take [x, y].length).map isI).flatten = isI x ++ isI y := by
            show isI x ++ (isI y ++ []) = _
            rw [List.append_nil]
          rw [e4] at eM
          have gg := s3 _ _ (sT2 _ _ eg)
          have a1 := isI_len x
          have a2 := isI_len y
          have a3 := dpl_len (xs.take i) (ys.take i)
          refine ⟨g, M, _, _, rfl, rfl, gg, eM, ?_, ?_⟩
          · rw [List.length_map, List.length_map, List.length_append]
            rw [List.length_take] at a3
            exact Nat.le_of_lt (Nat.lt_of_le_of_lt (show _ ≤ 2000 by omega) (by decide))
          · refine ⟨_, _, _, rfl, ?_, same_offF (sJ.trans (sT2.trans s3)) ng⟩
            rw [upd_same, next, if_neg e]
            simp only [List.map_append]
    · rintro σ J ⟨u, v, z, rfl, eg, sJ⟩
      rw [List.take_length, el, List.take_length] at eg
      exact ⟨_, rfl, k g J eg sJ⟩
/-! ### least_difference -/
def spLeastD (K : PySem.W.Frag) : Sp := fun vs H Q _ => ∃ (a b : Addr) (rs ss : List Rec) (n : Nat), vs = [.ref a, .ref b, .int (n : Int)] ∧ SqT K H a (planV rs n) ∧ SqT K H b (planV ss n) ∧ (∀ r ∈ rs, r.fit) ∧ (∀ r ∈ ss, r.fit) ∧ n ≤ 80 ∧ planV rs n ≠ planV ss n ∧ ∀ (y : Str) (G : Hp), Same H G → LeastAt rs ss n y.cps.toList → Q (.str y) G
theorem plan_len {rs : List Rec} (hf : ∀ r ∈ rs, r.fit) {n : Nat} (hn : n ≤ 500) : (planV rs n).length ≤ 500 := by
  unfold planV
  rw [cutsV_length, rg_len]
  exact lens_le rs hf hn
theorem rep_dot {z y : Str} (hz : z.cps.toList = [46]) {k : Nat} (e : y.cps.toList = (List.replicate k z.cps.toList).flatten) : y.cps.toList = List.replicate k 46 := by
  rw [e, hz]
  clear e
  induction k with
  | zero => rfl
  | succ k ih => rw [List.replicate_succ, List.flatten_cons, ih]; rfl
def spRaised : Sp := fun vs H Q _ => ∃ (n i : Nat), vs = [.int (n : Int), .int (i : Int)] ∧ i < n ∧ n ≤ 500 ∧ ∀ y : Str, y.cps.toList = List.replicate i 46 ++ 48 :: List.replicate (n - i - 1) 46 → Q (.str y) H
theorem cal_raised (B : Bi mg) (D : At K mg "least_raised_at" s_least_raised_at ps_least_raised_at) : Cal P w K mg base 1 "least_raised_at" ps_least_raised_at spRaised := by
  refine D.cal sc_least_raised_at (fun vs H Q E h => ?_) (fun f cdv A outer s H vs Q E hr h => ?_)
  · obtain ⟨n, i, rfl, _⟩ := h
    rfl
  · obtain ⟨n, i, rfl, hi, n5, k⟩ := h
    have s0 : atI signs.cps.toList 0 = some 46 := by decide +kernel
    have s1 : atI signs.cps.toList 1 = some 48 := by decide +kernel
    refine ⟨_, (pss_one (ps_ret (pe_op op_add_str (pe_op op_add_str (pe_op op_mul_strN (pe_ix ix_str (pe_cst B.SIGNS (by rfl)) pe_int (fun _ _ => rfl)) (pv 1)) (pe_ix ix_str (pe_cst B.SIGNS (by rfl)) pe_int (fun _ _ => rfl))) (pe_op op_mul_strN (pe_ix ix_str (pe_cst B.SIGNS (by rfl)) pe_int (fun _ _ => rfl)) (pe_op op_sub (pe_op op_sub (pv 0) (pv 1)) pe_int))))), ?_⟩
    refine ⟨signs, 0, 46, rfl, rfl, by decide +kernel, s0, _, rfl, one 46, _, rfl, rfl, by omega, by omega, by decide, fun y1 e1 => ?_⟩
    have e1 : y1.cps.toList = List.replicate i 46 := rep_dot (z := one 46) rfl (by rw [Int.toNat_natCast] at e1; exact e1)
    have l1 : y1.length = i := by
      show y1.cps.toList.length = i
      rw [e1, List.length_replicate]
    refine ⟨signs, 1, 48, rfl, rfl, by decide +kernel, s1, _, _, rfl, rfl, Nat.le_of_lt (small1000 (by show y1.length + 1 ≤ 1000; omega)), ?_⟩
    refine ⟨signs, 0, 46, rfl, rfl, by decide +kernel, s0, _, rfl, _, rfl, _, _, rfl, rfl, _, _, rfl, rfl, one 46, _, rfl, rfl, by omega, by omega, by decide, fun y2 e2 => ?_⟩
    have e2 : y2.cps.toList = List.replicate (n - i - 1) 46 := rep_dot (z := one 46) rfl (by rw [e2]; congr 2; omega)
    have l2 : y2.length = n - i - 1 := by
      show y2.cps.toList.length = _
      rw [e2, List.length_replicate]
    refine ⟨_, _, rfl, rfl, ?_, k _ ?_⟩
    · have l3 : (y1 ++ (one 48)).length = i + 1 := by
        show (y1 ++ (one 48)).cps.toList.length = _
        rw [app_cps, List.length_append, e1, List.length_replicate]
        rfl
      exact Nat.le_of_lt (small1000 (by show (y1 ++ (one 48)).length + y2.length ≤ 1000; omega))
    · rw [app_cps, app_cps, e1, e2]
      show List.replicate i 46 ++ [48] ++ List.replicate (n - i - 1) 46 = _
      rw [List.append_assoc]
      rfl
theorem cal_leastD (B : Bi mg) (D : At K mg "least_difference" s_least_difference ps_least_difference) (C_filled_in : Cal P w K mg base 1 "filled_in" ps_filled_in (spFilled K)) (C_differing_places : Cal P w K mg base 1 "differing_places" ps_differing_places (spDiffP K)) (C_least_raised_at : Cal P w K mg base 1 "least_raised_at" ps_least_raised_at spRaised) : Cal P w K mg base 2 "least_difference" ps_least_difference (spLeastD K) := by
  refine D.cal sc_least_difference (fun vs H Q E h => ?_) (fun f cdv A outer s H vs Q E hr h => ?_)
  · obtain ⟨a, b, rs, ss, n, rfl, _⟩ := h
    rfl
  · obtain ⟨a, b, rs, ss, n, rfl, ha, hb, hr1, hs1, n80, ne, k⟩ := h
    have px : ∀ x ∈ planV rs n, Plain n x := plan_plain hr1
    have py : ∀ y ∈ planV ss n, Plain n y := plan_plain hs1
    have lx := plan_len hr1 (n := n) (by omega)
    have ly := plan_len hs1 (n := n) (by omega)
    have sl : (Str.length signs) = 38 := by decide +kernel
    have s0 : atI signs.cps.toList 0 = some 46 := by decide +kernel
    refine ⟨_, (pss_cons (ps_set (i := 3) sc_least_difference.nd rfl (.inl rfl) (pe_op op_mul_strN (pe_ix ix_str (pe_cst B.SIGNS (by rfl)) pe_int (fun _ _ => rfl)) (pv 2)))
      (pss_cons (ps_if (pt_cmpR op_ne (pe_own C_filled_in hr (by decide) (by rfl) (pa_cons (pv 0) (pa_cons (pv 3) pa_nil))) (pe_own C_filled_in hr (by decide) (by rfl) (pa_cons (pv 1) (pa_cons (pv 3) pa_nil))) (nomark _)) (pss_one (ps_ret (pv 3))) pss_nil)
      (pss_one (ps_ret (pe_own C_least_raised_at hr (by decide) (by rfl) (pa_cons (pv 2) (pa_cons (pe_callB (cr_max rfl) (by rfl) B.max (by decide +kernel) (pa_cons (pe_own C_differing_places hr (by decide) (by rfl) (pa_cons (pv 0) (pa_cons (pv 1) pa_nil))) pa_nil)) pa_nil))))))), ?_⟩
    refine ⟨signs, 0, 46, rfl, rfl, by decide +kernel, s0, _, rfl, one 46, _, rfl, rfl, by omega, by omega, by decide, fun y0 e0 => ?_⟩
    have e0 : y0.cps.toList = dots n := rep_dot (z := one 46) rfl (by rw [Int.toNat_natCast] at e0; exact e0)
    have l0 : y0.cps.toList.length = n := by rw [e0, dots_len]
    refine ⟨_, rfl, _, rfl, a, _, y0, rfl, ha, by rw [l0]; exact px, by omega, by omega, fun t1 G1 q1 f1 => ?_⟩
    refine ⟨_, rfl, _, rfl, b, _, y0, rfl, stF_same q1 hb, by rw [l0]; exact py, by omega, by omega, fun t2 G2 q2 f2 => ?_⟩
    rw [e0] at f1 f2
    have eq : t1 = t2 ↔ cuts rs (dots n) = cuts ss (dots n) := by
      rw [dots_iff hr1 hs1, fillN_map px, fillN_map py]
      constructor
      · intro h
        rw [h] at f1
        rw [← f1, ← f2]
      · intro h
        exact str_ext (by rw [f1, f2]; exact ones_inj h)
    refine ⟨rfl, _, rfl, ?_⟩
    by_cases h : cuts rs (dots n) = cuts ss (dots n)
    · rw [decide_eq_true (show V.str t1 = V.str t2 by rw [eq.mpr h])]
      refine iteF ?_
      have el : (planV rs n).length = (planV ss n).length := by
        have := congrArg List.length ((dots_iff hr1 hs1).mp h)
        rw [List.length_map, List.length_map] at this
        exact this
      refine ⟨_, rfl, _, rfl, _, rfl, a, b, _, _, n, rfl, stF_same (q1.trans q2) ha, stF_same (q1.trans q2) hb, el, by omega, px, py, fun p G3 e3 q3 => ?_⟩
      refine ⟨p, _, rfl, .inl (.inl e3), List.length_pos_iff.mpr (dpl_some hr1 hs1 h ne), fun m hm hle => ?_⟩
      obtain ⟨i, rfl, hi, L⟩ := least_last hr1 hs1 h ⟨hm, hle⟩
      refine ⟨n, i, rfl, hi, by omega, fun y ey => k y G3 (q1.trans (q2.trans q3)) ?_⟩
      rw [ey]
      exact L
    · rw [decide_eq_false (fun q => h (eq.mp (V.str.inj q)))]
      refine iteT ⟨_, rfl, k y0 G2 (q1.trans q2) ?_⟩
      rw [e0]
      exact .inl ⟨rfl, h⟩
end
end Gu
namespace Gu
open PySem PySem.Spec PyProof.Rows L2
def spRight : Sp := fun vs H Q _ => ∃ (p : Addr), vs = [.ref p] ∧ Pot H p ∧ ∀ G, Ladled p H G → Q (.bl true) G
end Gu
namespace Gu
open PySem PySem.Spec PyProof.Rows L2
/-! ### answers written out -/
/-- None, a bool, or a short text of signs -/
inductive Ans : V → Prop
  | non : Ans .non
  | bl (b : Bool) : Ans (.bl b)
  | str {y : Str} (l : y.cps.toList.length ≤ 500) (s : Signs y.cps.toList) : Ans (.str y)
def adat : V → PyData
  | .bl b => .bool b
  | .str y => .str y
  | _ => .none
theorem Ans.dp {K : PySem.W.Frag} {H : Hp} {v : V} (h : Ans v) : Dp K H v (adat v) := by
  cases h with
  | non => exact .non
  | bl b => exact .bl b
  | str l s => exact .str _
theorem Ans.fine {v : V} (h : Ans v) : Fine 0 500 (adat v) := by
  cases h with
  | non => exact Fine.none.mono (Nat.le_refl _) (by decide)
  | bl b => exact (Fine.bool b).mono (Nat.le_refl _) (by decide)
  | str l s =>
    have a : ∀ c ∈ signs.cps.toList, c < 16 ^ 8 := by decide +kernel
    exact Fine.str (fun c hc => a c (s c hc)) l
theorem ans_all {K : PySem.W.Frag} {H : Hp} : ∀ {vs : List V}, (∀ v ∈ vs, Ans v) → DpAll K H vs (vs.map adat)
  | [], _ => .nil
  | v :: vs, h => .cons (h v (List.mem_cons_self ..)).dp (ans_all fun u hu => h u (List.mem_cons_of_mem _ hu))
theorem ans_fine {vs : List V} (l : vs.length ≤ 100) (h : ∀ v ∈ vs, Ans v) : Fine 60 100000 (.list (vs.map adat)) := by
  have a : FineAll 0 500 (vs.map adat) := .of fun d hd => by
    obtain ⟨v, hv, rfl⟩ := List.mem_map.mp hd
    exact (h v hv).fine
  refine a.list.mono (by decide) ?_
  rw [List.length_map]
  have := Nat.mul_le_mul_right (500 + 1) l
  omega
theorem Told.ans {rs ss : List Rec} {v : V} (h : Told rs ss v) : Ans v := by
  rcases h with ⟨rfl, _⟩ | ⟨n, y, rfl, hn, _, L⟩
  · exact .non
  · exact .str (by rw [L.len]; omega) L.sg
theorem Told.self {rs : List Rec} {v : V} (h : Told rs rs v) : v = .non := by
  rcases h with ⟨rfl, _⟩ | ⟨n, y, rfl, _, f, _⟩
  · rfl
  · exact absurd rfl f.ne
end Gu
namespace Gu
open PySem PySem.Spec PyProof.Rows L2
/-! ### (number, text) < (number, text) -/
def pairLt (m n : Int) (y z : Str) : Bool := if (m == n) = true then (if (y == z) = true then false else decide (y.cps.toList < z.cps.toList)) else decide (m < n)
def rLtP (K : PySem.W.Frag) : R2 := fun x y H Q => ∃ (a b : Addr) (m n : Int) (u v : Str), x = .ref a ∧ y = .ref b ∧ SqT K H a [.int m, .str u] ∧ SqT K H b [.int n, .str v] ∧ Q (.bl (pairLt m n u v)) H
theorem op_ltP {X : Cx} (hu : X.A.units < cLine) : OpR X (compareOp .Lt) (rLtP X.K) := by
  intro pins s σ H x y v u Q I rx ry h
  obtain ⟨a, b, m, n, y1, z1, rfl, rfl, ha, hb, q⟩ := h
  cases rx
  cases ry
  obtain ⟨its, r1, p1, _⟩ := I.tuple ha
  obtain ⟨its2, r2, p2, _⟩ := I.tuple hb
  cases r1 with
  | cons a1 r1 =>
    cases r1 with
    | cons a2 r1 =>
      cases r1
      cases r2 with
      | cons b1 r2 =>
        cases r2 with
        | cons b2 r2 =>
          cases r2
          obtain ⟨t1, rfl⟩ := a1
          obtain ⟨t2, rfl⟩ := a2
          obtain ⟨t3, rfl⟩ := b1
          obtain ⟨t4, rfl⟩ := b2
          have R := Ob.RcOp.tuples_lt (A := X.A) (s := s) (e := fun j => if j = 0 then (m == n) else (y1 == z1)) (r := fun j => if j = 0 then decide (m < n) else decide (y1.cps.toList < z1.cps.toList)) p1 p2 hu (fun j h1 h2 => by
            match j, h1, h2 with
            | 0, _, _ => exact SeqAt.EqAt.int_int _ _ _ _
            | 1, _, _ => exact SeqAt.EqAt.str_str _ _ _ _) (fun j h1 h2 _ => by
            match j, h1, h2 with
            | 0, _, _ => exact Ob.RcOp.lt_int _ _ _ _
            | 1, _, _ => exact fun _ _ _ _ h => PyProof.Rows.lt_str h)
          have e : Ob.lexAt (fun j => if j = 0 then (m == n) else (y1 == z1)) (fun j => if j = 0 then decide (m < n) else decide (y1.cps.toList < z1.cps.toList)) (decide ((#[Value.int m t1, Value.str y1 t2] : Array Value).size < (#[Value.int n t3, Value.str z1 t4] : Array Value).size)) 0 2 = pairLt m n y1 z1 := by
            rw [Ob.lexAt_succ, Ob.lexAt_succ, Ob.lexAt_zero]
            rfl
          exact R X.prog X.w X.xe (EP X pins σ Q) (by
            show EP X pins σ Q (.bool (Ob.lexAt _ _ _ 0 2)) s
            rw [e]
            exact ⟨.bl _, H, I, rfl, q⟩)
theorem pairLt_iff {m n : Int} {y z : Str} (h : pairLt m n y z = true) : m < n ∨ (m = n ∧ y.cps.toList < z.cps.toList) := by
  unfold pairLt at h
  split at h
  · next e =>
    split at h
    · cases h
    · exact .inr ⟨eq_of_beq e, of_decide_eq_true h⟩
  · exact .inl (of_decide_eq_true h)
/-! ### smaller texts are shown alike -/
theorem sign_low {c : Nat} (h : c ∈ signs.cps.toList) : c = 46 ∨ 48 ≤ c := by
  have a : ∀ c ∈ signs.cps.toList, c = 46 ∨ 48 ≤ c := by decide +kernel
  exact a c h
theorem not_dots : ∀ (n : Nat) (ds : List Nat), Signs ds → ds.length = n → ¬ ds < List.replicate n 46
  | 0, ds, _, l, h => by
    rw [List.eq_nil_of_length_eq_zero l] at h
    exact absurd h (by decide)
  | n + 1, [], _, l, _ => by cases l
  | n + 1, d :: ds, sd, l, h => by
    rw [List.replicate_succ, List.cons_lt_cons_iff] at h
    have a := sign_low (sd d (List.mem_cons_self ..))
    rcases h with h | ⟨_, h⟩
    · omega
    · exact not_dots n ds (fun c hc => sd c (List.mem_cons_of_mem _ hc)) (by simpa using l) h
theorem low_dotp : ∀ (p k : Nat) (ds : List Nat), Signs ds → ds.length = p + 1 + k → ds < List.replicate p 46 ++ 48 :: List.replicate k 46 → ∀ i, i ≤ p → ds[i]? = some 46
  | 0, k, [], _, l, _, _, _ => by
    rw [List.length_nil] at l
    omega
  | 0, k, d :: ds, sd, l, h, i, hi => by
    have a := sign_low (sd d (List.mem_cons_self ..))
    have h : d :: ds < 48 :: List.replicate k 46 := h
    rw [List.cons_lt_cons_iff] at h
    rcases h with h | ⟨_, h⟩
    · rw [show i = 0 by omega, show d = 46 by omega]
      rfl
    · exact absurd h (not_dots k ds (fun c hc => sd c (List.mem_cons_of_mem _ hc)) (by rw [List.length_cons] at l; omega))
  | p + 1, k, [], _, l, _, _, _ => by
    rw [List.length_nil] at l
    omega
  | p + 1, k, d :: ds, sd, l, h, i, hi => by
    have a := sign_low (sd d (List.mem_cons_self ..))
    rw [List.replicate_succ, List.cons_append, List.cons_lt_cons_iff] at h
    rcases h with h | ⟨rfl, h⟩
    · omega
    · cases i with
      | zero => rfl
      | succ i =>
        rw [List.getElem?_cons_succ]
        exact low_dotp p k ds (fun c hc => sd c (List.mem_cons_of_mem _ hc)) (by rw [List.length_cons] at l; omega) h i (by omega)
theorem smaller_same {rs ss : List Rec} (hr : ∀ r ∈ rs, r.fit) (hs : ∀ r ∈ ss, r.fit) {n : Nat} {cs ds : List Nat} (L : LeastAt rs ss n cs) (dl : ds.length = n) (sd : Signs ds) (lt : ds < cs) : cuts rs ds = cuts ss ds := by
  rcases L with ⟨rfl, _⟩ | ⟨p, hp, rfl, e0, _, high⟩
  · exact absurd lt (not_dots n ds sd dl)
  · have low := low_dotp p (n - p - 1) ds sd (by omega) lt
    have px : ∀ x ∈ planV rs n, Plain n x := plan_plain hr
    have py : ∀ y ∈ planV ss n, Plain n y := plan_plain hs
    have f0 := (dots_iff hr hs).mp e0
    have el : (planV rs n).length = (planV ss n).length := by
      have := congrArg List.length f0
      rw [List.length_map, List.length_map] at this
      exact this
    have few : ∀ q : Nat, q < n → Diff (planV rs n) (planV ss n) q → q ≤ p := fun q hq d => Decidable.byContradiction fun z => is_diff px py f0 hq d ((dotp_iff hr hs hq).mp (high q (by omega) hq))
    have at46 : ∀ i : Int, 0 ≤ i → i.toNat ≤ p → fill ds (.int i) = fill (dots n) (.int i) := fun i i0 ip => by
      show V.str (one _) = V.str (one _)
      rw [dots_at (by omega), List.getD_eq_getElem?_getD, low i.toNat ip]
      rfl
    rw [shown_iff, dl]
    refine List.ext_getElem? fun i => ?_
    rw [List.getElem?_map, List.getElem?_map]
    by_cases hi : i < (planV rs n).length
    · have hx := List.getElem?_eq_getElem hi
      have hi2 : i < (planV ss n).length := by omega
      have hy := List.getElem?_eq_getElem hi2
      rw [hx, hy]
      show some _ = some _
      have b := same_at px py f0 hx hy
      have qx := px _ (List.getElem_mem hi)
      have qy := py _ (List.getElem_mem hi2)
      generalize (planV rs n)[i] = x at hx b qx
      generalize (planV ss n)[i] = y at hy b qy
      by_cases e : x = y
      · rw [e]
      · have fx : fill ds x = fill (dots n) x := by
          rcases qx with ⟨j, rfl, j0, j1⟩ | ⟨c, rfl, _⟩
          · exact at46 j j0 (few j.toNat (by omega) ⟨i, _, _, hx, hy, e, .inl (by rw [Int.toNat_of_nonneg j0])⟩)
          · rfl
        have fy : fill ds y = fill (dots n) y := by
          rcases qy with ⟨j, rfl, j0, j1⟩ | ⟨c, rfl, _⟩
          · exact at46 j j0 (few j.toNat (by omega) ⟨i, _, _, hx, hy, e, .inr (by rw [Int.toNat_of_nonneg j0])⟩)
          · rfl
        rw [fx, fy, b]
    · rw [List.getElem?_eq_none (by omega), List.getElem?_eq_none (by omega)]
/-- what is told, of a smaller text -/
theorem Told.smaller {rs ss : List Rec} (hr : ∀ r ∈ rs, r.fit) (hs : ∀ r ∈ ss, r.fit) {y z : Str} (h : Told rs ss (.str y)) (sz : Signs z.cps.toList) (lt : pairLt z.length y.length z y = true) : cuts rs z.cps.toList = cuts ss z.cps.toList := by
  rcases h with ⟨e, _⟩ | ⟨n, y', e, _, f, L⟩
  · cases e
  · cases e
    have yl : y.length = n := L.len
    have zl : z.length = z.cps.toList.length := rfl
    rcases pairLt_iff lt with h | ⟨h1, h2⟩
    · exact plan_show hr hs (f.eq _ (by omega))
    · exact smaller_same hr hs L (by omega) sz h2
/-- rows that are alike are unlike a third one for the same text -/
theorem Told.alike {rs ss os : List Rec} (hr : ∀ r ∈ rs, r.fit) (hs : ∀ r ∈ ss, r.fit) (e : ∀ n, planV rs n = planV ss n) {v : V} (h : Told rs os v) : Told ss os v := by
  have c : ∀ cs : List Nat, cuts ss cs = cuts rs cs := fun cs => (plan_show hr hs (e cs.length)).symm
  rcases h with ⟨rfl, h⟩ | ⟨n, y, rfl, hn, f, L⟩
  · exact .inl ⟨rfl, fun n => (e n).symm.trans (h n)⟩
  · refine .inr ⟨n, y, rfl, hn, ⟨fun q => f.ne ((e n).trans q), fun m hm => (e m).symm.trans (f.eq m hm)⟩, ?_⟩
    rcases L with ⟨a, b⟩ | ⟨p, hp, a, b0, b1, b2⟩
    · exact .inl ⟨a, by rw [c]; exact b⟩
    · exact .inr ⟨p, hp, a, by rw [c]; exact b0, by rw [c]; exact b1, fun q h1 h2 => by rw [c]; exact b2 q h1 h2⟩
theorem Told.non_all {rs ss : List Rec} {v : V} (h : Told rs ss v) (e : v = .non) : ∀ n, planV rs n = planV ss n := by
  rcases h with ⟨_, h⟩ | ⟨n, y, rfl, _⟩
  · exact h
  · cases e
end Gu
namespace Gu
open PySem PySem.Spec PyProof.Rows L2
theorem ToldsAt.off {H : Hp} {D p : Addr} {ps : List (Addr × Rec)} (h : ToldsAt H D ps) (hp : Pot H p) (l : 1 ≤ ps.length) : D ≠ p := fun e => by
  subst e
  obtain ⟨x, y, z, e⟩ := hp
  have a := h.ls.symm.trans e
  cases ps with
  | nil => cases l
  | cons q ps => cases a
theorem same_len {ps rs : List (Addr × Rec)} (e : rs.map (·.2) = ps.map (·.2)) : rs.length = ps.length := by
  have := congrArg List.length e
  rw [List.length_map, List.length_map] at this
  exact this
end Gu
namespace Gu
open PySem PySem.Spec PyProof.Rows L2
/-! ### zip of a tuple and a text -/
/-- the tuple at a as it stands at each turn, with the signs of y, in new pairs -/
def ItzS (K : PySem.W.Frag) (a : Addr) (y : Str) : It where
  go := fun i H => ∃ (xs : List V) (x : V) (c : Nat), SqT K H a xs ∧ xs[i]? = some x ∧ y.cps[i]? = some c
  yld := fun i H v G => ∃ T x c, v = .ref T ∧ H T = none ∧ G = upd H T (.tup [x, .str ⟨#[c]⟩]) ∧ (∀ xs, SqT K H a xs → xs[i]? = some x) ∧ y.cps[i]? = some c
  stop := fun i H => ∃ xs : List V, SqT K H a xs ∧ i ≤ xs.length ∧ i ≤ y.cps.size ∧ (i = xs.length ∨ i = y.cps.size)
theorem turn_zipS {P : Program} {w : World} {K : PySem.W.Frag} {es : List Expr} {kk : Nat} {tp : Pos} {a z TI TO i1 i2 : Addr} {y : Str} {t : Tok} (S : ZipSep2 z TI TO i1 i2 [i1, a] [i2]) :
    Turn P w K (.Tuple es kk tp) (ItzS K a y) [z, TI, TO, i1, i2] z (fun i h => IsZip h z TI TO .none ∧ IsTupOf2 h TI (.ref i1) (.ref i2) ∧ (∃ u v, IsTupOf2 h TO u v) ∧ h.IsTupleIter i1 a i ∧ h.IsStrIter i2 (strIterType y) y t i) where
  mem := List.mem_cons_self ..
  obj := fun i h st c hc => by
    obtain ⟨hz, hTI, ⟨u, v, hTO⟩, ⟨o1, e1, _, d1⟩, ⟨o2, e2, _, d2⟩⟩ := st
    simp only [List.mem_cons, List.not_mem_nil, or_false] at hc
    rcases hc with rfl | rfl | rfl | rfl | rfl
    · exact ⟨_, hz, fun v q => nomatch q⟩
    · exact ⟨_, hTI, fun v q => nomatch q⟩
    · exact ⟨_, hTO, fun v q => nomatch q⟩
    · exact ⟨o1, e1, fun v q => by rw [d1] at q; cases q⟩
    · exact ⟨o2, e2, fun v q => by rw [d2] at q; cases q⟩
  keep := fun i h g st k => by
    obtain ⟨hz, hTI, ⟨u, v, hTO⟩, h1, h2⟩ := st
    exact ⟨k z (by simp) _ hz, k TI (by simp) _ hTI, ⟨u, v, k TO (by simp) _ hTO⟩, h1.at fun o q => k i1 (by simp) o q, by
      obtain ⟨o, e, c, d⟩ := h2
      exact ⟨o, k i2 (by simp) o e, c, d⟩⟩
  item := by
    intro X hP hw hK hc i pins s σ H E I hf st hg
    subst hP hw hK
    obtain ⟨hz, hTI, ⟨u0, v0, hTO⟩, h1, h2⟩ := st
    obtain ⟨xs, x, c, hq, hx, hc0⟩ := hg
    obtain ⟨its, rv, p1, _⟩ := I.tuple hq
    obtain ⟨u, hu, ru⟩ := rv.get hx
    have p1' : s.heap.IsTuple a its.toArray := p1
    have nai : a ≠ i1 := fun e => by
      obtain ⟨o1, g1, c1, _⟩ := p1'
      obtain ⟨o2, g2, c2, _⟩ := h1
      rw [e] at g1
      cases g1.symm.trans g2
      exact absurd (Value.type.inj (c1.symm.trans c2)) (by decide)
    have hd : X.A.in1.handled = none := I.ok.hd hc
    have hzl : z < s.heap.objs.size := Heap.lt_size hz
    have il : i < its.toArray.size := by
      have := (List.getElem?_eq_some_iff.mp hu).1
      simpa using this
    have iy : i < y.cps.size := (Array.getElem?_eq_some_iff.mp hc0).1
    refine wpAny_pyNext_zipD2_item S (Draws.tuple hd i1 a nai its.toArray) (Draws.text hd i2 y t) hz hTI hTO ⟨h1, p1'⟩ h2 il iy fun x1 x2 h' tk y1 y2 b1 b2 d1 d2 b5 b6 b7 => ?_
    obtain rfl : x1 = u := by
      have : its[i]? = some x1 := by simpa using y1
      rw [hu] at this
      exact (Option.some.inj this).symm
    obtain ⟨c', tc, hc1, rfl⟩ := y2
    obtain rfl : c' = c := Option.some.inj (hc1.symm.trans hc0)
    refine ⟨_, rfl, wpAny_letOwnedTupleGo_zip (s := { s with heap := h', toks := tk }) b1 fun h'' z'' sb => ?_⟩
    have hT2 : h''.get? s.heap.objs.size = some { cls := .type "tuple", data := .seq #[x1, .str ⟨#[c']⟩ tc] } := (sb.2 _ (Nat.ne_of_gt hzl)).trans b5
    have nw : ObjOk X.prog X.w (upd H s.heap.objs.size (.tup [x, .str ⟨#[c']⟩])) h'' s.heap.objs.size (.tup [x, .str ⟨#[c']⟩]) := ⟨by show 2 ≤ sizeLine; decide, [x1, .str ⟨#[c']⟩ tc], .cons ru (.cons ⟨_, rfl⟩ .nil), ⟨_, hT2, rfl, _, rfl⟩⟩
    have I1 : Inv X pins σ (upd H s.heap.objs.size (.tup [x, .str ⟨#[c']⟩])) { s with heap := h'', toks := tk } :=
      I.turnedNew (ch := [z, TI, TO, i1, i2]) (fun c o hb q => (sb.2 c (fun q' => hb (by simp [q']))).trans (b7 c o (fun q' => hb (by simp [q'])) (fun q' => hb (by simp [q'])) (fun q' => hb (by simp [q'])) (fun q' => hb (by simp [q'])) q)) hf (Nat.le_refl _) nw
    refine ⟨.ref s.heap.objs.size, _, I1, rfl, ⟨_, x, c', rfl, I.hok.fresh (Nat.le_refl _), rfl, fun l hl => by rw [I.tuple_inj hl hq]; exact hx, hc0⟩, ⟨z'', ?_, ⟨x1, .str ⟨#[c']⟩ tc, ?_⟩, ?_, ?_⟩, fun c hcm => ?_⟩
    · exact (sb.2 _ S.TIz).trans (b7 _ _ S.TIz S.TITO S.TIi1 S.TIi2 hTI)
    · exact (sb.2 _ S.TOz).trans b2
    · exact d1.1.at fun o q => (sb.2 _ (Ne.symm S.zi1)).trans q
    · obtain ⟨o, e, cc, dd⟩ := d2
      exact ⟨o, (sb.2 _ (Ne.symm S.zi2)).trans e, cc, dd⟩
    · have hlt : c < s.heap.objs.size := by
        simp only [List.mem_cons, List.not_mem_nil, or_false] at hcm
        rcases hcm with rfl | rfl | rfl | rfl | rfl
        · exact hzl
        · exact Heap.lt_size hTI
        · exact Heap.lt_size hTO
        · obtain ⟨_, e1, _⟩ := h1
          exact Heap.lt_size e1
        · obtain ⟨_, e2, _⟩ := h2
          exact Heap.lt_size e2
      rw [upd_ne (Nat.ne_of_lt hlt)]
      exact (hf c hcm).1
  done := by
    intro X hP hw hK hc i pins s σ H E I hf st hg
    subst hP hw hK
    obtain ⟨hz, hTI, ⟨u0, v0, hTO⟩, h1, h2⟩ := st
    obtain ⟨xs, hq, l1, l2, hend⟩ := hg
    obtain ⟨its, rv, p1, _⟩ := I.tuple hq
    have p1' : s.heap.IsTuple a its.toArray := p1
    have nai : a ≠ i1 := fun e => by
      obtain ⟨o1, g1, c1, _⟩ := p1'
      obtain ⟨o2, g2, c2, _⟩ := h1
      rw [e] at g1
      cases g1.symm.trans g2
      exact absurd (Value.type.inj (c1.symm.trans c2)) (by decide)
    have hd : X.A.in1.handled = none := I.ok.hd hc
    have el : its.toArray.size = xs.length := by
      rw [List.size_toArray]
      exact rv.length.symm
    exact wpAny_pyNext_zipD2_end S (Draws.tuple hd i1 a nai its.toArray) (Draws.text hd i2 y t) hz hTI hTO ⟨h1, p1'⟩ h2 (by omega) l2 (by omega) fun h' tk hk => ⟨rfl, I.turnedL (t' := tk) (ch := [z, TI, TO, i1, i2]) (fun c o hb q =>
      hk c o (fun q' => hb (by simp [q'])) (fun q' => hb (by simp [q'])) (fun q' => hb (by simp [q'])) (fun q' => hb (by simp [q'])) q) hf⟩
  self := fun A i s Q E st h => wpAny_pyIter_zip st.1 h
theorem sepS (n a : Nat) (h : a < n) : ZipSep2 (n + 4) (n + 2) (n + 3) n (n + 1) [n, a] [n + 1] where
  TIz := by show (n + 2 : Nat) ≠ n + 4; omega
  TOz := by show (n + 3 : Nat) ≠ n + 4; omega
  TITO := by show (n + 2 : Nat) ≠ n + 3; omega
  TIi1 := by show (n + 2 : Nat) ≠ n; omega
  mem1 := List.mem_cons_self ..
  zf1 := by simp only [List.mem_cons, List.not_mem_nil, or_false]; show ¬ ((n + 4 : Nat) = n ∨ (n + 4 : Nat) = a); omega
  Tf1 := by simp only [List.mem_cons, List.not_mem_nil, or_false]; show ¬ ((n + 3 : Nat) = n ∨ (n + 3 : Nat) = a); omega
  TIi2 := by show (n + 2 : Nat) ≠ n + 1; omega
  mem2 := List.mem_cons_self ..
  zf2 := by simp only [List.mem_cons, List.not_mem_nil, or_false]; show ¬ (n + 4 : Nat) = n + 1; omega
  Tf2 := by simp only [List.mem_cons, List.not_mem_nil, or_false]; show ¬ (n + 3 : Nat) = n + 1; omega
  sep1_2 := by simp only [List.mem_cons, List.not_mem_nil, or_false]; show ¬ (n : Nat) = n + 1; omega
  sep2_1 := by simp only [List.mem_cons, List.not_mem_nil, or_false]; show ¬ ((n + 1 : Nat) = n ∨ (n + 1 : Nat) = a); omega
def iZipS (K : PySem.W.Frag) (ta : TA) : TI := fun σ H R => ta σ H fun vs G => ∃ (a : Addr) (y : Str) (xs : List V), vs = [.ref a, .str y] ∧ SqT K G a xs ∧ R (ItzS K a y) G
theorem pi_zipS {X : Cx} {e e2 : Expr} {ta : TA} {p pos tp : Pos} {es : List Expr} {kk : Nat} (hg : Gl X "zip") (hm : X.mg "zip" = none) (ha : PA X [e, e2] ta)
    (hs : starEach [e, e2] X.env = (false, eval e X.env) :: starEach [e2] X.env := by rfl) (hpl : (backTo pos (starEach [e2] X.env)).any (·.1) = false := by rfl) :
    PI X (.Tuple es kk tp) (.Call (.Name "zip" p) [e, e2] [] pos) (iZipS X.K ta) := by
  refine ⟨fun pins s σ H R I h => ?_⟩
  refine Call_ (ld_blt I hg hm PyProof.Rows.boot_zip (PyProof.Rows.callWith_type1 (thn (ha.run pos pins s σ H _ I h) fun us s1 ⟨vs, G, I1, r1, q1⟩ => ?_) hs hpl))
  obtain ⟨a, y, xs, ex, hq, q⟩ := q1
  subst ex
  cases r1 with
  | cons r rr =>
    cases rr with
    | cons r' rr =>
      cases rr
      cases r
      obtain ⟨t, rfl⟩ := r'
      obtain ⟨its, rv, p1, _⟩ := I1.tuple hq
      have p1' : s1.heap.IsTuple a its.toArray := p1
      have al : a < s1.heap.objs.size := by
        obtain ⟨o, ho, _⟩ := p1'
        exact Heap.lt_size ho
      refine zip_begins2 (begins_tuple a its.toArray) (begins_text y t) p1' trivial fun h' hz hTI hTO e1 e2 hsz hk => wpAny_pyIter_zip hz ?_
      have I2 : Inv X pins σ G { s1 with heap := h' } := I1.kept (t' := s1.toks) hk
      have S := sepS s1.heap.objs.size a al
      refine ⟨s1.heap.objs.size + 4, [s1.heap.objs.size + 4, s1.heap.objs.size + 2, s1.heap.objs.size + 3, s1.heap.objs.size, s1.heap.objs.size + 1], _, _, G, rfl, I2, turn_zipS S, ⟨hz, hTI, ⟨_, _, hTO⟩, ⟨_, e1, rfl, rfl⟩, ⟨_, e2, rfl, rfl⟩⟩, fun c hcm => ?_, q⟩
      have le : s1.heap.objs.size ≤ c := by
        simp only [List.mem_cons, List.not_mem_nil, or_false] at hcm
        rcases hcm with rfl | rfl | rfl | rfl | rfl
        · exact Nat.le_add_right _ _
        · exact Nat.le_add_right _ _
        · exact Nat.le_add_right _ _
        · exact Nat.le_refl _
        · exact Nat.le_add_right _ _
      exact I1.fpOk le (I1.hok.fresh le)
theorem walk_zipS {K : PySem.W.Frag} {a : Addr} {y : Str} {xs : List V} (el : xs.length = y.cps.size) : Walk (ItzS K a y) xs.length (fun H => SqT K H a xs) (fun i H v G => ∃ T x c, xs[i]? = some x ∧ y.cps[i]? = some c ∧ v = .ref T ∧ H T = none ∧ G = upd H T (.tup [x, .str ⟨#[c]⟩])) where
  goes := fun i H hi h => ⟨xs, xs[i], y.cps[i]'(by omega), h, List.getElem?_eq_getElem hi, Array.getElem?_eq_getElem (by omega)⟩
  stops := fun H h => ⟨xs, h, Nat.le_refl _, by omega, .inl rfl⟩
  yields := fun i H v G hi h ⟨T, x, c, e1, e2, e3, e4, e5⟩ => ⟨T, x, c, e4 xs h, e5, e1, e2, e3⟩
end Gu
namespace Gu
open PySem PySem.Spec PyProof.Rows L2
/-! ### views in the heap -/
structure VW where
  pr : Addr
  rw : Addr
  rs : List (Addr × Rec)
  y : Str
def VW.recs (v : VW) : List Rec := v.rs.map (·.2)
def VW.cs (v : VW) : List Nat := v.y.cps.toList
structure ViewAt (C : Addr) (H : Hp) (v : VW) : Prop where
  pr : H v.pr = some (.tup [.ref v.rw, .str v.y])
  row : RowAt C H v.rw v.rs
  l1 : 1 ≤ v.rs.length
  l4 : v.rs.length ≤ 4
  tx : isTxt v.y 200 = true
structure ViewsAt (C : Addr) (H : Hp) (a : Addr) (vs : List VW) : Prop where
  tp : H a = some (.tup (vs.map fun v => V.ref v.pr))
  el : ∀ v ∈ vs, ViewAt C H v
  l1 : 1 ≤ vs.length
  l4 : vs.length ≤ 4
theorem ViewAt.same {C : Addr} {H G : Hp} {v : VW} (s : Same H G) (h : ViewAt C H v) : ViewAt C G v := ⟨s _ _ h.pr, h.row.same s, h.l1, h.l4, h.tx⟩
theorem ViewsAt.same {C : Addr} {H G : Hp} {a : Addr} {vs : List VW} (s : Same H G) (h : ViewsAt C H a vs) : ViewsAt C G a vs := ⟨s _ _ h.tp, fun v hv => (h.el v hv).same s, h.l1, h.l4⟩
/-- a text fits the views -/
def Fits (vs : List VW) (cs : List Nat) : Prop := ∀ v ∈ vs, cuts v.recs cs = v.cs
/-! what is known, by places -/
def Agree (kvs : List (Key × V)) (cs : List Nat) : Prop := ∀ (p c : Nat), valV kvs (Sum.inl (p : Int)) = some (.str (one c)) → cs[p]? = some c
structure Knows (n : Nat) (kvs : List (Key × V)) (Pd : List Nat → Prop) : Prop where
  ks : ∀ k v, valV kvs k = some v → ∃ p c : Nat, k = Sum.inl (p : Int) ∧ p < n ∧ v = .str (one c) ∧ c ∈ signs.cps.toList
  iff : ∀ cs : List Nat, cs.length = n → (Pd cs ↔ Agree kvs cs)
theorem Knows.imp {n : Nat} {kvs : List (Key × V)} {Pd Qd : List Nat → Prop} (h : Knows n kvs Pd) (e : ∀ cs : List Nat, cs.length = n → (Pd cs ↔ Qd cs)) : Knows n kvs Qd := ⟨h.ks, fun cs l => (e cs l).symm.trans (h.iff cs l)⟩
theorem Knows.start (n : Nat) : Knows n [] (fun _ => True) := ⟨fun k v h => (by cases h), fun cs l => ⟨fun _ p c h => (by cases h), fun _ => trivial⟩⟩
theorem one_inj {c d : Nat} (h : V.str (one c) = V.str (one d)) : c = d := by
  have := congrArg (fun z : Str => z.cps.toList) (V.str.inj h)
  exact List.singleton_inj.mp this
/-- one more place is known -/
theorem Knows.put {n p c : Nat} {kvs : List (Key × V)} {Pd : List Nat → Prop} (h : Knows n kvs Pd) (hp : p < n) (hc : c ∈ signs.cps.toList) (e : valV kvs (Sum.inl (p : Int)) = none) : Knows n (putK kvs (Sum.inl (p : Int)) (.str (one c))) (fun cs => Pd cs ∧ cs[p]? = some c) := by
  refine ⟨fun k v q => ?_, fun cs l => ?_⟩
  · rw [valV_put] at q
    split at q
    · next ek => exact ⟨p, c, ek, hp, (Option.some.inj q).symm, hc⟩
    · exact h.ks k v q
  · rw [h.iff cs l]
    constructor
    · rintro ⟨a, b⟩ q d hq
      rw [valV_put] at hq
      split at hq
      · next ek =>
        have ek : q = p := by have := Sum.inl.inj ek; omega
        rw [ek, b, one_inj (Option.some.inj hq)]
      · exact a q d hq
    · intro a
      refine ⟨fun q d hq => a q d ?_, a p c ?_⟩
      · rw [valV_put]
        split
        · next ek =>
          rw [ek, e] at hq
          cases hq
        · exact hq
      · rw [valV_put, if_pos rfl]
theorem fillN_int {cs : List Nat} {p c : Nat} (hp : p < cs.length) : fillN cs (.int (p : Int)) = c ↔ cs[p]? = some c := by
  show cs.getD (p : Int).toNat 0 = c ↔ _
  rw [Int.toNat_natCast, List.getD_eq_getElem?_getD, List.getElem?_eq_getElem hp]
  exact ⟨fun h => congrArg some h, fun h => Option.some.inj h⟩
/-- a row shows a text as y: sign by sign -/
theorem shown_each {rs : List Rec} (hf : ∀ r ∈ rs, r.fit) {cs ys : List Nat} : cuts rs cs = ys ↔ (planV rs cs.length).map (fillN cs) = ys := by
  have e := fill_plan rs cs
  have px : ∀ x ∈ planV rs cs.length, Plain cs.length x := plan_plain hf
  rw [fillN_map px] at e
  rw [ones_inj e]
section
variable {P : Program} {w : World} {K : PySem.W.Frag} {mg : Str → Option Value} {base : Heap} {C : Addr}
theorem Isa.str_intV {H : Hp} {z : Str} : Isa K H (.str z) "int" false := ⟨_, .base (.str z), kit_ty (by decide +kernel)⟩
/-! ### is_row, is_view, check_views -/
def spIsRow (C : Addr) : Sp := fun vs H Q _ => ∃ (a : Addr) (rs : List (Addr × Rec)), vs = [.ref a] ∧ RowAt C H a rs ∧ 1 ≤ rs.length ∧ rs.length ≤ 4 ∧ ∀ G, Same H G → Q (.bl true) G
theorem cal_isRow (B : Bi mg) (S : ShC K mg C) (D : At K mg "is_row" s_is_row ps_is_row) (C_is_tuple : Cal P w K mg base 1 "is_tuple" ps_is_tuple (spIsTuple K)) : Cal P w K mg base 2 "is_row" ps_is_row (spIsRow C) := by
  refine D.cal sc_is_row (fun vs H Q E h => ?_) (fun f cdv A outer s H vs Q E hr h => ?_)
  · obtain ⟨a, rs, rfl, _⟩ := h
    rfl
  · obtain ⟨a, rs, rfl, hR, l1, l4, k⟩ := h
    refine ⟨_, (pss_one (ps_ret (pe_and (pe_own C_is_tuple hr (by decide) (by rfl) (pa_cons (pv 0) (pa_cons pe_int (pa_cons (pe_cst B.MOST_ROW (by rfl)) pa_nil)))) (pe_one (pe_callB (cr_all rfl) (by rfl) B.all (by decide +kernel) (pa_cons (pe_lc (own := [("part", 1)]) (by rfl) sc_is_row.nd (pi_tup (pv 0)) (blkOk_by (own := [("part", 1)]) (N := ["value", "part"]) (sc := defScope s_is_row) (by decide +kernel)) (fun _ _ _ _ _ => pg_name (i := 1) sc_is_row.nd rfl (.inl rfl)) (fun _ _ _ _ _ => pts_nil) (fun _ _ _ _ _ => (pe_callB (id := "isinstance") (r := rIsi K) call_isi (by rfl) B.isinstance (by decide +kernel) (pa_cons (pv 1) (pa_cons (pe_glob (v := .ref C) (by rfl) S.g rfl) pa_nil))))) pa_nil)))))), ?_⟩
    refine ⟨_, rfl, _, _, _, rfl, .inl ⟨a, _, rfl, .inl (.inl hR.tp), _, rfl, ?_⟩⟩
    rw [decide_eq_true (show (1 : Int) ≤ ((rs.map fun q => V.ref q.1).length : Int) ∧ ((rs.map fun q => V.ref q.1).length : Int) ≤ 4 by rw [List.length_map]; omega)]
    refine iteT ⟨_, rfl, a, rfl, ⟨_, .inl (.inl hR.tp)⟩, fun M nM => lc_tup (K := K) (a := a) (xs := rs.map fun q => V.ref q.1) (fun i J => (∃ bs : List Bool, bs.length = i ∧ bs.all id = true ∧ J M = some (.lst (bs.map V.bl))) ∧ Same H J)
      ⟨⟨[], rfl, rfl, upd_same⟩, same_new nM⟩ (fun i J _ ⟨_, sJ⟩ => .inl (.inl (sJ _ _ hR.tp))) ?_ ?_⟩
    · rintro i v J hi ⟨⟨bs, rfl, ha, eM⟩, sJ⟩
      have il := (List.getElem?_eq_some_iff.mp hi).1
      rw [List.length_map] at il
      obtain ⟨q, hq, rfl⟩ : ∃ q ∈ rs, v = .ref q.1 := by
        obtain ⟨q, h1, h2⟩ := List.mem_map.mp (List.mem_of_getElem? hi)
        exact ⟨q, h1, h2.symm⟩
      obtain ⟨dx, b, e1, _⟩ := ((hR.sh q hq).1).same sJ
      refine ⟨rfl, yes (iteT ⟨_, rfl, _, _, _, _, true, rfl, .own C, .base (.ins e1 S.cl S.ha S.hn S.ht S.hm), S.kk, _, eM, small1000 (by rw [List.length_map]; omega), ⟨bs ++ [true], by rw [List.length_append]; rfl, by rw [List.all_append, ha]; rfl, ?_⟩, same_offF sJ nM⟩)⟩
      rw [upd_same, List.map_append]
      rfl
    · rintro J ⟨⟨bs, el, ha, eM⟩, sJ⟩
      refine ⟨M, bs, rfl, .inl (.inl eM), ?_⟩
      rw [ha]
      exact k J sJ
def spIsView (C : Addr) : Sp := fun vs H Q _ => ∃ (v : VW), vs = [.ref v.pr] ∧ ViewAt C H v ∧ ∀ G, Same H G → Q (.bl true) G
theorem cal_isView (B : Bi mg) (D : At K mg "is_view" s_is_view ps_is_view) (C_is_tuple : Cal P w K mg base 1 "is_tuple" ps_is_tuple (spIsTuple K)) (C_is_text : Cal P w K mg base 1 "is_text" ps_is_text (spIsText K)) (C_is_row : Cal P w K mg base 2 "is_row" ps_is_row (spIsRow C)) : Cal P w K mg base 3 "is_view" ps_is_view (spIsView C) := by
  refine D.cal sc_is_view (fun vs H Q E h => ?_) (fun f cdv A outer s H vs Q E hr h => ?_)
  · obtain ⟨v, rfl, _⟩ := h
    rfl
  · obtain ⟨v, rfl, hv, k⟩ := h
    have yl := isTxt_len hv.tx
    refine ⟨_, (pss_one (ps_ret (pe_and (pe_own C_is_tuple hr (by decide) (by rfl) (pa_cons (pv 0) (pa_cons pe_int (pa_cons pe_int pa_nil)))) (pe_and (pe_own C_is_row hr (by decide) (by rfl) (pa_cons (pe_ix ix_tup (pv 0) pe_int (fun _ _ => rfl)) pa_nil)) (pe_one (pe_own C_is_text hr (by decide) (by rfl) (pa_cons (pe_ix ix_tup (pv 0) pe_int (fun _ _ => rfl)) (pa_cons (pe_cst B.MOST_TEXT (by rfl)) pa_nil)))))))), ?_⟩
    refine ⟨_, rfl, _, _, _, rfl, .inl ⟨v.pr, _, rfl, .inl (.inl hv.pr), _, rfl, ?_⟩⟩
    rw [decide_eq_true (show (2 : Int) ≤ (([V.ref v.rw, V.str v.y] : List V).length : Int) ∧ (([V.ref v.rw, V.str v.y] : List V).length : Int) ≤ 2 from ⟨by show (2 : Int) ≤ 2; decide, by show (2 : Int) ≤ 2; decide⟩)]
    refine iteT ⟨_, rfl, v.pr, _, _, _, rfl, rfl, .inl (.inl hv.pr), (rfl : atI [V.ref v.rw, V.str v.y] 0 = some (V.ref v.rw)), ?_⟩
    refine ⟨v.rw, v.rs, rfl, hv.row, hv.l1, hv.l4, fun G sG => ⟨_, rfl, iteT ?_⟩⟩
    refine ⟨_, rfl, v.pr, _, _, _, rfl, rfl, .inl (.inl (sG _ _ hv.pr)), (rfl : atI [V.ref v.rw, V.str v.y] 1 = some (V.str v.y)), ?_⟩
    refine ⟨_, _, rfl, .inl ⟨v.y, rfl, by omega, fun G2 s2 => ?_⟩⟩
    rw [show isTxt v.y 200 = true from hv.tx]
    exact k G2 (sG.trans s2)
def spCheckViews (C : Addr) : Sp := fun vs H Q _ => ∃ (a : Addr) (ws : List VW), vs = [.ref a] ∧ ViewsAt C H a ws ∧ ∀ G, Same H G → Q .non G
theorem cal_checkViews (B : Bi mg) (D : At K mg "check_views" s_check_views ps_check_views) (C_is_tuple : Cal P w K mg base 1 "is_tuple" ps_is_tuple (spIsTuple K)) (C_is_view : Cal P w K mg base 3 "is_view" ps_is_view (spIsView C)) : Cal P w K mg base 4 "check_views" ps_check_views (spCheckViews C) := by
  refine D.cal sc_check_views (fun vs H Q E h => ?_) (fun f cdv A outer s H vs Q E hr h => ?_)
  · obtain ⟨a, ws, rfl, _⟩ := h
    rfl
  · obtain ⟨a, ws, rfl, hV, k⟩ := h
    have l1 := hV.l1
    have l4 := hV.l4
    refine ⟨_, (pss_cons (ps_if (pt_not (pt_val (pe_own C_is_tuple hr (by decide) (by rfl) (pa_cons (pv 0) (pa_cons pe_int (pa_cons (pe_cst B.MOST_VIEWS (by rfl)) pa_nil)))))) pss_never pss_nil)
      (pss_one (ps_for PassesOwn.never rfl (pi_enT (by rfl) B.enumerate (pa_cons (pv 0) pa_nil)) (pg_tup rfl (pgs_cons (pg_name (i := 1) sc_check_views.nd rfl (.inl rfl)) (pgs_cons (pg_name (i := 2) sc_check_views.nd rfl (.inl rfl)) pgs_nil)))
      (pss_one (ps_if (pt_not (pt_val (pe_own C_is_view hr (by decide) (by rfl) (pa_cons (pv 2) pa_nil)))) pss_never pss_nil))))), ?_⟩
    refine ⟨_, rfl, _, _, _, rfl, .inl ⟨a, _, rfl, .inl (.inl hV.tp), _, rfl, ?_⟩⟩
    rw [decide_eq_true (show (1 : Int) ≤ ((ws.map fun v => V.ref v.pr).length : Int) ∧ ((ws.map fun v => V.ref v.pr).length : Int) ≤ 4 by rw [List.length_map]; omega)]
    refine iteF ⟨_, rfl, a, _, rfl, .inl (.inl hV.tp), for_it walk_enT (fun i σ J => ∃ u v, σ = [some (.ref a), u, v] ∧ Same H J) ⟨none, none, rfl, Same.refl H⟩ (fun i σ J _ ⟨_, _, _, sJ⟩ => .inl (.inl (sJ _ _ hV.tp))) ?_ ?_⟩
    · rintro i x σ J J1 hi ⟨u, v2, rfl, sJ⟩ ⟨T, z, hz, rfl, nT, rfl⟩
      obtain ⟨v, hv, rfl⟩ : ∃ v ∈ ws, z = .ref v.pr := by
        obtain ⟨q, h1, h2⟩ := List.mem_map.mp (List.mem_of_getElem? hz)
        exact ⟨q, h1, h2.symm⟩
      have sT : Same H (upd J T (.tup [.int (i : Nat), .ref v.pr])) := sJ.trans (same_new nT)
      refine ⟨T, _, rfl, .inl (.inl upd_same), rfl, _, _, rfl, _, _, rfl, rfl, ?_⟩
      exact ⟨_, rfl, v, rfl, (hV.el v hv).same sT, fun G sG => ⟨_, rfl, iteF ⟨_, _, rfl, sT.trans sG⟩⟩⟩
    · rintro σ J ⟨u, v, rfl, sJ⟩
      exact k J sJ
/-! ### known_signs -/
def spKnown (C : Addr) : Sp := fun vs H Q _ => ∃ (a : Addr) (n : Nat) (ws : List VW), vs = [.ref a, .int (n : Int)] ∧ ViewsAt C H a ws ∧ n ≤ 500 ∧ ((∀ cs : List Nat, cs.length = n → ¬ Fits ws cs) → ∀ G, Same H G → Q .non G) ∧ ∀ (d : Addr) (kvs : List (Key × V)) (G : Hp), H d = none → Same H G → G d = some (.dK kvs) → Knows n kvs (Fits ws) → Q (.ref d) G
/-- the signs of one view, up to i -/
def Upto (n : Nat) (rs : List Rec) (ys : List Nat) (i : Nat) (cs : List Nat) : Prop := ∀ j x c, j < i → (planV rs n)[j]? = some x → ys[j]? = some c → fillN cs x = c
theorem upto_all {n : Nat} {rs : List Rec} (hf : ∀ r ∈ rs, r.fit) {ys cs : List Nat} (l : cs.length = n) (e : (planV rs n).length = ys.length) : Upto n rs ys ys.length cs ↔ cuts rs cs = ys := by
  rw [shown_each hf, l]
  constructor
  · intro h
    refine List.ext_getElem (by rw [List.length_map]; exact e) fun j h1 h2 => ?_
    rw [List.getElem_map]
    exact h j _ _ h2 (List.getElem?_eq_getElem _) (List.getElem?_eq_getElem h2)
  · intro h j x c hj hx hc
    rw [← h, List.getElem?_map, hx] at hc
    exact Option.some.inj hc
theorem upto_next {n : Nat} {rs : List Rec} {ys cs : List Nat} {i : Nat} {x : V} {c : Nat} (hx : (planV rs n)[i]? = some x) (hc : ys[i]? = some c) : Upto n rs ys (i + 1) cs ↔ Upto n rs ys i cs ∧ fillN cs x = c := by
  constructor
  · exact fun h => ⟨fun j x c hj => h j x c (by omega), h i x c (by omega) hx hc⟩
  · rintro ⟨h, e⟩ j u d hj hu hd
    rcases Nat.lt_or_ge j i with q | q
    · exact h j u d q hu hd
    · obtain rfl : j = i := by omega
      rw [hx] at hu
      rw [hc] at hd
      cases hu
      cases hd
      exact e
theorem fits_take {ws : List VW} {i : Nat} {v : VW} {cs : List Nat} (h : ws[i]? = some v) : Fits (ws.take (i + 1)) cs ↔ Fits (ws.take i) cs ∧ cuts v.recs cs = v.cs := by
  rw [takeF_next h]
  constructor
  · exact fun q => ⟨fun u hu => q u (List.mem_append.mpr (.inl hu)), q v (List.mem_append.mpr (.inr (List.mem_singleton.mpr rfl)))⟩
  · rintro ⟨a, b⟩ u hu
    rcases List.mem_append.mp hu with hu | hu
    · exact a u hu
    · rw [List.mem_singleton.mp hu]
      exact b
set_option maxHeartbeats 1000000 in
theorem cal_known (B : Bi mg) (D : At K mg "known_signs" s_known_signs ps_known_signs) (C_planned : Cal P w K mg base 2 "planned" ps_planned (spPlanned C)) : Cal P w K mg base 3 "known_signs" ps_known_signs (spKnown C) := by
  refine D.cal sc_known_signs (fun vs H Q E h => ?_) (fun f cdv A outer s H vs Q E hr h => ?_)
  · obtain ⟨a, n, ws, rfl, _⟩ := h
    rfl
  · obtain ⟨a, n, ws, rfl, hV, hn, kN, kS⟩ := h
    refine ⟨_, (pss_cons (ps_set (i := 2) sc_known_signs.nd rfl (.inl rfl) pe_dnewK)
      (pss_cons (ps_for PassesOwn.never rfl (pi_tup (pv 0)) (pg_tup rfl (pgs_cons (pg_name (i := 3) sc_known_signs.nd rfl (.inl rfl)) (pgs_cons (pg_name (i := 4) sc_known_signs.nd rfl (.inl rfl)) pgs_nil)))
      (pss_cons (ps_set (i := 5) sc_known_signs.nd rfl (.inl rfl) (pe_own C_planned hr (by decide) (by rfl) (pa_cons (pv 3) (pa_cons (pv 1) pa_nil))))
      (pss_cons (ps_if (pt_cmpR op_ne (pe_callB call_len (by rfl) B.len (by decide +kernel) (pa_cons (pv 5) pa_nil)) (pe_callB call_len (by rfl) B.len (by decide +kernel) (pa_cons (pv 4) pa_nil)) (nomark _)) (pss_one (ps_ret pe_non)) pss_nil)
      (pss_one (ps_for PassesOwn.never rfl (pi_zipS (by rfl) B.zip (pa_cons (pv 5) (pa_cons (pv 4) pa_nil))) (pg_tup rfl (pgs_cons (pg_name (i := 6) sc_known_signs.nd rfl (.inl rfl)) (pgs_cons (pg_name (i := 7) sc_known_signs.nd rfl (.inl rfl)) pgs_nil)))
      (pss_cons (ps_set (i := 8) sc_known_signs.nd rfl (.inl rfl) (pe_mid (pe_ifExp (pt_val (pe_callB call_isi (by rfl) B.isinstance (by decide +kernel) (pa_cons (pv 6) (pa_cons (pe_bltn (v := .ty "int") (by rfl) B.int (by decide +kernel) rfl) pa_nil)))) (pe_dsetd (pv 2) (pv 6) (pv 7) ⟨rfl, rfl, rfl, rfl⟩) (pv 6))))
      (pss_one (ps_if (pt_cmpR op_ne (pv 8) (pv 7) (nomark _)) (pss_one (ps_ret pe_non)) pss_nil))))))))
      (pss_one (ps_ret (pv 2))))), ?_⟩
    refine fun d nd => ?_
    have s0 : Same H (upd H d (.dK [])) := same_new nd
    refine ⟨_, rfl, a, rfl, ⟨_, .inl (.inl (s0 _ _ hV.tp))⟩, for_tup (K := K) (a := a) (xs := ws.map fun v => V.ref v.pr) (fun i σ J => ∃ (kvs : List (Key × V)) (b1 b2 b3 b4 b5 b6 : Option V), σ = [some (.ref a), some (.int (n : Int)), some (.ref d), b1, b2, b3, b4, b5, b6] ∧ Same H J ∧ J d = some (.dK kvs) ∧ Knows n kvs (Fits (ws.take i)) ∧ kvs.length ≤ 1000 * i)
      ⟨[], none, none, none, none, none, none, rfl, s0, upd_same, (Knows.start n).imp (fun cs _ => ⟨fun _ v hv => (by cases hv), fun _ => trivial⟩), Nat.zero_le _⟩ (fun i σ J _ ⟨_, _, _, _, _, _, _, _, sJ, _⟩ => .inl (.inl (sJ _ _ hV.tp))) ?_ ?_⟩
    · rintro i x σ J hi ⟨kvs, b1, b2, b3, b4, b5, b6, rfl, sJ, eD, kn, kl⟩
      rw [List.getElem?_map] at hi
      cases hv : ws[i]? with
      | none =>
        rw [hv] at hi
        cases hi
      | some v =>
        rw [hv] at hi
        cases hi
        have mv : v ∈ ws := List.mem_of_getElem? hv
        have il : i < ws.length := (List.getElem?_eq_some_iff.mp hv).1
        have w4 := hV.l4
        have vw := (hV.el v mv).same sJ
        have fr : ∀ r ∈ v.recs, r.fit := vw.row.fits
        have yl := isTxt_len vw.tx
        have ys : Signs v.cs := isTxt_signs vw.tx
        have yL : v.y.length = v.cs.length := rfl
        have yZ : v.y.cps.size = v.cs.length := rfl
        refine ⟨v.pr, _, rfl, .inl (.inl vw.pr), rfl, _, _, rfl, _, _, rfl, rfl, ?_⟩
        refine ⟨_, rfl, _, rfl, v.rw, n, v.rs, rfl, vw.row, hn, fun U G1 s1 e1 => ?_⟩
        have e1 : G1 U = some (.tup (planV v.recs n)) := e1
        have pl := plan_len fr (n := n) hn
        refine ⟨_, rfl, _, _, rfl, .inr ⟨_, .inl (.inl e1), rfl⟩, _, rfl, _, _, rfl, ⟨Nat.le_of_lt (small1000 (by omega)), rfl⟩, rfl, _, rfl, ?_⟩
        by_cases el : (planV v.recs n).length = v.cs.length
        · rw [decide_eq_true (show V.int ((planV v.recs n).length : Int) = V.int (v.y.length : Int) by rw [el, yL])]
          refine iteF ⟨_, rfl, _, rfl, U, v.y, _, rfl, .inl (.inl e1), for_it (walk_zipS (by rw [el, yZ])) (fun j σ J1 => ∃ (kvs : List (Key × V)) (c1 c2 c3 : Option V), σ = [some (.ref a), some (.int (n : Int)), some (.ref d), some (.ref v.rw), some (.str v.y), some (.ref U), c1, c2, c3] ∧ Same H J1 ∧ J1 U = some (.tup (planV v.recs n)) ∧ J1 d = some (.dK kvs) ∧ Knows n kvs (fun cs => Fits (ws.take i) cs ∧ Upto n v.recs v.cs j cs) ∧ kvs.length ≤ 1000 * i + j)
            ⟨kvs, b4, b5, b6, rfl, sJ.trans s1, e1, s1 _ _ eD, kn.imp (fun cs _ => ⟨fun h => ⟨h, fun j x c hj => absurd hj (by omega)⟩, fun h => h.1⟩), by omega⟩ (fun j σ J1 _ ⟨_, _, _, _, _, _, h, _⟩ => .inl (.inl h)) ?_ ?_⟩
          · rintro j z σ1 J1 _ hj ⟨kvs1, c1, c2, c3, rfl, s2, e2, eD1, kn1, kl1⟩ ⟨T, sx, c, hx, hc, rfl, nT, rfl⟩
            have hc : v.cs[j]? = some c := by
              rw [← Array.getElem?_toList] at hc
              exact hc
            have cs1 : c ∈ signs.cps.toList := ys c (List.mem_of_getElem? hc)
            have sT : Same J1 (upd J1 T (.tup [sx, .str ⟨#[c]⟩])) := same_new nT
            have eD2 := sT _ _ eD1
            have e3 := sT _ _ e2
            have s3 := s2.trans sT
            refine ⟨T, _, rfl, .inl (.inl upd_same), rfl, _, _, rfl, _, _, rfl, rfl, ?_⟩
            generalize upd J1 T (.tup [sx, .str ⟨#[c]⟩]) = J2 at eD2 e3 s3
            have px : Plain n sx := plan_plain fr sx (List.mem_of_getElem? hx)
            rcases px with ⟨q, rfl, q0, qn⟩ | ⟨g, rfl, _⟩
            · obtain ⟨q, rfl⟩ := Int.eq_ofNat_of_zero_le q0
              have qn : q < n := by omega
              cases eq : valV kvs1 (Sum.inl (q : Int)) with
              | some u =>
                obtain ⟨q', g, ek, _, rfl, _⟩ := kn1.ks _ _ eq
                refine ⟨fun t J3 => t = .str (one g) ∧ J2 = J3, ?_, ?_⟩
                · obtain ⟨t, i1, i2⟩ := Isa.int_int (K := K) (H := J2) (i := (q : Int))
                  refine ⟨_, rfl, _, _, t, _, true, rfl, .ty _, i1, i2, _, rfl, iteT ⟨_, rfl, d, rfl, .inl ⟨_, .inl eD2⟩, _, rfl, _, rfl, kvs1, Sum.inl (q : Int), eD2, rfl, Nat.lt_of_le_of_lt (show _ ≤ 6000 by omega) (by decide), fun v hv => ?_, fun hv => ?_⟩⟩
                  · rw [eq] at hv
                    cases hv
                    exact ⟨rfl, rfl⟩
                  · rw [eq] at hv
                    cases hv
                · rintro _ _ ⟨rfl, rfl⟩
                  refine ⟨_, rfl, _, rfl, rfl, _, rfl, ?_⟩
                  by_cases gc : g = c
                  · subst gc
                    rw [decide_eq_true (show V.str (one g) = V.str ⟨#[g]⟩ from rfl)]
                    refine iteF ⟨kvs1, _, _, _, rfl, s3, e3, eD2, kn1.imp (fun cs l => ?_), by omega⟩
                    rw [upto_next hx hc]
                    constructor
                    · rintro h
                      exact ⟨h.1, h.2, (fillN_int (by omega)).mpr ((kn1.iff cs l).mp h q g eq)⟩
                    · exact fun h => ⟨h.1, h.2.1⟩
                  · rw [decide_eq_false (show ¬ V.str (one g) = V.str ⟨#[c]⟩ from fun h => gc (one_inj h))]
                    refine iteT (kN (fun cs l ft => gc ?_) J2 s3)
                    have f1 := (fits_take hv).mp (fun u hu => ft u (List.mem_of_mem_take hu))
                    have up := (upto_all fr l el).mpr f1.2
                    have a1 := (kn1.iff cs l).mp ⟨f1.1, fun m x c hm => up m x c (by omega)⟩ q g eq
                    have jl : j < v.cs.length := (List.getElem?_eq_some_iff.mp hc).1
                    have a2 := (fillN_int (by omega)).mp (up j _ c jl hx hc)
                    exact Option.some.inj (a1.symm.trans a2)
              | none =>
                refine ⟨fun t J3 => t = .str (one c) ∧ J3 = upd J2 d (.dK (putK kvs1 (Sum.inl (q : Int)) (.str (one c)))), ?_, ?_⟩
                · obtain ⟨t, i1, i2⟩ := Isa.int_int (K := K) (H := J2) (i := (q : Int))
                  refine ⟨_, rfl, _, _, t, _, true, rfl, .ty _, i1, i2, _, rfl, iteT ⟨_, rfl, d, rfl, .inl ⟨_, .inl eD2⟩, _, rfl, _, rfl, kvs1, Sum.inl (q : Int), eD2, rfl, Nat.lt_of_le_of_lt (show _ ≤ 6000 by omega) (by decide), fun v hv => ?_, fun hv => ⟨rfl, rfl⟩⟩⟩
                  rw [eq] at hv
                  cases hv
                · rintro _ _ ⟨rfl, rfl⟩
                  refine ⟨_, rfl, _, rfl, rfl, _, rfl, ?_⟩
                  rw [decide_eq_true (show V.str (one c) = V.str ⟨#[c]⟩ from rfl)]
                  have kl2 := length_putK kvs1 (Sum.inl (q : Int)) (.str (one c))
                  have nUd : U ≠ d := ne_of e3 eD2 (by intro z; cases z)
                  refine iteF ⟨_, _, _, _, rfl, same_offF s3 nd, by rw [upd_ne nUd]; exact e3, upd_same, (kn1.put qn cs1 eq).imp (fun cs l => ?_), by omega⟩
                  rw [upto_next hx hc, fillN_int (by omega)]
                  exact ⟨fun h => ⟨h.1.1, h.1.2, h.2⟩, fun h => ⟨⟨h.1, h.2.1⟩, h.2.2⟩⟩
            · refine ⟨fun t J3 => t = .str (one g) ∧ J2 = J3, ?_, ?_⟩
              · obtain ⟨t, i1, i2⟩ := Isa.str_intV (K := K) (H := J2) (z := one g)
                exact ⟨_, rfl, _, _, t, _, false, rfl, .ty _, i1, i2, _, rfl, iteF ⟨_, rfl, rfl, rfl⟩⟩
              · rintro _ _ ⟨rfl, rfl⟩
                refine ⟨_, rfl, _, rfl, rfl, _, rfl, ?_⟩
                by_cases gc : g = c
                · subst gc
                  rw [decide_eq_true (show V.str (one g) = V.str ⟨#[g]⟩ from rfl)]
                  refine iteF ⟨kvs1, _, _, _, rfl, s3, e3, eD2, kn1.imp (fun cs l => ?_), by omega⟩
                  rw [upto_next hx hc]
                  exact ⟨fun h => ⟨h.1, h.2, rfl⟩, fun h => ⟨h.1, h.2.1⟩⟩
                · rw [decide_eq_false (show ¬ V.str (one g) = V.str ⟨#[c]⟩ from fun h => gc (one_inj h))]
                  refine iteT (kN (fun cs l ft => gc ?_) J2 s3)
                  have f1 := (fits_take hv).mp (fun u hu => ft u (List.mem_of_mem_take hu))
                  have jl : j < v.cs.length := (List.getElem?_eq_some_iff.mp hc).1
                  exact (upto_all fr l el).mpr f1.2 j _ c jl hx hc
          · rintro σ1 J1 ⟨kvs1, c1, c2, c3, rfl, s2, e2, eD1, kn1, kl1⟩
            refine ⟨kvs1, _, _, _, _, _, _, rfl, s2, eD1, kn1.imp (fun cs l => ?_), by omega⟩
            rw [fits_take hv, ← upto_all fr l el, el]
        · rw [decide_eq_false (fun h => el (by have := V.int.inj h; omega))]
          refine iteT (kN (fun cs l ft => el ?_) G1 (sJ.trans s1))
          have := ft v mv
          rw [shown_each fr, l] at this
          rw [← this, List.length_map]
    · rintro σ J ⟨kvs, b1, b2, b3, b4, b5, b6, rfl, sJ, eD, kn, kl⟩
      rw [List.length_map, List.take_length] at kn
      exact ⟨_, rfl, kS d kvs J nd sJ eD kn⟩
end
end Gu
namespace Gu
open PySem PySem.Spec PyProof.Rows L2
/-! ### what is written out -/
/-- the sign at a place, o where it is open -/
def sgn (kvs : List (Key × V)) (o p : Nat) : Nat := match valV kvs (Sum.inl (p : Int)) with
  | some (.str z) => z.cps.toList.getD 0 0
  | _ => o
theorem sgn_some {kvs : List (Key × V)} {o p c : Nat} (h : valV kvs (Sum.inl (p : Int)) = some (.str (one c))) : sgn kvs o p = c := by
  unfold sgn
  rw [h]
  rfl
theorem sgn_none {kvs : List (Key × V)} {o p : Nat} (h : valV kvs (Sum.inl (p : Int)) = none) : sgn kvs o p = o := by
  unfold sgn
  rw [h]
def wrote (kvs : List (Key × V)) (o n : Nat) : List Nat := (List.range n).map (sgn kvs o)
theorem wrote_len (kvs : List (Key × V)) (o n : Nat) : (wrote kvs o n).length = n := by
  unfold wrote
  rw [List.length_map, List.length_range]
theorem wrote_at {kvs : List (Key × V)} {o n p : Nat} (h : p < n) : (wrote kvs o n)[p]? = some (sgn kvs o p) := by
  unfold wrote
  rw [List.getElem?_map, List.getElem?_range h]
  rfl
theorem wrote_agree {n o : Nat} {kvs : List (Key × V)} {Pd : List Nat → Prop} (h : Knows n kvs Pd) : Agree kvs (wrote kvs o n) := fun p c hc => by
  obtain ⟨p', c', ek, hp, _, _⟩ := h.ks _ _ hc
  have ek : p = p' := by have := Sum.inl.inj ek; omega
  rw [wrote_at (by omega), sgn_some hc]
theorem wrote_fits {n o : Nat} {kvs : List (Key × V)} {Pd : List Nat → Prop} (h : Knows n kvs Pd) : Pd (wrote kvs o n) := (h.iff _ (wrote_len ..)).mpr (wrote_agree h)
theorem wrote_signs {n o : Nat} {kvs : List (Key × V)} {Pd : List Nat → Prop} (h : Knows n kvs Pd) (ho : o ∈ signs.cps.toList) : Signs (wrote kvs o n) := fun c hc => by
  obtain ⟨p, hp, rfl⟩ := List.mem_map.mp hc
  cases e : valV kvs (Sum.inl (p : Int)) with
  | none =>
    rw [sgn_none e]
    exact ho
  | some v =>
    obtain ⟨p', c', ek, _, rfl, hs⟩ := h.ks _ _ e
    rw [sgn_some e]
    exact hs
def natV (l : List Nat) : List V := l.map fun a : Nat => V.int (a : Int)
theorem in_natV (i : Int) (l : List Nat) : inV (.int i) (natV l) = decide (0 ≤ i ∧ i.toNat ∈ l) := by
  unfold inV natV
  rw [List.any_map]
  by_cases e : 0 ≤ i ∧ i.toNat ∈ l
  · rw [decide_eq_true e, List.any_eq_true]
    refine ⟨i.toNat, e.2, ?_⟩
    show ((i.toNat : Int) == i) = true
    rw [Int.toNat_of_nonneg e.1]
    exact beq_self_eq_true _
  · rw [decide_eq_false e, List.any_eq_false]
    intro y hy h
    have h : ((y : Int)) = i := eq_of_beq (show ((y : Int) == i) = true from h)
    exact e ⟨by omega, by rw [← h, Int.toNat_natCast]; exact hy⟩
theorem flat_natV (l : List Nat) : (natV l).all flatV = true := by
  unfold natV
  rw [List.all_map, List.all_eq_true]
  exact fun _ _ => rfl
/-- some text of this length fits -/
def Poss (ws : List VW) (n : Nat) : Prop := ∃ cs : List Nat, cs.length = n ∧ Fits ws cs
noncomputable instance decPoss (ws : List VW) (n : Nat) : Decidable (Poss ws n) := Classical.propDecidable _
noncomputable def possL (ws : List VW) (m : Nat) : List Nat := (List.range m).filter fun n => decide (Poss ws n)
theorem mem_possL {ws : List VW} {m n : Nat} : n ∈ possL ws m ↔ n < m ∧ Poss ws n := by
  unfold possL
  rw [List.mem_filter, List.mem_range]
  exact ⟨fun h => ⟨h.1, of_decide_eq_true h.2⟩, fun h => ⟨h.1, decide_eq_true h.2⟩⟩
theorem possL_yes {ws : List VW} {m : Nat} (h : Poss ws m) : possL ws (m + 1) = possL ws m ++ [m] := by
  unfold possL
  rw [List.range_succ, List.filter_append, List.filter_cons, decide_eq_true h]
  rfl
theorem possL_no {ws : List VW} {m : Nat} (h : ¬ Poss ws m) : possL ws (m + 1) = possL ws m := by
  unfold possL
  rw [List.range_succ, List.filter_append, List.filter_cons, decide_eq_false h]
  simp only [Bool.false_eq_true, if_false, List.filter_nil, List.append_nil]
theorem possL_len (ws : List VW) (m : Nat) : (possL ws m).length ≤ m := by
  unfold possL
  exact Nat.le_trans (List.length_filter_le ..) (Nat.le_of_eq List.length_range)
theorem possL_lt (ws : List VW) {b m : Nat} (h : b ≤ m) : (possL ws m).filter (fun n => decide (n < b)) = possL ws b := by
  induction m with
  | zero =>
    obtain rfl : b = 0 := by omega
    rfl
  | succ m ih =>
    by_cases e : b = m + 1
    · subst e
      refine List.filter_eq_self.mpr fun n hn => decide_eq_true ?_
      exact (mem_possL.mp hn).1
    · have z : decide (m < b) = false := decide_eq_false (by omega)
      by_cases p : Poss ws m
      · rw [possL_yes p, List.filter_append, ih (by omega), List.filter_cons, z]
        simp only [Bool.false_eq_true, if_false, List.filter_nil, List.append_nil]
      · rw [possL_no p, ih (by omega)]
/-- what lengths tells -/
def Lens (ws : List VW) (sm : List Nat) (b : V) : Prop := (b = .non ∧ sm = possL ws 81 ∧ ¬ Poss ws 80) ∨ ∃ m : Nat, b = .int (m : Int) ∧ m ≤ 80 ∧ sm = possL ws m ∧ (∀ n, m ≤ n → n ≤ 80 → Poss ws n) ∧ (m = 0 ∨ ¬ Poss ws (m - 1))
/-- what signs tells -/
def Sgn (ws : List VW) (n : Nat) (v : V) : Prop := (v = .non ∧ ∀ cs : List Nat, cs.length = n → ¬ Fits ws cs) ∨ ∃ kvs y, v = .str y ∧ Knows n kvs (Fits ws) ∧ y.cps.toList = wrote kvs 63 n
section
variable {P : Program} {w : World} {K : PySem.W.Frag} {mg : Str → Option Value} {base : Heap} {C : Addr}
def spWritten : Sp := fun vs H Q _ => ∃ (d : Addr) (n o : Nat) (kvs : List (Key × V)) (z : Str) (Pd : List Nat → Prop), vs = [.ref d, .int (n : Int), .str z] ∧ z.cps.toList = [o] ∧ H d = some (.dK kvs) ∧ Knows n kvs Pd ∧ n ≤ 500 ∧ ∀ (y : Str) (G : Hp), Same H G → y.cps.toList = wrote kvs o n → Q (.str y) G
theorem cal_written (B : Bi mg) (D : At K mg "written_out" s_written_out ps_written_out) : Cal P w K mg base 1 "written_out" ps_written_out spWritten := by
  refine D.cal sc_written_out (fun vs H Q E h => ?_) (fun f cdv A outer s H vs Q E hr h => ?_)
  · obtain ⟨d, n, o, kvs, z, Pd, rfl, _⟩ := h
    rfl
  · obtain ⟨d, n, o, kvs, z, Pd, rfl, ez, eD, kn, hn, k⟩ := h
    obtain rfl : z = one o := str_ext ez
    refine ⟨_, (pss_one (ps_ret (pe_join pe_str (pe_lc (own := [("place", 3)]) (by rfl) sc_written_out.nd (pi_range1 (by rfl) B.range (pa_cons (pv 1) pa_nil)) (blkOk_by (own := [("place", 3)]) (N := ["known", "length", "other", "place"]) (sc := defScope s_written_out) (by decide +kernel)) (fun _ _ _ _ _ => pg_name (i := 3) sc_written_out.nd rfl (.inl rfl)) (fun _ _ _ _ _ => pts_nil) (fun _ _ _ _ _ => (pe_dget2 (Nat.lt_of_le_of_lt (Nat.add_le_add_left (by decide) _) hr.units) (pv 0) (pv 3) (pv 2) ⟨rfl, rfl, rfl, rfl⟩)))))), ?_⟩
    refine ⟨⟨_, rfl⟩, _, rfl, _, rfl, by omega, by omega, fun M nM => lc_range (lo := 0) (n := (n : Int).toNat) (fun i J => J M = some (.lst (ones (wrote kvs o i))) ∧ Same H J) ⟨upd_same, same_new nM⟩ ?_ ?_⟩
    · rintro i J hi ⟨eM, sJ⟩
      rw [Int.toNat_natCast] at hi
      refine ⟨rfl, yes (iteT ⟨_, rfl, d, rfl, .inl ⟨_, .inl (sJ _ _ eD)⟩, _, rfl, _, rfl, _, DGet.k (k := Sum.inl (0 + (i : Int))) (sJ _ _ eD), _, eM, small1000 ?_, ?_, same_offF sJ nM⟩)⟩
      · unfold ones
        rw [List.length_map, wrote_len]
        omega
      · rw [upd_same, Int.zero_add]
        have e1 : wrote kvs o (i + 1) = wrote kvs o i ++ [sgn kvs o i] := by
          unfold wrote
          rw [List.range_succ, List.map_append]
          rfl
        have e2 : (valV kvs (Sum.inl (i : Int))).getD (.str (one o)) = .str (one (sgn kvs o i)) := by
          cases e : valV kvs (Sum.inl (i : Int)) with
          | none =>
            rw [sgn_none e]
            rfl
          | some v =>
            obtain ⟨p', c', ek, _, rfl, hs⟩ := kn.ks _ _ e
            rw [sgn_some e]
            rfl
        rw [e2, e1]
        unfold ones
        rw [List.map_append]
        rfl
    · rintro J ⟨eM, sJ⟩
      rw [Int.toNat_natCast, ones_map] at eM
      refine ⟨_, M, _, rfl, rfl, .inl (.inl (.inl eM)), ?_, k _ J sJ (tjoin_ones _)⟩
      rw [ones_len, List.length_map, wrote_len]
      have e0 : (("" : String) : Str).length = 0 := by decide +kernel
      rw [e0]
      omega
def spSigns (C : Addr) : Sp := fun vs H Q _ => ∃ (a : Addr) (n : Nat) (ws : List VW), vs = [.ref a, .int (n : Int)] ∧ ViewsAt C H a ws ∧ n ≤ 500 ∧ ∀ (v : V) (G : Hp), Same H G → Sgn ws n v → Q v G
theorem several : (("?" : String) : Str).cps.toList = [63] := by decide +kernel
theorem cal_signs (B : Bi mg) (D : At K mg "signs" s_signs ps_signs) (C_check_views : Cal P w K mg base 4 "check_views" ps_check_views (spCheckViews C)) (C_check_length : Cal P w K mg base 2 "check_length" ps_check_length spCheckLength) (C_known_signs : Cal P w K mg base 3 "known_signs" ps_known_signs (spKnown C)) (C_written_out : Cal P w K mg base 1 "written_out" ps_written_out spWritten) : Cal P w K mg base 5 "signs" ps_signs (spSigns C) := by
  refine D.cal sc_signs (fun vs H Q E h => ?_) (fun f cdv A outer s H vs Q E hr h => ?_)
  · obtain ⟨a, n, ws, rfl, _⟩ := h
    rfl
  · obtain ⟨a, n, ws, rfl, hV, hn, k⟩ := h
    refine ⟨_, (pss_cons (ps_expr (pe_own C_check_views hr (by decide) (by rfl) (pa_cons (pv 0) pa_nil)))
      (pss_cons (ps_expr (pe_own C_check_length hr (by decide) (by rfl) (pa_cons (pv 1) pa_nil)))
      (pss_cons (ps_set (i := 2) sc_signs.nd rfl (.inl rfl) (pe_own C_known_signs hr (by decide) (by rfl) (pa_cons (pv 0) (pa_cons (pv 1) pa_nil))))
      (pss_cons (ps_if (pt_cmpR op_isN (pv 2) pe_non (nomark _)) (pss_one (ps_ret pe_non)) pss_nil)
      (pss_one (ps_ret (pe_own C_written_out hr (by decide) (by rfl) (pa_cons (pv 2) (pa_cons (pv 1) (pa_cons (pe_cst B.SEVERAL (by rfl)) pa_nil)))))))))), ?_⟩
    refine ⟨_, rfl, a, ws, rfl, hV, fun G1 s1 => ?_⟩
    refine ⟨_, rfl, n, rfl, hn, ?_⟩
    refine ⟨_, rfl, _, rfl, a, n, ws, rfl, hV.same s1, hn, fun no G2 s2 => ?_, fun d kvs G2 nd s2 eD kn => ?_⟩
    · exact ⟨_, rfl, rfl, _, rfl, iteT (k _ G2 (s1.trans s2) (.inl ⟨rfl, no⟩))⟩
    · refine ⟨_, rfl, rfl, _, rfl, iteF ⟨_, rfl, _, rfl, d, n, 63, kvs, _, _, rfl, several, eD, kn, hn, fun y G3 s3 ey => ?_⟩⟩
      exact k _ G3 (s1.trans (s2.trans s3)) (.inr ⟨kvs, y, rfl, kn, ey⟩)
/-! ### number_of -/
def manyOf : V → Int
  | .str y => (38 : Int) ^ (y.cps.toList.count 63)
  | _ => 0
def spNumber (C : Addr) : Sp := fun vs H Q _ => ∃ (a : Addr) (n : Nat) (ws : List VW), vs = [.ref a, .int (n : Int)] ∧ ViewsAt C H a ws ∧ n ≤ 500 ∧ ∀ (v : V) (G : Hp), Same H G → Sgn ws n v → Q (.int (manyOf v)) G
theorem cal_number (B : Bi mg) (D : At K mg "number_of" s_number_of ps_number_of) (C_signs : Cal P w K mg base 5 "signs" ps_signs (spSigns C)) : Cal P w K mg base 6 "number_of" ps_number_of (spNumber C) := by
  refine D.cal sc_number_of (fun vs H Q E h => ?_) (fun f cdv A outer s H vs Q E hr h => ?_)
  · obtain ⟨a, n, ws, rfl, _⟩ := h
    rfl
  · obtain ⟨a, n, ws, rfl, hV, hn, k⟩ := h
    refine ⟨_, (pss_cons (ps_set (i := 2) sc_number_of.nd rfl (.inl rfl) (pe_own C_signs hr (by decide) (by rfl) (pa_cons (pv 0) (pa_cons (pv 1) pa_nil))))
      (pss_cons (ps_if (pt_cmpR op_isN (pv 2) pe_non (nomark _)) (pss_one (ps_ret pe_int)) pss_nil)
      (pss_cons (ps_set (i := 3) sc_number_of.nd rfl (.inl rfl) pe_int)
      (pss_cons (ps_for PassesOwn.never rfl (pi_str (pv 2)) (pg_name (i := 4) sc_number_of.nd rfl (.inl rfl))
      (pss_one (ps_if (pt_cmpR op_eq (pv 4) (pe_cst B.SEVERAL (by rfl)) (nomark _)) (pss_one (ps_aug (i := 3) sc_number_of.nd rfl (.inl rfl) (pe_callB call_len (by rfl) B.len (by decide +kernel) (pa_cons (pe_cst B.SIGNS (by rfl)) pa_nil)) iop_mul)) pss_nil)))
      (pss_one (ps_ret (pv 3))))))), ?_⟩
    refine ⟨_, rfl, _, rfl, a, n, ws, rfl, hV, hn, fun v G1 s1 hv => ?_⟩
    refine ⟨_, rfl, rfl, _, rfl, ?_⟩
    have kk := k v G1 s1 hv
    rcases hv with ⟨rfl, _⟩ | ⟨kvs, y, rfl, kn, ey⟩
    · exact iteT kk
    · refine iteF ⟨_, rfl, y, rfl, for_it walk_str (fun i σ J => ∃ u, σ = [some (.ref a), some (.int (n : Int)), some (.str y), some (.int ((38 : Int) ^ ((y.cps.toList.take i).count 63))), u] ∧ J = G1) ⟨none, rfl, rfl⟩ (fun _ _ _ _ _ => trivial) ?_ ?_⟩
      · rintro i v2 σ J _ hi ⟨u, rfl, rfl⟩ ⟨rfl, c, hc, rfl⟩
        have hc' : y.cps.toList[i]? = some c := by
          rw [← Array.getElem?_toList] at hc
          exact hc
        have e63 : (("?" : String) : Str) = ⟨#[63]⟩ := by decide +kernel
        refine ⟨_, rfl, rfl, _, rfl, ?_⟩
        by_cases h63 : c = 63
        · subst h63
          rw [decide_eq_true (show V.str ⟨#[63]⟩ = V.str ("?" : String) by rw [e63])]
          refine iteT ⟨_, rfl, _, _, rfl, ⟨by decide +kernel, rfl⟩, _, _, rfl, rfl, .inr ⟨by decide +kernel, by decide +kernel⟩, ?_⟩
          refine ⟨some (.str ⟨#[63]⟩), ?_, rfl⟩
          rw [takeF_next hc', List.count_append]
          show [_, _, _, some (V.int ((38 : Int) ^ ((y.cps.toList.take i).count 63) * ((signs.length : Nat) : Int))), _] = _
          rw [show (signs.length : Nat) = 38 by decide +kernel, show List.count 63 [63] = 1 by decide, Int.pow_succ]
          rfl
        · rw [decide_eq_false (show ¬ V.str ⟨#[c]⟩ = V.str ("?" : String) by
            rw [e63]
            exact fun h => h63 (one_inj h))]
          refine iteF ⟨some (.str ⟨#[c]⟩), ?_, rfl⟩
          rw [takeF_next hc', List.count_append, List.count_singleton, if_neg (by simpa using fun h => h63 h), Nat.add_zero]
          rfl
      · rintro σ J ⟨u, rfl, rfl⟩
        rw [List.take_of_length_le (show y.cps.toList.length ≤ y.cps.size from Nat.le_refl _)]
        exact ⟨_, rfl, kk⟩
/-! ### lengths -/
def spLengths (C : Addr) : Sp := fun vs H Q _ => ∃ (a : Addr) (ws : List VW), vs = [.ref a] ∧ ViewsAt C H a ws ∧ ∀ (T S : Addr) (sm : List Nat) (b : V) (G : Hp), Same H G → G T = some (.tup [.ref S, b]) → G S = some (.tup (natV sm)) → Lens ws sm b → Q (.ref T) G
def Least (ws : List VW) (v : V) : Prop := (v = .non ∧ possL ws 81 = []) ∨ ∃ n kvs y, v = .str y ∧ n ≤ 80 ∧ Poss ws n ∧ (∀ m, m < n → ¬ Poss ws m) ∧ Knows n kvs (Fits ws) ∧ y.cps.toList = wrote kvs 46 n
def spLeast (C : Addr) : Sp := fun vs H Q _ => ∃ (a : Addr) (ws : List VW), vs = [.ref a] ∧ ViewsAt C H a ws ∧ ∀ (v : V) (G : Hp), Same H G → Least ws v → Q v G
theorem possL_head {ws : List VW} {m q : Nat} {l : List Nat} (h : possL ws m = q :: l) : q < m ∧ Poss ws q ∧ ∀ k, k < q → ¬ Poss ws k := by
  have hq := mem_possL.mp (show q ∈ possL ws m by rw [h]; exact List.mem_cons_self ..)
  refine ⟨hq.1, hq.2, fun k hk hp => ?_⟩
  have mk : k ∈ possL ws m := mem_possL.mpr ⟨by omega, hp⟩
  have pw : (possL ws m).Pairwise (· < ·) := by
    unfold possL
    exact List.Pairwise.filter _ List.pairwise_lt_range
  rw [h] at mk pw
  rcases List.mem_cons.mp mk with e | e
  · omega
  · have := (List.pairwise_cons.mp pw).1 k e
    omega
theorem dot1 : (⟨#[46]⟩ : Str).cps.toList = [46] := rfl
def Sole (ws : List VW) (v : V) : Prop := v = .non ∨ ∃ n kvs y, v = .str y ∧ possL ws 81 = [n] ∧ ¬ Poss ws 80 ∧ Knows n kvs (Fits ws) ∧ y.cps.toList = wrote kvs 63 n ∧ 63 ∉ y.cps.toList
def spOnly (C : Addr) : Sp := fun vs H Q _ => ∃ (a : Addr) (ws : List VW), vs = [.ref a] ∧ ViewsAt C H a ws ∧ ∀ (v : V) (G : Hp), Same H G → Sole ws v → Q v G
end
end Gu
namespace Gu
open PySem PySem.Spec PyProof.Rows L2 HT
/-! ### t[::-1] of a tuple -/
theorem fm_congr {α β : Type} {f g : α → Option β} : ∀ {l : List α}, (∀ m ∈ l, f m = g m) → l.filterMap f = l.filterMap g
  | [], _ => rfl
  | a :: l, h => by
    rw [List.filterMap_cons, List.filterMap_cons, h a (List.mem_cons_self ..), fm_congr fun m hm => h m (List.mem_cons_of_mem _ hm)]
/-- the places, from the last one down -/
theorem back_pick (xs : Array Value) : ((List.range xs.size).filterMap fun (m : Nat) => xs[(((xs.size : Nat) : Int) - 1 + (m : Int) * -1).toNat]?).toArray = xs.toList.reverse.toArray := by
  have e : ∀ m ∈ List.range xs.size, (fun (m : Nat) => xs[(((xs.size : Nat) : Int) - 1 + (m : Int) * -1).toNat]?) m = ((xs[·]?) ∘ fun k => xs.size - 1 - k) m := fun m hm => by
    have := List.mem_range.mp hm
    have e2 : (((xs.size : Nat) : Int) - 1 + (m : Int) * -1).toNat = xs.size - 1 - m := by omega
    exact congrArg (xs[·]?) e2
  rw [fm_congr e, ← List.filterMap_map, PySem.W.krv_range, List.filterMap_reverse, PySem.W.krv_all]
theorem back_places (n : Nat) : Builtin.Slice.slicePlaces ((n : Int) - 1) (-1) (-1) = n := by
  have down : ¬ (-1 : Int) > 0 := by omega
  have one : (- -1 : Int) = 1 := by omega
  simp only [Builtin.Slice.slicePlaces, down, if_false, one, Int.ediv_one]
  split <;> omega
section
variable {prog : Program} {w : World} {A : Around} {E : Value → Shared → Prop} {z : Shared} {t c : Addr} {its : Array Value} {v1 v2 v3 : Value} {R : Value → Shared → Prop}
/-- a slice without bounds and with the step -1, over n places -/
theorem back_applied {n : Nat} {R : Int × Int × Nat → Shared → Prop} (at_c : z.heap.IsSliceOf c v1 v2 v3) (a1 : IsPart v1 none) (a2 : IsPart v2 none) (a3 : IsPart v3 (some (-1))) (k : R ((n : Int) - 1, -1, n) z) : wpAny (model prog w) A (Builtin.Slice.sliceApplied (.ref c) (pure (n : Int))) R E z := by
  obtain ⟨o, g, _, d⟩ := id at_c
  have last : wpAny (model prog w) A (pure ((n : Int) - 1, (-1 : Int), Builtin.Slice.slicePlaces ((n : Int) - 1) (-1) (-1))) R E z := wpAny_pure (by rw [back_places]; exact k)
  have parts : wpAny (model prog w) A (Builtin.Slice.sliceFields (.ref c)) (fun f y => f = (v1, v2, v3) ∧ y = z) E z := wpAny_bind (wpAny_field g d (x := v1) rfl (wpAny_bind (wpAny_field g d (x := v2) rfl (wpAny_bind (wpAny_field g d (x := v3) rfl (wpAny_pure ⟨rfl, rfl⟩))))))
  refine wpAny_bind (wpAny_mono parts (fun f y ⟨ef, ey⟩ => ?_) fun _ _ x => x)
  subst ef ey
  exact wpAny_bind (slicePart_ a3 (wpAny_bind (slicePart_ a1 (wpAny_bind (slicePart_ a2 (wpAny_bind (wpAny_pure last)))))))
theorem back_item (at_t : IsTup z.heap t its) (at_c : z.heap.IsSliceOf c v1 v2 v3) (a1 : IsPart v1 none) (a2 : IsPart v2 none) (a3 : IsPart v3 (some (-1))) (small : its.size ≤ sizeLine)
    (k : R (.ref z.heap.objs.size) { z with heap := z.heap.push { cls := .type "tuple", data := .seq its.toList.reverse.toArray } }) : wpAny (model prog w) A (getItem (.ref t) (.ref c)) R E z := by
  have fits : sizeOk (.seq its.toList.reverse.toArray) := by
    rw [sizeOk, List.size_toArray, List.length_reverse, Array.length_toList]
    exact small
  obtain ⟨o, g, cl, _⟩ := id at_c
  have other : ((its.size : Int) - 1 == 0 && (-1 : Int) == 1 && its.size == its.size) = false := by
    rw [show ((-1 : Int) == 1) = false from rfl, Bool.and_false]
    rfl
  refine wpAny_getItem_slot at_t.typeIs (by decide) PyProof.Rows.slot_tuple_getitem (wpAny_call_entry PyProof.Rows.slot_tuple_getitem at_t.typeIs entry_tuple_getitem ?_ (args_tuple_getitem _ _))
  refine wpAny_bind (m := Builtin.Tuple.tupleItemsOf (.ref t)) (tupleItemsOf_ at_t (wpAny_bind (wpAny_typeOf (T := "slice") ⟨o, g, cl⟩ ?_)))
  rw [if_pos (by decide)]
  refine wpAny_bind (back_applied at_c a1 a2 a3 ?_)
  show wpAny _ _ (if ((its.size : Int) - 1 == 0 && (-1 : Int) == 1 && its.size == its.size) = true then _ else _) _ _ z
  rw [other, if_neg (by decide), back_pick]
  have made : wpAny (model prog w) A.in1 (Builtin.Tuple.tupleExact its.toList.reverse.toArray) (fun v y => v = .ref z.heap.objs.size ∧ y = { z with heap := z.heap.push { cls := .type "tuple", data := .seq its.toList.reverse.toArray } }) E z := wpAny_newObj_type ⟨rfl, rfl⟩ fits
  refine wpAny_bind (wpAny_mono made (fun v y ⟨ev, ey⟩ => ?_) fun _ _ x => x)
  subst ev ey
  exact wpAny_pure ⟨_, rfl, k⟩
end
section
variable {X : Cx}
def tRevT (K : PySem.W.Frag) (te : TE) : TE := fun σ H Q => te σ H fun x G => ∃ a xs, x = .ref a ∧ SqT K G a xs ∧ ∀ p, G p = none → Q (.ref p) (upd G p (.tup xs.reverse))
theorem pe_revT {e : Expr} {te : TE} {k : Nat} {p1 p2 p3 pos : Pos} (he : PE X e te) : PE X (.Subscript e (.Slice none none (some (.UnaryOp .USub (.Constant (.int 1) k p1) p2)) p3) pos) (tRevT X.K te) := by
  have step : PO X (some (.UnaryOp .USub (.Constant (.int 1) k p1) p2)) (tPart (tUn (rU fun i => .int (-i)) (tC (.int 1)))) := po_some (pe_un un_neg pe_int)
  refine ⟨fun pn z0 st H0 R inv want => Subscript_ (thn (he.run pn z0 st H0 _ inv want) fun v z1 ⟨y, H1, inv1, rel, a, xs, ey, sq, go⟩ => ?_)⟩
  subst ey
  cases rel
  refine wpAny_Slice (thn (po_none.run pn z1 st H1 (fun o G => o = none ∧ G = H1) inv1 ⟨rfl, rfl⟩) fun v1 z2 ⟨o1, H2, inv2, a1, b1, c1⟩ => thn (po_none.run pn z2 st H2 (fun o G => o = none ∧ G = H1) inv2 ⟨rfl, c1⟩) fun v2 z3 ⟨o2, H3, inv3, a2, b2, c2⟩ => thn (step.run pn z3 st H3 (fun o G => o = some (-1) ∧ G = H1) inv3 ⟨1, rfl, -1, rfl, rfl, c2⟩) fun v3 z4 ⟨o3, H4, inv4, a3, b3, c3⟩ => ?_)
  subst b1 c1 b2 b3
  subst c2
  subst c3
  have inv5 := inv4.kept (t' := z4.toks) (h' := z4.heap.push { cls := .type "slice", data := .fields #[v1, v2, v3] }) fun b ob g => Heap.get?_push_of_some _ g
  obtain ⟨its, r, tup, small⟩ := inv5.tuple sq
  have len : its.toArray.size ≤ sizeLine := by
    have := r.length
    rw [List.size_toArray]
    omega
  refine tail_any (ops := [.ref a, .ref z4.heap.objs.size]) tup.typeIs PyProof.Rows.slot_tuple_getitem.lookup (back_item tup (Heap.IsSliceOf.new _ v1 v2 v3) a1 a2 a3 len ?_) (by with_unfolding_all rfl)
  exact ⟨.ref _, _, inv5.laid (t' := z4.toks) (o := .tup xs.reverse) (fun b ob g => Heap.get?_push_of_some _ g) (Nat.le_refl _) ⟨by rw [List.length_reverse]; exact small, _, r.reverse, _, Heap.get?_push_size _ rfl, rfl, _, rfl⟩, rfl, go _ (inv5.hok.fresh (Nat.le_refl _))⟩
end
end Gu
namespace Gu
open PySem PySem.Spec PyProof.Rows L2
/-! ### lists told apart: in another order, with more texts, by more shorteners -/
theorem sepB_sub {rs : List Rec} {xs ys : List Str} (h : ∀ x ∈ xs, x ∈ ys) (s : sepB rs ys = true) : sepB rs xs = true := sepB_iff.mpr fun a ha b hb e => sepB_iff.mp s a (h a ha) b (h b hb) e
theorem sepB_same {rs : List Rec} {xs ys : List Str} (h : ∀ x, x ∈ xs ↔ x ∈ ys) : sepB rs xs = sepB rs ys := by
  cases e : sepB rs ys with
  | true => exact sepB_sub (fun x hx => (h x).mp hx) e
  | false =>
    refine Bool.eq_false_iff.mpr fun q => ?_
    rw [sepB_sub (fun x hx => (h x).mpr hx) q] at e
    cases e
theorem shown_app (rs ss : List Rec) (z : Str) : shown (rs ++ ss) z = shown ss (shown rs z) := str_ext (by
  rw [shown_cps, shown_cps, shown_cps]
  unfold cuts
  rw [List.foldl_append])
theorem sepB_row {rs ss : List Rec} {xs : List Str} (s : sepB (rs ++ ss) xs = true) : sepB rs xs = true := sepB_iff.mpr fun a ha b hb e => sepB_iff.mp s a ha b hb (by rw [shown_app, shown_app, e])
end Gu
namespace Gu
open PySem PySem.Spec PyProof.Rows L2
def rev3 {α : Type} : List α → List α
  | [a, b, c] => [c, b, a]
  | l => l
theorem rev3_vals {zs : List V} {ws : List Value} (r : Vals zs ws) : Vals (rev3 zs) (rev3 ws) := by
  cases r with
  | nil => exact .nil
  | cons a r =>
    cases r with
    | nil => exact .cons a .nil
    | cons b r =>
      cases r with
      | nil => exact .cons a (.cons b .nil)
      | cons c r =>
        cases r with
        | nil => exact .cons c (.cons b (.cons a .nil))
        | cons d r => exact .cons a (.cons b (.cons c (.cons d r)))
/-- what == looks into -/
theorem shapedL {ds : List PyData} (h : ∀ d ∈ ds, d.canLay0 = true ∧ d.depth ≤ 10) : SeqAt.shaped (.list ds) = true := by
  have a : ∀ ds : List PyData, (∀ d ∈ ds, d.canLay0 = true ∧ d.depth ≤ 10) → PyData.canLayAll0 ds = true ∧ PyData.depthAll ds ≤ 10 := by
    intro ds
    induction ds with
    | nil => exact fun _ => ⟨rfl, Nat.zero_le _⟩
    | cons d ds ih =>
      intro h
      have b := ih fun e he => h e (List.mem_cons_of_mem _ he)
      have c := h d (List.mem_cons_self ..)
      refine ⟨?_, Nat.max_le.mpr ⟨c.2, b.2⟩⟩
      show (d.canLay0 && PyData.canLayAll0 ds) = true
      rw [c.1, b.1]
      rfl
  have b := a ds h
  unfold SeqAt.shaped
  rw [Bool.and_eq_true]
  refine ⟨b.1, decide_eq_true ?_⟩
  show PyData.depthAll ds + 1 ≤ 64
  omega
theorem dp_ints {K : PySem.W.Frag} {H : Hp} : ∀ is : List Int, DpAll K H (is.map V.int) (is.map PyData.int)
  | [] => .nil
  | _ :: r => .cons (.int _) (dp_ints r)
theorem fine_ints {is : List Int} (l : is.length ≤ 100) (h : ∀ i ∈ is, i.natAbs < 2 ^ 70) : Fine 1 (100 * 71) (.tuple (is.map PyData.int)) := by
  have a : FineAll 0 70 (is.map PyData.int) := .of fun d hd => by
    obtain ⟨i, hi, rfl⟩ := List.mem_map.mp hd
    exact .int (h i hi)
  refine a.tup.mono (Nat.le_refl _) ?_
  rw [List.length_map]
  exact Nat.mul_le_mul_right _ l
theorem fine_two {n W : Nat} {d e : PyData} (a : Fine n W d) (b : Fine n W e) (hn : n + 1 ≤ 60) (hW : 2 * (W + 1) ≤ 100000) : Fine 60 100000 (.list [d, e]) := by
  have c : FineAll n W [d, e] := .of fun x hx => by
    simp only [List.mem_cons, List.not_mem_nil, or_false] at hx
    rcases hx with rfl | rfl
    · exact a
    · exact b
  exact c.list.mono hn hW
theorem marks_txt {z : Str} (h : z ∈ marks) : isTxt z 3 = true := by
  have a : ∀ y ∈ marks, isTxt y 3 = true := by decide +kernel
  exact a z h
theorem fam_ok {kd : Kd} {z : Str} {w : Int} (hz : z ∈ marks) (h1 : (z.length : Int) ≤ w) (h2 : w ≤ 40) : (fam kd z w).ok := by
  have f := fam_fit kd (marks_txt hz) h1 h2
  have e : (fam kd z w).z = z := by cases kd <;> rfl
  exact ⟨f.l.1, f.l.2, f.h.1, f.h.2, f.t.1, f.t.2, by rw [e]; exact hz⟩
end Gu
namespace Gu
open PySem PySem.Spec PyProof.Rows L2
/-! ### widths and groups of lists in another order, with more texts -/
theorem wid_same {kd : Kd} {z : Str} {xs ys : List Str} (h : ∀ x, x ∈ xs ↔ x ∈ ys) : widAll kd z xs = widAll kd z ys := by
  unfold widAll widL
  exact List.filter_congr fun w _ => sepB_same h
theorem wid_sub {kd : Kd} {z : Str} {xs ys : List Str} (h : ∀ x ∈ xs, x ∈ ys) : ∀ i ∈ widAll kd z ys, i ∈ widAll kd z xs := fun i hi => by
  unfold widAll widL at hi ⊢
  obtain ⟨h1, h2⟩ := List.mem_filter.mp hi
  exact List.mem_filter.mpr ⟨h1, sepB_sub h h2⟩
theorem wid_len (kd : Kd) (z : Str) (zs : List Str) : (widAll kd z zs).length ≤ 41 := Nat.le_trans (widL_len kd z zs _) (by omega)
theorem grp_ab : grpL ((["a", "b"] : List Str).map (shown [⟨0, 0, 0, ""⟩])) = [[0, 1]] := by decide +kernel
theorem grp_mem {ss : List Str} {g : List Nat} (h : g ∈ grpL ss) : ∃ s, g = idxs ss s ∧ 1 < g.length := by
  unfold grpL at h
  obtain ⟨h1, h2⟩ := List.mem_filter.mp h
  obtain ⟨q, hq, rfl⟩ := List.mem_map.mp h1
  unfold glL at hq
  obtain ⟨s, _, rfl⟩ := List.mem_map.mp hq
  exact ⟨s, rfl, of_decide_eq_true h2⟩
theorem grp_ends {f : Str → Str} {zs : List Str} {g : List Nat} (h : g ∈ grpL (zs.map f)) : ∃ (a b : Nat) (y z : Str), atI (g.map natI) 0 = some (natI a) ∧ atI (g.map natI) (-1) = some (natI b) ∧ zs[a]? = some y ∧ zs[b]? = some z ∧ f y = f z := by
  obtain ⟨s, e, l⟩ := grp_mem h
  have all : ∀ j ∈ g, ∃ y, zs[j]? = some y ∧ f y = s := fun j hj => by
    rw [e] at hj
    have q := idxs_mem.mp hj
    rw [List.getElem?_map] at q
    cases hz : zs[j]? with
    | none =>
      rw [hz] at q
      cases q
    | some y =>
      rw [hz] at q
      exact ⟨y, rfl, Option.some.inj q⟩
  clear e h
  obtain ⟨a, r, rfl⟩ : ∃ a r, g = a :: r := by
    cases g with
    | nil => cases l
    | cons a r => exact ⟨a, r, rfl⟩
  obtain ⟨q, b, e⟩ : ∃ q b, a :: r = q ++ [b] := ⟨_, _, (List.dropLast_concat_getLast (by intro z; cases z)).symm⟩
  obtain ⟨y, y1, y2⟩ := all a (List.mem_cons_self ..)
  obtain ⟨z, z1, z2⟩ := all b (by rw [e]; exact List.mem_append_right _ (List.mem_singleton.mpr rfl))
  refine ⟨a, b, y, z, atI_nat (j := 0) rfl, ?_, y1, z1, by rw [y2, z2]⟩
  rw [e, List.map_append]
  exact atI_last _ _
theorem inV_ints (y : Int) (ys : List Int) : inV (.int y) (ys.map V.int) = decide (y ∈ ys) := by
  induction ys with
  | nil => rfl
  | cons x xs ih =>
    show (eqV (.int x) (.int y) || inV (.int y) (xs.map V.int)) = _
    rw [ih]
    by_cases h : x = y
    · subst h
      have e : eqV (.int x) (.int x) = true := decide_eq_true rfl
      rw [e, Bool.true_or, decide_eq_true (List.mem_cons_self ..)]
    · have e : eqV (.int x) (.int y) = false := decide_eq_false fun q => h q
      rw [e, Bool.false_or]
      refine decide_eq_decide.mpr ⟨fun q => List.mem_cons_of_mem _ q, fun q => ?_⟩
      rcases List.mem_cons.mp q with q | q
      · exact absurd q.symm h
      · exact q
theorem flatI (ys : List Int) : (ys.map V.int).all flatV = true := by
  rw [List.all_map, List.all_eq_true]
  exact fun _ _ => rfl
theorem shapedT {ds : List PyData} (h : ∀ d ∈ ds, d.canLay0 = true ∧ d.depth ≤ 10) : SeqAt.shaped (.tuple ds) = true := shapedL h
end Gu
namespace Gu
open PySem PySem.Spec PyProof.Rows L2
theorem walk_zipT {K : PySem.W.Frag} {a b : Addr} {xs ys : List V} {n : Nat} (hn : n = min xs.length ys.length) : Walk (RZ.ItzT K a b) n (fun H => SqT K H a xs ∧ SqT K H b ys) (YPair (fun i => xs[i]?) (fun i => ys[i]?)) := by
  subst hn
  refine ⟨fun i _ hi q => ?_, fun _ q => ⟨xs, ys, q.1, q.2, by omega⟩, fun i H v H' _ q y => ?_⟩
  · have h1 : i < xs.length := by omega
    have h2 : i < ys.length := by omega
    exact ⟨xs, ys, xs[i], ys[i], q.1, q.2, List.getElem?_eq_getElem h1, List.getElem?_eq_getElem h2⟩
  · obtain ⟨T, x, z, h1, h2, h3, h4, h5⟩ := y
    exact ⟨T, x, z, h1, h2, h3, h4 xs q.1, h5 ys q.2⟩
theorem cutV_front (xs : List V) (i : Nat) : cutV xs none (some (i : Int)) = xs.take i := by
  unfold cutV
  rw [HT.sIx_none, HT.sIx_nat, List.drop_zero, Nat.sub_zero, List.take_eq_take_iff]
  omega
theorem cutV_back (xs : List V) (i : Nat) : cutV xs (some (i : Int)) none = xs.drop i := by
  have q := cut_back xs (h := (i : Int)) (by omega)
  rw [Int.toNat_natCast] at q
  exact q
/-- told tuples, in pieces -/
structure Tups (G : Hp) (ps : List (Addr × Rec)) : Prop where
  tp : ∀ q ∈ ps, G q.1 = some (.tup q.2.vs) ∧ q.2.ok
theorem ToldsAt.tups {G : Hp} {D : Addr} {ps : List (Addr × Rec)} (h : ToldsAt G D ps) : Tups G ps := ⟨h.tp⟩
theorem Tups.same {H G : Hp} {ps : List (Addr × Rec)} (s : Same H G) (h : Tups H ps) : Tups G ps := ⟨fun q hq => ⟨s _ _ (h.tp q hq).1, (h.tp q hq).2⟩⟩
theorem Tups.take {G : Hp} {ps : List (Addr × Rec)} (h : Tups G ps) (n : Nat) : Tups G (ps.take n) := ⟨fun q hq => h.tp q (List.mem_of_mem_take hq)⟩
theorem Tups.drop {G : Hp} {ps : List (Addr × Rec)} (h : Tups G ps) (n : Nat) : Tups G (ps.drop n) := ⟨fun q hq => h.tp q (List.mem_of_mem_drop hq)⟩
theorem Tups.app {G : Hp} {ps qs : List (Addr × Rec)} (h : Tups G ps) (k : Tups G qs) : Tups G (ps ++ qs) := ⟨fun q hq => by
  rcases List.mem_append.mp hq with hq | hq
  · exact h.tp q hq
  · exact k.tp q hq⟩
theorem Tups.one {G : Hp} {a : Addr} {r : Rec} (h : G a = some (.tup r.vs)) (o : r.ok) : Tups G [(a, r)] := ⟨fun q hq => by
  rw [List.mem_singleton.mp hq]
  exact ⟨h, o⟩⟩
theorem Tups.told {G : Hp} {D : Addr} {ps : List (Addr × Rec)} (h : Tups G ps) (e : G D = some (.lst (ps.map fun q => V.ref q.1))) : ToldsAt G D ps := ⟨e, h.tp⟩
theorem Tups.off {G : Hp} {p : Addr} {ps : List (Addr × Rec)} (h : Tups G ps) (hp : Pot G p) : ∀ q ∈ ps, q.1 ≠ p := fun q hq => by
  obtain ⟨x, y, z, e⟩ := hp
  exact ne_of (h.tp q hq).1 e (by intro z; cases z)
theorem Tups.ladled {H G : Hp} {p : Addr} {ps : List (Addr × Rec)} (L : Ladled p H G) (hp : Pot H p) (h : Tups H ps) : Tups G ps := ⟨fun q hq => ⟨L.keep _ _ (h.tp q hq).1 (h.off hp q hq), (h.tp q hq).2⟩⟩
abbrev refsOf (ps : List (Addr × Rec)) : List V := ps.map fun q => V.ref q.1
end Gu
namespace Gu
open PySem PySem.Spec PyProof.Rows L2
theorem iteFb {b : Bool} {X Y : Prop} (h : b = true) (y : Y) : if (!b) = true then X else Y := by
  rw [h]
  exact y
theorem fit_zero : (⟨0, 0, 0, ("" : String)⟩ : Rec).fit := ⟨⟨by decide, by decide⟩, ⟨by decide, by decide⟩, ⟨by decide, by decide⟩, by decide +kernel⟩
theorem fit_last {n : Int} (h0 : 0 ≤ n) (h1 : n < 41) : (⟨n, 2, 1, ("~" : String)⟩ : Rec).fit := ⟨⟨h0, by show n ≤ 40; omega⟩, ⟨by show (0 : Int) ≤ 2; decide, by show (2 : Int) ≤ 40; decide⟩, ⟨by show (0 : Int) ≤ 1; decide, by show (1 : Int) ≤ 40; decide⟩, by show isTxt "~" 3 = true; decide +kernel⟩
theorem at_str {zs : List Str} {j : Nat} {z : Str} (h : zs[j]? = some z) : (zs.map V.str)[j]? = some (V.str z) := by
  rw [List.getElem?_map, h]
  rfl
theorem pow38_ge (n : Nat) : 1 ≤ (38 : Int) ^ n := by
  have h : (0 : Int) < (38 : Int) ^ n := Int.pow_pos (by decide)
  omega
section
variable {P : Program} {w : World} {K : PySem.W.Frag} {mg : Str → Option Value} {base : Heap} {C : Addr}
set_option maxHeartbeats 4000000 in
theorem cal_right (B : Bi mg) (D : At K mg "_law_right" s_law_right ps_law_right) (C_law_ladle : Cal P w K mg base 1 "_law_ladle" ps_law_ladle spLadle) (C_law_one_of : Cal P w K mg base 2 "_law_one_of" ps_law_one_of (spOneOf K)) (C_law_line : Cal P w K mg base 3 "_law_line" ps_law_line spLine) (C_law_tolds : Cal P w K mg base 4 "_law_tolds" ps_law_tolds spTolds) (C_law_some_lines : Cal P w K mg base 4 "_law_some_lines" ps_law_some_lines spSomeLines) (C_law_made : Cal P w K mg base 5 "_law_made" ps_law_made (spMade C)) (M_sh : Mak P w K mg base 3 "Shortener" C (spInit C))
    (C_tells_apart : Cal P w K mg base 4 "tells_apart" ps_tells_apart (spTells K C)) (C_widths : Cal P w K mg base 6 "widths" ps_widths (spWidths K)) (C_groups : Cal P w K mg base 3 "groups" ps_groups (spGroups K C)) (C_holds : Cal P w K mg base 7 "holds" ps_holds (spHolds K)) (C_number_of : Cal P w K mg base 6 "number_of" ps_number_of (spNumber C)) (C_show : Cal P w K mg base 3 "show" ps_show (spShow C)) : CalG P w K mg base 8 "_law_right" ps_law_right spRight := by
  refine D.calG sc_law_right (fun vs H Q E h => ?_) (fun f cdv A outer s H vs Q E hr quiet h => ?_)
  · obtain ⟨p, rfl, _⟩ := h
    rfl
  · obtain ⟨p, rfl, hp, k⟩ := h
    refine ⟨_, (pss_cons (ps_for PassesOwn.never rfl (pi_range1 (by rfl) B.range (pa_cons pe_int pa_nil)) (pg_name (i := 1) sc_law_right.nd rfl (.inl rfl))
      (pss_cons (ps_par (i := 2) (j := 3) (by rfl) sc_law_right.nd rfl rfl (by decide) rfl rfl (pa_cons (pe_slice sl_list (pe_own C_law_tolds hr (by decide) (by rfl) (pa_cons (pv 0) pa_nil)) po_none (po_some pe_int)) (pa_cons (pe_own C_law_some_lines hr (by decide) (by rfl) (pa_cons (pv 0) (pa_cons pe_int pa_nil))) pa_nil)) (by rfl))
      (pss_cons (ps_par (i := 4) (j := 5) (by rfl) sc_law_right.nd rfl rfl (by decide) rfl rfl (pa_cons (pe_own C_law_made hr (by decide) (by rfl) (pa_cons (pv 2) pa_nil)) (pa_cons (pe_own C_law_one_of hr (by decide) (by rfl) (pa_cons (pv 0) (pa_cons (pe_lst (pa_cons pe_str (pa_cons pe_str (pa_cons pe_str pa_nil)))) pa_nil))) pa_nil)) (by rfl))
      (pss_cons (ps_par (i := 6) (j := 7) (by rfl) sc_law_right.nd rfl rfl (by decide) rfl rfl (pa_cons (pe_own C_tells_apart hr (by decide) (by rfl) (pa_cons (pv 4) (pa_cons (pv 3) pa_nil))) (pa_cons (pe_op op_catA (pv 3) (pe_tup (pa_cons (pe_own C_law_line hr (by decide) (by rfl) (pa_cons (pv 0) (pa_cons (pe_own C_law_ladle hr (by decide) (by rfl) (pa_cons (pv 0) (pa_cons pe_int pa_nil))) pa_nil))) pa_nil))) pa_nil)) (by rfl))
      (pss_cons (ps_if (PW.pt (pw_or (pt_cmpR op_ne (pe_own C_tells_apart hr (by decide) (by rfl) (pa_cons (pv 4) (pa_cons (pe_revT (pv 3)) pa_nil))) (pv 6) (nomark _)) (pw_or1 (pt_cmpR op_ne (pe_own C_tells_apart hr (by decide) (by rfl) (pa_cons (pv 4) (pa_cons (pe_op op_catA (pv 3) (pe_slice sl_tupA (pv 3) po_none (po_some pe_int))) pa_nil))) (pv 6) (nomark _))))) (pss_one (ps_ret pe_bl)) pss_nil)
      (pss_cons (ps_if (PW.pt (pw_and (pt_val (pe_own C_tells_apart hr (by decide) (by rfl) (pa_cons (pv 4) (pa_cons (pv 7) pa_nil)))) (pw_and1 (pt_not (pt_val (pv 6)))))) (pss_one (ps_ret pe_bl)) pss_nil)
      (pss_cons (ps_asg (pe_tup (pa_cons (pe_own C_widths hr (by decide) (by rfl) (pa_cons (pv 5) (pa_cons pe_str (pa_cons (pv 3) pa_nil)))) (pa_cons (pe_own C_widths hr (by decide) (by rfl) (pa_cons (pv 5) (pa_cons pe_str (pa_cons (pv 7) pa_nil)))) pa_nil))) (pg_tup rfl (pgs_cons (pg_name (i := 8) sc_law_right.nd rfl (.inr rfl)) (pgs_cons (pg_name (i := 9) sc_law_right.nd rfl (.inl rfl)) pgs_nil))))
      (pss_cons (ps_if (PW.pt (pw_or (pt_not (pt_val (pe_callB (cr_all rfl) (by rfl) B.all (by decide +kernel) (pa_cons (pe_lc (own := [("_law_size_here", 13)]) (by rfl) sc_law_right.nd (pi_tup (pv 9)) (blkOk_by (own := [("_law_size_here", 13)]) (N := ["_law_pot_here", "_law_again", "_law_tolds_here", "_law_lines", "_law_made_here", "_law_sort", "_law_told_here", "_law_more", "_law_first", "_law_second", "_law_group", "_law_one", "_law_two", "_law_size_here"]) (sc := defScope s_law_right) (by decide +kernel)) (fun _ _ _ _ _ => pg_name (i := 13) sc_law_right.nd rfl (.inl rfl)) (fun _ _ _ _ _ => pts_nil) (fun _ _ _ _ _ => (pe_cmpR (r := rIn K false) op_in_seq (pv 13) (pv 8) (by rfl)))) pa_nil)))) (pw_or1 (pt_cmpR (op_neD hr.units) (pe_own C_widths hr (by decide) (by rfl) (pa_cons (pv 5) (pa_cons pe_str (pa_cons (pe_revT (pv 3)) pa_nil)))) (pv 8) (nomark _))))) (pss_one (ps_ret pe_bl)) pss_nil)
      (pss_cons (ps_if (PW.pt (pw_or (pt_cmpR (op_neD hr.units) (pe_own C_groups hr (by decide) (by rfl) (pa_cons (pv 4) (pa_cons (pe_tup pa_nil) pa_nil))) (pe_tup pa_nil) (nomark _)) (pw_or1 (pt_cmpR (op_neD hr.units) (pe_own C_groups hr (by decide) (by rfl) (pa_cons (pe_tup (pa_cons (pe_new M_sh hr (by decide) (by rfl) (pa_cons pe_int (pa_cons pe_int (pa_cons pe_int (pa_cons pe_str pa_nil))))) pa_nil)) (pa_cons (pe_tup (pa_cons pe_str (pa_cons pe_str pa_nil))) pa_nil))) (pe_tup (pa_cons (pe_tup (pa_cons pe_int (pa_cons pe_int pa_nil))) pa_nil)) (nomark _))))) (pss_one (ps_ret pe_bl)) pss_nil)
      (pss_cons (ps_for PassesOwn.never rfl (pi_tup (pe_own C_groups hr (by decide) (by rfl) (pa_cons (pv 4) (pa_cons (pv 3) pa_nil)))) (pg_name (i := 10) sc_law_right.nd rfl (.inl rfl))
      (pss_cons (ps_par (i := 11) (j := 12) (by rfl) sc_law_right.nd rfl rfl (by decide) rfl rfl (pa_cons (pe_ix ix_tup (pv 3) (pe_ix ix_tup (pv 10) pe_int (fun _ _ => rfl)) (fun _ _ => rfl)) (pa_cons (pe_ix ix_tup (pv 3) (pe_ix ix_tup (pv 10) (pe_un un_neg pe_int) (fun _ _ => rfl)) (fun _ _ => rfl)) pa_nil)) (by rfl))
      (pss_cons (ps_if (pt_cmpR op_ne (pe_own C_holds hr (by decide) (by rfl) (pa_cons (pe_tup (pa_cons pe_str (pa_cons (pe_callTy call_tuple_of (by rfl) B.tuple (by decide +kernel) (pa_cons (pv 2) pa_nil)) pa_nil))) (pa_cons (pe_tup (pa_cons (pv 11) (pa_cons (pv 12) pa_nil))) pa_nil))) (pe_cmpR op_ne (pv 11) (pv 12) (nomark _)) (nomark _)) (pss_one (ps_ret pe_bl)) pss_nil)
      (pss_one (ps_if (pt_cmpR op_lt (pe_own C_number_of hr (by decide) (by rfl) (pa_cons (pe_tup (pa_cons (pe_tup (pa_cons (pv 4) (pa_cons (pe_own C_show hr (by decide) (by rfl) (pa_cons (pv 4) (pa_cons (pv 11) pa_nil))) pa_nil))) pa_nil)) (pa_cons (pe_callB call_len (by rfl) B.len (by decide +kernel) (pa_cons (pv 12) pa_nil)) pa_nil))) pe_int (nomark _)) (pss_one (ps_ret pe_bl)) pss_nil)))))
      (pss_one (ps_if (PW.pt (pw_and (pt_val (pe_own C_tells_apart hr (by decide) (by rfl) (pa_cons (pe_op op_catA (pv 4) (pe_tup (pa_cons (pe_new M_sh hr (by decide) (by rfl) (pa_cons (pe_own C_law_ladle hr (by decide) (by rfl) (pa_cons (pv 0) (pa_cons pe_int pa_nil))) (pa_cons pe_int (pa_cons pe_int (pa_cons pe_str pa_nil))))) pa_nil))) (pa_cons (pv 3) pa_nil)))) (pw_and1 (pt_not (pt_val (pv 6)))))) (pss_one (ps_ret pe_bl)) pss_nil))))))))))))
      (pss_one (ps_ret pe_bl))), ?_⟩
    refine ⟨3, rfl, by decide, by decide, for_range (lo := 0) (n := 3) (fun i σ J => ∃ a1 a2 a3 a4 a5 a6 a7 a8 a9 a10 a11 a12 a13, σ = [some (.ref p), a1, a2, a3, a4, a5, a6, a7, a8, a9, a10, a11, a12, a13] ∧ Ladled p H J) ⟨none, none, none, none, none, none, none, none, none, none, none, none, none, rfl, .refl hp⟩ ?_ ?_⟩
    · rintro i σ J hi ⟨a1, a2, a3, a4, a5, a6, a7, a8, a9, a10, a11, a12, a13, rfl, M⟩
      clear hi
      generalize (V.int (0 + (i : Int))) = again
      -- the row, the texts
      refine ⟨_, rfl, p, rfl, M.pot, fun D0 G0 ps nD0 t0 nq p1 p4 L0 => ?_⟩
      refine ⟨2, rfl, D0, _, rfl, .inl (.inl t0.ls), fun D1 nD1 => ?_⟩
      have sD1 : Same G0 (upd G0 D1 (.lst (cutV (refsOf ps) none (some 2)))) := same_new nD1
      have t1 : ToldsAt (upd G0 D1 (.lst (cutV (refsOf ps) none (some 2)))) D1 (ps.take 2) := ((t0.tups.take 2).same sD1).told (by rw [upd_same, show cutV (refsOf ps) none (some 2) = (refsOf ps).take 2 from cutV_front _ 2, List.map_take])
      have M1 := (M.trans L0).same sD1
      generalize upd G0 D1 (.lst (cutV (refsOf ps) none (some 2))) = G1 at t1 M1
      have p1 : 1 ≤ (ps.take 2).length := by rw [List.length_take]; omega
      have p2 : (ps.take 2).length ≤ 2 := by rw [List.length_take]; omega
      clear nq p4 t0 L0 M sD1 nD0 nD1
      generalize ps.take 2 = ps at t1 p1 p2
      refine ⟨_, rfl, p, 12, rfl, M1.pot, by decide, by decide, fun T G2 zs nT eT zl tz L2 => ?_⟩
      have M2 := M1.trans L2
      have t2 : ToldsAt G2 D1 ps := L2.tolds (t1.off M1.pot p1) (t1.tups.off M1.pot) t1
      clear t1 L2 nT M1
      refine ⟨_, _, rfl, ?_⟩
      refine ⟨_, rfl, D1, ps, rfl, t2, by omega, fun R G3 rs nR row er s3 => ?_⟩
      have lr := same_len er
      have M3 := M2.same s3
      refine ⟨_, rfl, by show 3 ≤ sizeLine; decide, fun q nq => ?_⟩
      have sq : Same G2 (upd G3 q (.lst [.str "end", .str "start", .str "middle"])) := s3.trans (same_new nq)
      have M4 := M2.same sq
      refine ⟨p, M4.pot, .inl ⟨q, _, rfl, .inl (.inl upd_same), M3.pot.ne nq, by decide, by decide, fun v G4 hv L4 => ⟨_, _, rfl, ?_⟩⟩⟩
      obtain ⟨kd, rfl⟩ : ∃ kd : Kd, v = .str kd.word := by
        simp only [List.mem_cons, List.not_mem_nil, or_false] at hv
        rcases hv with rfl | rfl | rfl
        · exact ⟨.e, rfl⟩
        · exact ⟨.s, rfl⟩
        · exact ⟨.m, rfl⟩
      have nTp : T ≠ p := by
        obtain ⟨x1, x2, x3, e⟩ := M2.pot
        exact ne_of eT e (by intro z; cases z)
      have eT4 : G4 T = some (.tup (zs.map V.str)) := L4.keep _ _ (sq _ _ eT) nTp
      have row4 : RowAt C G4 R rs := L4.row M4.pot (row.same (same_new nq))
      have t4 : ToldsAt G4 D1 ps := L4.tolds (t2.off M2.pot p1) (t2.tups.off M2.pot) (t2.same sq)
      have M5 := M4.trans L4
      clear hv sq M4 L4 t2 nq row M3 nR s3 M2 eT
      -- told apart; one more
      refine ⟨_, rfl, _, rfl, R, T, rs, zs, rfl, row4, by omega, by omega, .inl (.inl eT4), tz, by omega, fun G5 s5 => ?_⟩
      refine ⟨_, rfl, _, rfl, _, rfl, p, 9, rfl, M5.pot.same s5, by decide, by decide, fun d G6 d0 d1 L6 => ?_⟩
      refine ⟨p, d, rfl, L6.pot, d0, by omega, fun y G7 L7 yl yt => ?_⟩
      have L67 := L6.trans L7
      have M7 := (M5.same s5).trans L67
      refine ⟨by show 1 ≤ sizeLine; decide, fun t nt => ?_⟩
      have st : Same G7 (upd G7 t (.tup [.str y])) := same_new nt
      have et : upd G7 t (.tup [.str y]) t = some (.tup [.str y]) := upd_same
      generalize upd G7 t (.tup [.str y]) = G8 at st et
      have eT7 : G7 T = some (.tup (zs.map V.str)) := L67.keep _ _ (s5 _ _ eT4) nTp
      refine cat_ok (st _ _ eT7) et (Nat.le_of_lt (small1000 (by rw [List.length_map]; show zs.length + 1 ≤ 1000; omega))) fun U G9 s9 eU => ⟨_, _, rfl, ?_⟩
      have row9 : RowAt C G9 R rs := (L67.row (M5.pot.same s5) (row4.same s5)).same (st.trans s9)
      have t9 : ToldsAt G9 D1 ps := (L67.tolds (t4.off M5.pot p1) (t4.tups.off M5.pot) (t4.same s5)).same (st.trans s9)
      have eT9 := s9 _ _ (st _ _ eT7)
      have M9 := M7.same (st.trans s9)
      have eU : G9 U = some (.tup ((zs ++ [y]).map V.str)) := by
        rw [eU, List.map_append]
        rfl
      have tu : ∀ z ∈ zs ++ [y], isTxt z 200 = true := fun z hz => by
        rcases List.mem_append.mp hz with hz | hz
        · exact tz z hz
        · rw [List.mem_singleton.mp hz]
          exact yt
      have ul : (zs ++ [y]).length ≤ 13 := by
        rw [List.length_append]
        show zs.length + 1 ≤ 13
        omega
      have sub : ∀ z ∈ zs, z ∈ zs ++ [y] := fun z hz => List.mem_append_left _ hz
      clear eT7 st et L67 L7 L6 nt yl yt M7 M5 row4 t4 eT4 s5 s9
      generalize zs ++ [y] = us at eU tu ul sub
      obtain ⟨rr, hrr⟩ : ∃ rr : List Rec, rr = rs.map (·.2) := ⟨_, rfl⟩
      rw [← hrr]
      -- in another order, and the first one twice
      refine ⟨_, rfl, _, rfl, T, _, rfl, .inl (.inl eT9), fun V1 n1 => ?_⟩
      have s1 : Same G9 (upd G9 V1 (.tup (zs.map V.str).reverse)) := same_new n1
      have e1 : upd G9 V1 (.tup (zs.map V.str).reverse) V1 = some (.tup (zs.reverse.map V.str)) := by rw [upd_same, List.map_reverse]
      generalize upd G9 V1 (.tup (zs.map V.str).reverse) = G10 at s1 e1
      refine ⟨R, V1, rs, zs.reverse, rfl, row9.same s1, by omega, by omega, .inl (.inl e1), fun z hz => tz z (List.mem_reverse.mp hz), by rw [List.length_reverse]; omega, fun G11 s2 => ?_⟩
      rw [sepB_same (fun x => List.mem_reverse), ← hrr]
      refine ⟨_, rfl, rfl, _, rfl, iteNS rfl ?_⟩
      have s12 := s1.trans s2
      refine ⟨_, rfl, _, rfl, _, rfl, ?_⟩
      refine noPart ⟨1, rfl, sl_ok (s12 _ _ eT9) fun S G12 s3 eS => ?_⟩
      have eS : G12 S = some (.tup ((zs.take 1).map V.str)) := by
        rw [eS, show cutV (zs.map V.str) none (some 1) = (zs.map V.str).take 1 from cutV_front _ 1, List.map_take]
      have s13 := s12.trans s3
      refine cat_ok (s13 _ _ eT9) eS (Nat.le_of_lt (small1000 (by rw [List.length_map, List.length_map, List.length_take]; omega))) fun W G13 s4 eW => ?_
      have eW : G13 W = some (.tup ((zs ++ zs.take 1).map V.str)) := by rw [eW, List.map_append]
      have s14 := s13.trans s4
      have mem : ∀ x, x ∈ zs ++ zs.take 1 ↔ x ∈ zs := fun x => ⟨fun h => (List.mem_append.mp h).elim id List.mem_of_mem_take, fun h => List.mem_append_left _ h⟩
      refine ⟨R, W, rs, zs ++ zs.take 1, rfl, row9.same s14, by omega, by omega, .inl (.inl eW), fun z hz => tz z ((mem z).mp hz), by rw [List.length_append, List.length_take]; omega, fun G14 s5 => ?_⟩
      rw [sepB_same mem, ← hrr]
      refine ⟨_, rfl, rfl, _, rfl, iteNS rfl ?_⟩
      have s15 := s14.trans s5
      have row15 := row9.same s15
      have t15 := t9.same s15
      have eT15 := s15 _ _ eT9
      have eU15 := s15 _ _ eU
      have M15 := M9.same s15
      clear row9 t9 eT9 eU M9 s15 s5 s14 s4 s13 s3 s12 s2 s1 e1 eS eW n1
      -- with one more
      refine ⟨_, rfl, _, rfl, R, U, rs, us, rfl, row15, by omega, by omega, .inl (.inl eU15), tu, by omega, fun G1 s1 => ⟨_, rfl, ?_⟩⟩
      rw [← hrr]
      refine (fun c => ite2 (fun q => ⟨_, rfl, _, rfl, iteFb (sepB_sub sub q) c⟩) (fun _ => iteF c)) ?_
      have row15 := row15.same s1
      have t15 := t15.same s1
      have eT15 := s1 _ _ eT15
      have eU15 := s1 _ _ eU15
      have M15 := M15.same s1
      clear s1
      -- the widths
      refine ⟨_, rfl, _, rfl, kd, _, T, zs, rfl, by decide +kernel, .inl (.inl eT15), tz, by omega, fun F1 G2 s1 e1 => ?_⟩
      refine ⟨_, rfl, _, rfl, kd, _, U, us, rfl, by decide +kernel, .inl (.inl (s1 _ _ eU15)), tu, by omega, fun F2 G3 s2 e2 => ?_⟩
      have s12 := s1.trans s2
      have e1 := s2 _ _ e1
      refine ⟨by show 2 ≤ sizeLine; decide, fun t nt => ⟨t, _, rfl, .inl (.inl upd_same), rfl, _, _, rfl, _, _, rfl, rfl, ?_⟩⟩
      have st : Same G3 (upd G3 t (.tup [.ref F1, .ref F2])) := same_new nt
      generalize upd G3 t (.tup [.ref F1, .ref F2]) = G4 at st
      have e1 := st _ _ e1
      have e2 := st _ _ e2
      have s14 := s12.trans st
      have row15 := row15.same s14
      have t15 := t15.same s14
      have eT15 := s14 _ _ eT15
      have M15 := M15.same s14
      clear s14 st nt s12 s2 s1 eU15
      generalize hw1 : widAll kd "~" zs = w1 at e1
      have wsub : ∀ i ∈ widAll kd "~" us, i ∈ w1 := by
        rw [← hw1]
        exact wid_sub sub
      have wl := wid_len kd "~" us
      generalize widAll kd "~" us = w2 at e2 wsub wl
      refine ⟨_, rfl, F2, rfl, ⟨_, .inl (.inl e2)⟩, fun X nX => lc_tup (K := K) (a := F2) (xs := w2.map V.int) (fun i J => J X = some (.lst ((List.replicate i true).map V.bl)) ∧ Same G4 J)
        ⟨upd_same, same_new nX⟩ (fun i J _ ⟨_, sJ⟩ => .inl (.inl (sJ _ _ e2))) ?_ ?_⟩
      · rintro i v J hi ⟨eX, sJ⟩
        rw [List.getElem?_map] at hi
        cases hn : w2[i]? with
        | none =>
          rw [hn] at hi
          cases hi
        | some n =>
          rw [hn] at hi
          cases hi
          have il := (List.getElem?_eq_some_iff.mp hn).1
          refine ⟨rfl, yes (iteT ⟨_, rfl, _, rfl, F1, _, rfl, .inr (.inl (.inl (sJ _ _ e1))), rfl, flatI w1, ?_⟩)⟩
          rw [inV_ints, decide_eq_true (wsub n (List.mem_of_getElem? hn))]
          refine ⟨_, eX, small1000 (by rw [List.length_map, List.length_replicate]; omega), ?_, offT sJ nX⟩
          rw [upd_same, List.replicate_succ', List.map_append]
          rfl
      rintro J ⟨eX, sJ⟩
      refine ⟨X, _, rfl, .inl (.inl eX), ?_⟩
      rw [all_true]
      refine ⟨_, rfl, iteF ?_⟩
      have row15 := row15.same sJ
      have t15 := t15.same sJ
      have eT15 := sJ _ _ eT15
      have M15 := M15.same sJ
      have e1 := sJ _ _ e1
      clear sJ eX e2 wsub wl nX
      refine ⟨_, rfl, _, rfl, T, _, rfl, .inl (.inl eT15), fun V1 n1 => ?_⟩
      have s1 : Same J (upd J V1 (.tup (zs.map V.str).reverse)) := same_new n1
      have ev : upd J V1 (.tup (zs.map V.str).reverse) V1 = some (.tup (zs.reverse.map V.str)) := by rw [upd_same, List.map_reverse]
      generalize upd J V1 (.tup (zs.map V.str).reverse) = J2 at s1 ev
      refine ⟨kd, _, V1, zs.reverse, rfl, by decide +kernel, .inl (.inl ev), fun z hz => tz z (List.mem_reverse.mp hz), by rw [List.length_reverse]; omega, fun F3 J3 s2 e3 => ?_⟩
      rw [wid_same (fun x => List.mem_reverse), hw1] at e3
      have s12 := s1.trans s2
      have sh : SeqAt.shaped (.tuple (w1.map PyData.int)) = true := shapedT fun d hd => by
        obtain ⟨y, _, rfl⟩ := List.mem_map.mp hd
        exact ⟨rfl, Nat.zero_le _⟩
      refine ⟨_, rfl, .tuple (w1.map PyData.int), .tuple (w1.map PyData.int), .tup (.inl (.inl e3)) (dp_ints _), .tup (.inl (.inl (s12 _ _ e1))) (dp_ints _), sh, sh, _, rfl, ?_⟩
      rw [SeqAt.eqv_refl _ (SeqAt.canLay_of_shaped sh)]
      refine iteF ?_
      have row16 := row15.same s12
      have t16 := t15.same s12
      have eT16 := s12 _ _ eT15
      have M16 := M15.same s12
      clear row15 t15 eT15 M15 s12 s2 s1 e3 e1 ev n1 hw1 sh
      -- no texts; two texts that are shown alike
      refine ⟨_, rfl, Nat.zero_le _, fun t nt => ?_⟩
      have st : Same J3 (upd J3 t (.tup [])) := same_new nt
      have et : upd J3 t (.tup []) t = some (.tup []) := upd_same
      generalize upd J3 t (.tup []) = J4 at st et
      refine ⟨R, t, rs, [], rfl, row16.same st, by omega, by omega, .inl (.inl et), (fun z hz => by cases hz), Nat.zero_le _, fun U1 J5 ts s5 eU hts ets => ?_⟩
      have ts0 : ts = [] := List.map_eq_nil_iff.mp ets
      subst ts0
      refine ⟨Nat.zero_le _, fun t2 nt2 => ?_⟩
      have s6 : Same J5 (upd J5 t2 (.tup [])) := same_new nt2
      have e6 : upd J5 t2 (.tup []) t2 = some (.tup []) := upd_same
      generalize upd J5 t2 (.tup []) = J6 at s6 e6
      refine ⟨.tuple [], .tuple [], .tup (.inl (.inl (s6 _ _ eU))) .nil, .tup (.inl (.inl e6)) .nil, rfl, rfl, _, rfl, iteF ?_⟩
      have s36 := st.trans (s5.trans s6)
      have row17 := row16.same s36
      have t17 := t16.same s36
      have eT17 := s36 _ _ eT16
      have M17 := M16.same s36
      clear row16 t16 eT16 M16 s36 s6 s5 st e6 et eU hts ets nt nt2
      intro x dx nx ndx nex
      refine ⟨x, dx, ⟨0, 0, 0, ""⟩, rfl, upd_same, fit_zero, fun b J7 nb gx gb keep => ⟨rfl, ?_⟩⟩
      have s7 : Same J6 J7 := fun c o e => keep c o (by rw [upd_ne (ne_of_none e nx), upd_ne (ne_of_none e ndx)]; exact e) (ne_of_none e nx)
      have hx : ShAt C J7 x ⟨0, 0, 0, ""⟩ := ⟨dx, b, gx, gb⟩
      clear keep gx gb nb nx ndx nex
      refine ⟨by show 1 ≤ sizeLine; decide, fun R2 nR2 => ?_⟩
      have s8 : Same J7 (upd J7 R2 (.tup [.ref x])) := same_new nR2
      have e8 : upd J7 R2 (.tup [.ref x]) R2 = some (.tup [.ref x]) := upd_same
      generalize upd J7 R2 (.tup [.ref x]) = J8 at s8 e8
      refine ⟨by show 2 ≤ sizeLine; decide, fun T2 nT2 => ?_⟩
      have s9 : Same J8 (upd J8 T2 (.tup [.str "a", .str "b"])) := same_new nT2
      have e9 : upd J8 T2 (.tup [.str "a", .str "b"]) T2 = some (.tup [.str "a", .str "b"]) := upd_same
      generalize upd J8 T2 (.tup [.str "a", .str "b"]) = J9 at s9 e9
      have row2 : RowAt C J9 R2 [(x, ⟨0, 0, 0, ""⟩)] := ⟨s9 _ _ e8, fun q hq => by
        rw [List.mem_singleton.mp hq]
        exact ⟨(hx.same s8).same s9, fit_zero⟩⟩
      refine ⟨R2, T2, [(x, ⟨0, 0, 0, ""⟩)], ["a", "b"], rfl, row2, Nat.le_refl 1, by show 1 ≤ 4; decide, .inl (.inl e9), by decide +kernel, by decide, fun U2 J10 ts s10 eU hts ets => ?_⟩
      have ets : ts.map (·.2) = [[0, 1]] := ets.trans grp_ab
      obtain ⟨g, rfl, eg⟩ : ∃ g : Addr × List Nat, ts = [g] ∧ g.2 = [0, 1] := by
        cases ts with
        | nil => cases ets
        | cons g r =>
          cases r with
          | nil => exact ⟨g, rfl, List.head_eq_of_cons_eq ets⟩
          | cons g2 r =>
            have e := congrArg List.length ets
            simp only [List.length_map, List.length_cons, List.length_nil] at e
            omega
      have hg : J10 g.1 = some (.tup [.int 0, .int 1]) := by
        rw [hts g (List.mem_singleton.mpr rfl), eg]
        rfl
      refine ⟨by show 2 ≤ sizeLine; decide, fun t1 n1 => ?_⟩
      have s11 : Same J10 (upd J10 t1 (.tup [.int 0, .int 1])) := same_new n1
      have e11 : upd J10 t1 (.tup [.int 0, .int 1]) t1 = some (.tup [.int 0, .int 1]) := upd_same
      generalize upd J10 t1 (.tup [.int 0, .int 1]) = J11 at s11 e11
      refine ⟨by show 1 ≤ sizeLine; decide, fun t2 n2 => ?_⟩
      have s12 : Same J11 (upd J11 t2 (.tup [.ref t1])) := same_new n2
      have e12 : upd J11 t2 (.tup [.ref t1]) t2 = some (.tup [.ref t1]) := upd_same
      generalize upd J11 t2 (.tup [.ref t1]) = J12 at s12 e12
      have s112 := s11.trans s12
      refine ⟨.tuple [.tuple [.int 0, .int 1]], .tuple [.tuple [.int 0, .int 1]], .tup (.inl (.inl (s112 _ _ eU))) (.cons (.tup (.inl (.inl (s112 _ _ hg))) (.cons (.int 0) (.cons (.int 1) .nil))) .nil), .tup (.inl (.inl e12)) (.cons (.tup (.inl (.inl (s12 _ _ e11))) (.cons (.int 0) (.cons (.int 1) .nil))) .nil), by decide +kernel, by decide +kernel, _, rfl, ?_⟩
      rw [SeqAt.eqv_refl _ (by decide +kernel)]
      refine iteF ?_
      have sA := s7.trans (s8.trans (s9.trans (s10.trans s112)))
      have row18 := row17.same sA
      have t18 := t17.same sA
      have eT18 := sA _ _ eT17
      have M18 := M17.same sA
      clear row17 t17 eT17 M17 sA s112 s12 e12 s11 e11 hg eg hts ets eU s10 row2 s9 e9 s8 e8 hx s7 n1 n2 nR2 nT2
      -- the groups
      refine ⟨_, rfl, _, rfl, R, T, rs, zs, rfl, row18, by omega, by omega, .inl (.inl eT18), tz, by omega, fun U3 K1 ts s1 eU hts ets => ?_⟩
      rw [← hrr] at ets
      have row18 := row18.same s1
      have t18 := t18.same s1
      have eT18 := s1 _ _ eT18
      have M18 := M18.same s1
      clear s1
      refine ⟨_, rfl, ⟨_, .inl (.inl eU)⟩, for_tup (K := K) (a := U3) (xs := ts.map fun t => V.ref t.1) (fun j σ J => ∃ b10 b11 b12, σ = [some (.ref p), some again, some (.ref D1), some (.ref T), some (.ref R), some (.str kd.word), some (.bl (sepB rr zs)), some (.ref U), some (.ref F1), some (.ref F2), b10, b11, b12, a13] ∧ Same K1 J)
        ⟨_, _, _, rfl, Same.refl K1⟩ (fun j σ J _ ⟨_, _, _, _, sJ⟩ => .inl (.inl (sJ _ _ eU))) ?_ ?_⟩
      · rintro j v σ J hj ⟨b10, b11, b12, rfl, sJ⟩
        rw [List.getElem?_map] at hj
        cases hq : ts[j]? with
        | none =>
          rw [hq] at hj
          cases hj
        | some g =>
          rw [hq] at hj
          cases hj
          have mg' := List.mem_of_getElem? hq
          have eg := sJ _ _ (hts g mg')
          obtain ⟨a, b, y, z, ia, ib, ya, zb, fe⟩ := grp_ends (f := shown rr) (zs := zs) (g := g.2) (by rw [← ets]; exact List.mem_map.mpr ⟨g, mg', rfl⟩)
          have eTJ := sJ _ _ eT18
          have ty := tz y (List.mem_of_getElem? ya)
          have tz' := tz z (List.mem_of_getElem? zb)
          have ce : cuts rr y.cps.toList = cuts rr z.cps.toList := by rw [← shown_cps, ← shown_cps, fe]
          have tJ := t18.same sJ
          have rowJ := row18.same sJ
          refine ⟨_, rfl, _, rfl, g.1, _, _, _, rfl, rfl, .inl (.inl eg), ia, T, _, _, _, rfl, rfl, .inl (.inl eTJ), atI_nat (at_str ya), ?_⟩
          refine ⟨_, rfl, _, rfl, 1, rfl, g.1, _, _, _, rfl, rfl, .inl (.inl eg), ib, T, _, _, _, rfl, rfl, .inl (.inl eTJ), atI_nat (at_str zb), _, _, rfl, ?_⟩
          refine ⟨_, rfl, D1, _, rfl, .inl ⟨.inl (.inl tJ.ls), fun t1 n1 => ?_⟩⟩
          have s1 : Same J (upd J t1 (.tup (refsOf ps))) := same_new n1
          have e1 : upd J t1 (.tup (refsOf ps)) t1 = some (.tup (refsOf ps)) := upd_same
          generalize upd J t1 (.tup (refsOf ps)) = J1 at s1 e1
          refine ⟨by show 2 ≤ sizeLine; decide, fun c nc => ?_⟩
          have s2 : Same J1 (upd J1 c (.tup [.str "confused", .ref t1])) := same_new nc
          have e2 : upd J1 c (.tup [.str "confused", .ref t1]) c = some (.tup [.str "confused", .ref t1]) := upd_same
          generalize upd J1 c (.tup [.str "confused", .ref t1]) = J2 at s2 e2
          refine ⟨_, rfl, _, rfl, by show 2 ≤ sizeLine; decide, fun t2 n2 => ?_⟩
          have s3 : Same J2 (upd J2 t2 (.tup [.str y, .str z])) := same_new n2
          have e3 : upd J2 t2 (.tup [.str y, .str z]) t2 = some (.tup [.str y, .str z]) := upd_same
          generalize upd J2 t2 (.tup [.str y, .str z]) = J3 at s3 e3
          have s13 := s1.trans (s2.trans s3)
          have tr : TRow K J3 t1 ps := ⟨.inl (.inl (s3 _ _ (s2 _ _ e1))), fun q hq => ⟨s13 _ _ (tJ.tp q hq).1, (tJ.tp q hq).2.fit⟩, p1, by omega⟩
          refine ⟨c, t1, t2, ps, y, z, rfl, s3 _ _ e2, tr, .inl (.inl e3), ty, tz', fun J4 s4 => ?_⟩
          have ans : decide (y ≠ z ∧ cuts (ps.map (·.2)) y.cps.toList = cuts (ps.map (·.2)) z.cps.toList) = !decide (V.str y = V.str z) := by
            rw [← er, ← hrr]
            by_cases q : y = z
            · rw [decide_eq_false (fun h => h.1 q), decide_eq_true (show V.str y = V.str z by rw [q])]
              rfl
            · rw [decide_eq_true ⟨q, ce⟩, decide_eq_false (fun h => q (V.str.inj h))]
              rfl
          rw [ans]
          refine ⟨_, rfl, _, rfl, rfl, rfl, _, rfl, iteNS rfl ?_⟩
          have s14 := s13.trans s4
          have row4 := rowJ.same s14
          -- how many there are
          refine ⟨_, rfl, _, rfl, _, rfl, R, rs, y, rfl, row4, by omega, by omega, ty, fun y1 J5 s5 ey => ?_⟩
          refine ⟨by show 2 ≤ sizeLine; decide, fun u nu => ?_⟩
          have s6 : Same J5 (upd J5 u (.tup [.ref R, .str y1])) := same_new nu
          have e6 : upd J5 u (.tup [.ref R, .str y1]) u = some (.tup [.ref R, .str y1]) := upd_same
          generalize upd J5 u (.tup [.ref R, .str y1]) = J6 at s6 e6
          refine ⟨by show 1 ≤ sizeLine; decide, fun v nv => ?_⟩
          have s7 : Same J6 (upd J6 v (.tup [.ref u])) := same_new nv
          have e7 : upd J6 v (.tup [.ref u]) v = some (.tup [.ref u]) := upd_same
          generalize upd J6 v (.tup [.ref u]) = J7 at s7 e7
          have yt : isTxt y1 200 = true := txt_mk (by rw [ey]; exact cuts_signs _ row4.fits (isTxt_signs ty)) (by rw [ey]; exact cuts_len _ row4.fits (txt_len ty))
          have hV : ViewsAt C J7 v [⟨u, R, rs, y1⟩] := ⟨e7, fun x hx => by
            rw [List.mem_singleton.mp hx]
            exact ⟨s7 _ _ e6, row4.same (s5.trans (s6.trans s7)), by show 1 ≤ rs.length; omega, by show rs.length ≤ 4; omega, yt⟩, Nat.le_refl 1, by show 1 ≤ 4; decide⟩
          have zlen := txt_len tz'
          have zL : z.length = z.cps.toList.length := rfl
          refine ⟨_, rfl, _, _, rfl, ⟨Nat.le_of_lt (small1000 (by omega)), rfl⟩, v, z.length, [⟨u, R, rs, y1⟩], rfl, hV, by omega, fun x J8 s8 hx => ?_⟩
          have ft : Fits [⟨u, R, rs, y1⟩] z.cps.toList := fun x hx => by
            rw [List.mem_singleton.mp hx]
            show cuts (rs.map (·.2)) z.cps.toList = y1.cps.toList
            rw [ey, ← hrr, ce]
          have many : 1 ≤ manyOf x := by
            rcases hx with ⟨_, no⟩ | ⟨_, x2, rfl, _, _⟩
            · exact absurd ft (no _ rfl)
            · exact pow38_ge _
          refine ⟨_, _, rfl, rfl, _, rfl, ?_⟩
          rw [decide_eq_false (show ¬ manyOf x < 1 by omega)]
          exact iteF ⟨_, _, _, rfl, sJ.trans (s14.trans (s5.trans (s6.trans (s7.trans s8))))⟩
      · rintro σ J ⟨b10, b11, b12, rfl, sJ⟩
        have rowJ := row18.same sJ
        have eTJ := sJ _ _ eT18
        have MJ := M18.same sJ
        have nTp : T ≠ p := by
          obtain ⟨x1, x2, x3, e⟩ := MJ.pot
          exact ne_of eTJ e (by intro z; cases z)
        clear row18 t18 eT18 M18 sJ eU hts ets
        refine ⟨_, rfl, _, rfl, p, 41, rfl, MJ.pot, by decide, by decide, fun d J1 d0 d1 L1 => ?_⟩
        intro x dx nx ndx nex
        refine ⟨x, dx, ⟨d, 2, 1, "~"⟩, rfl, upd_same, fit_last d0 d1, fun b J2 nb gx gb keep => ⟨rfl, ?_⟩⟩
        have s2 : Same J1 J2 := fun c o e => keep c o (by rw [upd_ne (ne_of_none e nx), upd_ne (ne_of_none e ndx)]; exact e) (ne_of_none e nx)
        have hx : ShAt C J2 x ⟨d, 2, 1, "~"⟩ := ⟨dx, b, gx, gb⟩
        clear keep gx gb nb nx ndx nex
        have row2 := (L1.row MJ.pot rowJ).same s2
        have eT2 := s2 _ _ (L1.keep _ _ eTJ nTp)
        have M2 := (MJ.trans L1).same s2
        refine ⟨by show 1 ≤ sizeLine; decide, fun t nt => ?_⟩
        have s3 : Same J2 (upd J2 t (.tup [.ref x])) := same_new nt
        have e3 : upd J2 t (.tup [.ref x]) t = some (.tup [.ref x]) := upd_same
        generalize upd J2 t (.tup [.ref x]) = J3 at s3 e3
        refine cat_ok (row2.same s3).tp e3 (Nat.le_of_lt (small1000 (by rw [List.length_map]; show rs.length + 1 ≤ 1000; omega))) fun U4 J4 s4 e4 => ?_
        have s34 := s3.trans s4
        have row4 : RowAt C J4 U4 (rs ++ [(x, ⟨d, 2, 1, "~"⟩)]) := ⟨by rw [e4, List.map_append]; rfl, fun q hq => by
          rcases List.mem_append.mp hq with hq | hq
          · exact ⟨((row2.sh q hq).1).same s34, (row2.sh q hq).2⟩
          · rw [List.mem_singleton.mp hq]
            exact ⟨hx.same s34, fit_last d0 d1⟩⟩
        refine ⟨_, rfl, U4, T, rs ++ [(x, ⟨d, 2, 1, "~"⟩)], zs, rfl, row4, by rw [List.length_append]; show 1 ≤ rs.length + 1; omega, by rw [List.length_append]; show rs.length + 1 ≤ 4; omega, .inl (.inl (s34 _ _ eT2)), tz, by omega, fun J5 s5 => ⟨_, rfl, ?_⟩⟩
        rw [List.map_append, ← hrr]
        refine (fun c => ite2 (fun q => ⟨_, rfl, _, rfl, iteFb (sepB_row q) c⟩) (fun _ => iteF c)) ?_
        exact ⟨_, _, _, _, _, _, _, _, _, _, _, _, _, rfl, M2.same (s34.trans s5)⟩
    · rintro σ J ⟨a1, a2, a3, a4, a5, a6, a7, a8, a9, a10, a11, a12, a13, rfl, M⟩
      exact k J M
end
end Gu
namespace Gu
open PySem PySem.Spec PyProof.Rows L2
section
variable {P : Program} {w : World} {K : PySem.W.Frag} {mg : Str → Option Value} {base : Heap}
/-! ### law -/
def spLaw (K : PySem.W.Frag) : Sp := fun vs H Q _ => ∃ (a : Addr) (ns : List Int), vs = [.ref a] ∧ SqL K H a (ns.map V.int) ∧ ns.length ≤ 63 ∧ ∀ G, Q (.bl true) G
theorem cal_law {n : Nat} (B : Bi mg) {f : Addr} {fd : FuncData} (F : Fun K "law" "law" s_law f fd) (n1 : 1 ≤ n) (C_law_pot : Cal P w K mg base 1 "_law_pot" ps_law_pot (spPot K)) (C_law_right : CalG P w K mg base n "_law_right" ps_law_right spRight) : FnG P w K mg base (n + 1) f fd ps_law (spLaw K) := by
  refine okG F sc_law (fun vs H Q E h => ?_) (fun cdv A outer s H vs Q E hr quiet h => ?_)
  · obtain ⟨a, ns, rfl, _⟩ := h
    rfl
  · obtain ⟨a, ns, rfl, hS, hl, k⟩ := h
    have hk1 := n1
    refine ⟨_, (pss_one (ps_ret (pe_callB (cr_all rfl) (by rfl) B.all (by decide +kernel) (pa_cons (pe_lc (own := [("_law_k", 1)]) (by rfl) sc_law.nd (pi_range1 (by rfl) B.range (pa_cons (pe_callB (call_max2 rfl) (by rfl) B.max (by decide +kernel) (pa_cons pe_int (pa_cons (pe_callB (call_min2 rfl) (by rfl) B.min (by decide +kernel) (pa_cons (pe_callB call_len_seq (by rfl) B.len (by decide +kernel) (pa_cons (pv 0) pa_nil)) (pa_cons pe_int pa_nil))) pa_nil))) pa_nil)) (blkOk_by (own := [("_law_k", 1)]) (N := ["_law_script", "_law_k"]) (sc := defScope s_law) (by decide +kernel)) (fun _ _ _ _ _ => pg_name (i := 1) sc_law.nd rfl (.inl rfl)) (fun _ _ _ _ _ => pts_nil) (fun _ _ _ _ _ => (pe_ownG C_law_right hr (Nat.le_refl _) quiet (by rfl) (pa_cons (pe_own C_law_pot hr hk1 (by rfl) (pa_cons (pv 0) (pa_cons (pv 1) pa_nil))) pa_nil)))) pa_nil)))), ?_⟩
    refine ⟨_, rfl, a, _, rfl, .inl hS, _, _, rfl, _, _, rfl, ?_⟩
    rw [List.length_map]
    generalize hm : (if (4 : Int) < (ns.length : Int) then (4 : Int) else (ns.length : Int)) = m
    have m1 : m ≤ 4 := by rw [← hm]; split <;> omega
    refine ⟨_, rfl, by split <;> omega, by split <;> omega, fun D nD => ?_⟩
    refine lc_range (lo := 0) (n := (if m > (2 : Int) then m else 2).toNat) (fun i J => ∃ bs : List Bool, bs.length = i ∧ bs.all id = true ∧ J D = some (.lst (bs.map V.bl)) ∧ Same H J) ⟨[], rfl, rfl, upd_same, same_new nD⟩ ?_ ?_
    · rintro i J hi ⟨bs, rfl, ha, eD, sJ⟩
      have i5 : bs.length < 5 := by
        revert hi
        split <;> omega
      refine ⟨rfl, yes (iteT ⟨_, rfl, _, rfl, a, bs.length, ns, ?_, sJ.seq hS, by omega, fun p G np hp sG => ?_⟩)⟩
      · rw [Int.zero_add]
        rfl
      · refine ⟨p, rfl, hp, fun G2 L => ?_⟩
        have nDp : D ≠ p := ne_of_none eD np
        have gD : G2 D = some (.lst (bs.map V.bl)) := L.keep _ _ (sG _ _ eD) nDp
        refine ⟨_, gD, small1000 (by rw [List.length_map]; omega), bs ++ [true], by rw [List.length_append]; rfl, by rw [List.all_append, ha]; rfl, ?_, fun b o e => ?_⟩
        · rw [upd_same, List.map_append]
          rfl
        · rw [upd_ne (ne_of_none e nD)]
          exact L.keep _ _ (sG _ _ (sJ _ _ e)) (ne_of_none (sJ _ _ e) np)
    · rintro J ⟨bs, el, ha, eD, sJ⟩
      refine ⟨D, bs, rfl, .inl (.inl eD), ?_⟩
      rw [ha]
      exact k J
end
end Gu
namespace Gu
open PySem PySem.Spec PyProof.Rows L2
theorem at_mk {K : PySem.W.Frag} {h : Heap} {mg : Str → Option Value} {x : Str} {st : Stmt} {ps : List Str} {f : Addr} {oc : Value} {od an : Option Addr} {sl : Array (Option Value)} {kV dc pm cd ct : Value} (X : K.In h) (G : h.Ns mainGlobals mg)
    (hb : ∀ (kV doc pm : Value) (an : Option Addr) (cdv ct : Value) (us : List Value), us.length = ps.length → bindArgs (PySem.W.fnOf x x (defArgs st) (defBody st) (defScope st) .none kV doc pm an cdv ct) ⟨us, []⟩ = pure (ps.zip us))
    (a : PySem.W.nsIn K mainGlobals x = some (some (.ref f))) (l : K.lookup f = some ⟨oc, od, .func (PySem.W.fnOf x x (defArgs st) (defBody st) (defScope st) .none kV dc pm an cd ct), sl⟩) (c : PySem.W.codeIn K cd x = true) (k : PySem.W.keepIn K (.ref f) = true) : At K mg x st ps :=
  ⟨f, _, fun_mk l c k, (fun_mk l c k).binds hb, PySem.W.mg_of X G a⟩
theorem cst_mk {K : PySem.W.Frag} {h : Heap} {mg : Str → Option Value} {x : Str} {v : V} {u : Value} (X : K.In h) (G : h.Ns mainGlobals mg) (r : RelV v u) (a : PySem.W.nsIn K mainGlobals x = some (some u)) : ∃ u, mg x = some u ∧ RelV v u := ⟨u, PySem.W.mg_of X G a, r⟩
end Gu
namespace Gu
open PySem PySem.Spec PyProof.Rows L2
theorem fin {P : Program} {w : World} {K : PySem.W.Frag} {mg : Str → Option Value} {base : Heap} {C f : Addr} {fd : FuncData} (B : Bi mg) (T_KINDS : TupC K mg "KINDS" ["end", "start", "middle"]) (Ck_confused : ChkW K mg w "confused" "confused_holds") (Ss : ShC K mg C) (Is : InitAt K C)
    (A_is_integer : At K mg "is_integer" s_is_integer ps_is_integer) (A_is_tuple : At K mg "is_tuple" s_is_tuple ps_is_tuple) (A_is_text : At K mg "is_text" s_is_text ps_is_text) (A_check_mark : At K mg "check_mark" s_check_mark ps_check_mark) (A_check_text : At K mg "check_text" s_check_text ps_check_text) (A_check_length : At K mg "check_length" s_check_length ps_check_length) (A_check_texts : At K mg "check_texts" s_check_texts ps_check_texts) (A_check_row : At K mg "check_row" s_check_row ps_check_row) (A_shortened : At K mg "shortened" s_shortened ps_shortened) (A_planned : At K mg "planned" s_planned ps_planned) (A_shown_by : At K mg "shown_by" s_shown_by ps_shown_by) (A_show : At K mg "show" s_show ps_show) (A_check_kind : At K mg "check_kind" s_check_kind ps_check_kind) (A_widths_of : At K mg "widths_of" s_widths_of ps_widths_of) (A_member_of : At K mg "member_of" s_member_of ps_member_of) (A_separates : At K mg "separates" s_separates ps_separates) (A_widths : At K mg "widths" s_widths ps_widths) (A_groups : At K mg "groups" s_groups ps_groups) (A_tells_apart : At K mg "tells_apart" s_tells_apart ps_tells_apart) (A_is_row : At K mg "is_row" s_is_row ps_is_row) (A_is_view : At K mg "is_view" s_is_view ps_is_view) (A_check_views : At K mg "check_views" s_check_views ps_check_views) (A_known_signs : At K mg "known_signs" s_known_signs ps_known_signs) (A_written_out : At K mg "written_out" s_written_out ps_written_out) (A_signs : At K mg "signs" s_signs ps_signs) (A_number_of : At K mg "number_of" s_number_of ps_number_of) (A_is_told : At K mg "is_told" s_is_told ps_is_told) (A_is_told_row : At K mg "is_told_row" s_is_told_row ps_is_told_row) (A_are_told_rows : At K mg "are_told_rows" s_are_told_rows ps_are_told_rows) (A_is_pair_of_texts : At K mg "is_pair_of_texts" s_is_pair_of_texts ps_is_pair_of_texts) (A_row_of : At K mg "row_of" s_row_of ps_row_of) (A_confused_holds : At K mg "confused_holds" s_confused_holds ps_confused_holds) (A_holds : At K mg "holds" s_holds ps_holds) (A_law_pot : At K mg "_law_pot" s_law_pot ps_law_pot) (A_law_ladle : At K mg "_law_ladle" s_law_ladle ps_law_ladle) (A_law_one_of : At K mg "_law_one_of" s_law_one_of ps_law_one_of) (A_law_told : At K mg "_law_told" s_law_told ps_law_told) (A_law_tolds : At K mg "_law_tolds" s_law_tolds ps_law_tolds) (A_law_made : At K mg "_law_made" s_law_made ps_law_made) (A_law_line : At K mg "_law_line" s_law_line ps_law_line) (A_law_some_lines : At K mg "_law_some_lines" s_law_some_lines ps_law_some_lines) (A_law_right : At K mg "_law_right" s_law_right ps_law_right)
    (F : Fun K "law" "law" s_law f fd) : FnG P w K mg base 9 f fd ps_law (spLaw K) := by
  have c1 : Cal P w K mg base 1 "_law_ladle" ps_law_ladle spLadle := cal_ladle B A_law_ladle
  have c2 : Cal P w K mg base 2 "_law_one_of" ps_law_one_of (spOneOf K) := cal_oneOf B A_law_one_of c1
  have c3 : Cal P w K mg base 3 "_law_told" ps_law_told spTold := cal_told B A_law_told c1 c2
  have c4 : Cal P w K mg base 4 "_law_tolds" ps_law_tolds spTolds := cal_tolds B A_law_tolds c3 c2
  have c5 : Cal P w K mg base 1 "is_integer" ps_is_integer (spIsInteger K) := cal_isInteger B A_is_integer
  have c6 : Cal P w K mg base 1 "is_text" ps_is_text (spIsText K) := cal_isText B A_is_text
  have cmk : Cal P w K mg base 2 "check_mark" ps_check_mark spCheckMark := cal_checkMark B A_check_mark c6
  have m1 : Mak P w K mg base 3 "Shortener" C (spInit C) := mak_sh B Ss Is c5 cmk
  have c7 : Cal P w K mg base 5 "_law_made" ps_law_made (spMade C) := cal_made B A_law_made m1
  have t1 : Cal P w K mg base 1 "is_tuple" ps_is_tuple (spIsTuple K) := cal_isTuple B A_is_tuple
  have d1 : Cal P w K mg base 2 "check_row" ps_check_row (spCheckRow C) := cal_checkRow B Ss A_check_row t1
  have d2 : Cal P w K mg base 1 "shortened" ps_shortened (spShortT C) := cal_shortT B Ss A_shortened
  have d3 : Cal P w K mg base 2 "planned" ps_planned (spPlanned C) := cal_planned B Ss A_planned d2
  have g1 : Cal P w K mg base 2 "check_text" ps_check_text spCheckText := cal_checkText B A_check_text c6
  have g2 : Cal P w K mg base 1 "shortened" ps_shortened (spShortS C) := cal_shortS B Ss A_shortened
  have sby : Cal P w K mg base 2 "shown_by" ps_shown_by (spShownBy C) := cal_shownBy B Ss A_shown_by g2
  have g3 : Cal P w K mg base 3 "show" ps_show (spShow C) := cal_show B A_show d1 g1 sby
  have g4 : Cal P w K mg base 2 "check_length" ps_check_length spCheckLength := cal_checkLength B A_check_length c5
  have p1 : Cal P w K mg base 1 "check_kind" ps_check_kind spCheckKind := cal_checkKind B T_KINDS A_check_kind
  have p2 : Cal P w K mg base 2 "check_texts" ps_check_texts (spTexts K) := cal_texts B A_check_texts t1 c6
  have p3 : Cal P w K mg base 1 "widths_of" ps_widths_of spWidthsOf := cal_widthsOf B A_widths_of
  have p4 : Cal P w K mg base 5 "member_of" ps_member_of (spMemberOf C) := cal_memberOf B A_member_of m1
  have p5 : Cal P w K mg base 3 "separates" ps_separates (spSep K C) := cal_sep B A_separates sby
  have p6 : Cal P w K mg base 6 "widths" ps_widths (spWidths K) := cal_widths B A_widths p1 cmk p2 p3 p4 p5
  have p7 : Cal P w K mg base 4 "tells_apart" ps_tells_apart (spTells K C) := cal_tells B A_tells_apart d1 p2 p5
  have p8 : Cal P w K mg base 3 "groups" ps_groups (spGroups K C) := cal_groups B A_groups d1 p2 sby
  have v1 : Cal P w K mg base 2 "is_row" ps_is_row (spIsRow C) := cal_isRow B Ss A_is_row t1
  have v2 : Cal P w K mg base 3 "is_view" ps_is_view (spIsView C) := cal_isView B A_is_view t1 c6 v1
  have v3 : Cal P w K mg base 4 "check_views" ps_check_views (spCheckViews C) := cal_checkViews B A_check_views t1 v2
  have v4 : Cal P w K mg base 3 "known_signs" ps_known_signs (spKnown C) := cal_known B A_known_signs d3
  have v5 : Cal P w K mg base 1 "written_out" ps_written_out spWritten := cal_written B A_written_out
  have v6 : Cal P w K mg base 5 "signs" ps_signs (spSigns C) := cal_signs B A_signs v3 g4 v4 v5
  have v7 : Cal P w K mg base 6 "number_of" ps_number_of (spNumber C) := cal_number B A_number_of v6
  have h1 : Cal P w K mg base 2 "is_told" ps_is_told (spTrueT K C) := cal_isTold B A_is_told t1 c5 c6
  have h2 : Cal P w K mg base 3 "is_told_row" ps_is_told_row (spTrueR K) := cal_isToldRow B A_is_told_row t1 h1
  have h3 : Cal P w K mg base 4 "are_told_rows" ps_are_told_rows (spTrueP K) := cal_areTold B A_are_told_rows h2
  have h4 : Cal P w K mg base 2 "is_pair_of_texts" ps_is_pair_of_texts (spPairT K) := cal_isPairT B A_is_pair_of_texts t1 c6
  have h5 : Cal P w K mg base 5 "row_of" ps_row_of (spRowOf K C) := cal_rowOf B A_row_of m1
  have h6 : Cal P w K mg base 6 "confused_holds" ps_confused_holds (spConf K) := cal_conf B A_confused_holds h3 h4 h5 sby
  have h7 : Cal P w K mg base 7 "holds" ps_holds (spHolds K) := cal_holds B Ck_confused A_holds t1 h6
  have g8 : Cal P w K mg base 3 "_law_line" ps_law_line spLine := cal_line B A_law_line c2
  have l3 : Cal P w K mg base 4 "_law_some_lines" ps_law_some_lines spSomeLines := cal_someLines B A_law_some_lines c1 c2 g8
  have e7 : CalG P w K mg base 8 "_law_right" ps_law_right spRight := cal_right B A_law_right c1 c2 g8 c4 l3 c7 m1 p7 p6 p8 h7 v7 g3
  exact cal_law B F (by decide) (cal_pot B A_law_pot) e7
end Gu
namespace Gu
open PySem PySem.Spec PyProof.Rows L2
set_option maxHeartbeats 0 in
theorem all_mk {l : PySem.W.OpenLaw} {w : World} {K : PySem.W.Frag} {h : Heap} {mg : Str → Option Value} {fa : Addr} {f_is_integer : Addr} {oc_is_integer kV_is_integer dc_is_integer pm_is_integer cd_is_integer ct_is_integer : Value} {od_is_integer an_is_integer : Option Addr} {sl_is_integer : Array (Option Value)} {f_is_tuple : Addr} {oc_is_tuple kV_is_tuple dc_is_tuple pm_is_tuple cd_is_tuple ct_is_tuple : Value} {od_is_tuple an_is_tuple : Option Addr} {sl_is_tuple : Array (Option Value)} {f_is_text : Addr} {oc_is_text kV_is_text dc_is_text pm_is_text cd_is_text ct_is_text : Value} {od_is_text an_is_text : Option Addr} {sl_is_text : Array (Option Value)} {f_check_mark : Addr} {oc_check_mark kV_check_mark dc_check_mark pm_check_mark cd_check_mark ct_check_mark : Value} {od_check_mark an_check_mark : Option Addr} {sl_check_mark : Array (Option Value)} {f_check_text : Addr} {oc_check_text kV_check_text dc_check_text pm_check_text cd_check_text ct_check_text : Value} {od_check_text an_check_text : Option Addr} {sl_check_text : Array (Option Value)} {f_check_length : Addr} {oc_check_length kV_check_length dc_check_length pm_check_length cd_check_length ct_check_length : Value} {od_check_length an_check_length : Option Addr} {sl_check_length : Array (Option Value)} {f_check_texts : Addr} {oc_check_texts kV_check_texts dc_check_texts pm_check_texts cd_check_texts ct_check_texts : Value} {od_check_texts an_check_texts : Option Addr} {sl_check_texts : Array (Option Value)} {f_check_row : Addr} {oc_check_row kV_check_row dc_check_row pm_check_row cd_check_row ct_check_row : Value} {od_check_row an_check_row : Option Addr} {sl_check_row : Array (Option Value)} {f_shortened : Addr} {oc_shortened kV_shortened dc_shortened pm_shortened cd_shortened ct_shortened : Value} {od_shortened an_shortened : Option Addr} {sl_shortened : Array (Option Value)} {f_planned : Addr} {oc_planned kV_planned dc_planned pm_planned cd_planned ct_planned : Value} {od_planned an_planned : Option Addr} {sl_planned : Array (Option Value)} {f_shown_by : Addr} {oc_shown_by kV_shown_by dc_shown_by pm_shown_by cd_shown_by ct_shown_by : Value} {od_shown_by an_shown_by : Option Addr} {sl_shown_by : Array (Option Value)} {f_show : Addr} {oc_show kV_show dc_show pm_show cd_show ct_show : Value} {od_show an_show : Option Addr} {sl_show : Array (Option Value)} {f_check_kind : Addr} {oc_check_kind kV_check_kind dc_check_kind pm_check_kind cd_check_kind ct_check_kind : Value} {od_check_kind an_check_kind : Option Addr} {sl_check_kind : Array (Option Value)} {f_widths_of : Addr} {oc_widths_of kV_widths_of dc_widths_of pm_widths_of cd_widths_of ct_widths_of : Value} {od_widths_of an_widths_of : Option Addr} {sl_widths_of : Array (Option Value)} {f_member_of : Addr} {oc_member_of kV_member_of dc_member_of pm_member_of cd_member_of ct_member_of : Value} {od_member_of an_member_of : Option Addr} {sl_member_of : Array (Option Value)} {f_separates : Addr} {oc_separates kV_separates dc_separates pm_separates cd_separates ct_separates : Value} {od_separates an_separates : Option Addr} {sl_separates : Array (Option Value)} {f_widths : Addr} {oc_widths kV_widths dc_widths pm_widths cd_widths ct_widths : Value} {od_widths an_widths : Option Addr} {sl_widths : Array (Option Value)} {f_groups : Addr} {oc_groups kV_groups dc_groups pm_groups cd_groups ct_groups : Value} {od_groups an_groups : Option Addr} {sl_groups : Array (Option Value)} {f_tells_apart : Addr} {oc_tells_apart kV_tells_apart dc_tells_apart pm_tells_apart cd_tells_apart ct_tells_apart : Value} {od_tells_apart an_tells_apart : Option Addr} {sl_tells_apart : Array (Option Value)} {f_is_row : Addr} {oc_is_row kV_is_row dc_is_row pm_is_row cd_is_row ct_is_row : Value} {od_is_row an_is_row : Option Addr} {sl_is_row : Array (Option Value)} {f_is_view : Addr} {oc_is_view kV_is_view dc_is_view pm_is_view cd_is_view ct_is_view : Value} {od_is_view an_is_view : Option Addr} {sl_is_view : Array (Option Value)} {f_check_views : Addr} {oc_check_views kV_check_views dc_check_views pm_check_views cd_check_views ct_check_views : Value} {od_check_views an_check_views : Option Addr} {sl_check_views : Array (Option Value)} {f_known_signs : Addr} {oc_known_signs kV_known_signs dc_known_signs pm_known_signs cd_known_signs ct_known_signs : Value} {od_known_signs an_known_signs : Option Addr} {sl_known_signs : Array (Option Value)} {f_written_out : Addr} {oc_written_out kV_written_out dc_written_out pm_written_out cd_written_out ct_written_out : Value} {od_written_out an_written_out : Option Addr} {sl_written_out : Array (Option Value)} {f_signs : Addr} {oc_signs kV_signs dc_signs pm_signs cd_signs ct_signs : Value} {od_signs an_signs : Option Addr} {sl_signs : Array (Option Value)} {f_number_of : Addr} {oc_number_of kV_number_of dc_number_of pm_number_of cd_number_of ct_number_of : Value} {od_number_of an_number_of : Option Addr} {sl_number_of : Array (Option Value)} {f_is_told : Addr} {oc_is_told kV_is_told dc_is_told pm_is_told cd_is_told ct_is_told : Value} {od_is_told an_is_told : Option Addr} {sl_is_told : Array (Option Value)} {f_is_told_row : Addr} {oc_is_told_row kV_is_told_row dc_is_told_row pm_is_told_row cd_is_told_row ct_is_told_row : Value} {od_is_told_row an_is_told_row : Option Addr} {sl_is_told_row : Array (Option Value)} {f_are_told_rows : Addr} {oc_are_told_rows kV_are_told_rows dc_are_told_rows pm_are_told_rows cd_are_told_rows ct_are_told_rows : Value} {od_are_told_rows an_are_told_rows : Option Addr} {sl_are_told_rows : Array (Option Value)} {f_is_pair_of_texts : Addr} {oc_is_pair_of_texts kV_is_pair_of_texts dc_is_pair_of_texts pm_is_pair_of_texts cd_is_pair_of_texts ct_is_pair_of_texts : Value} {od_is_pair_of_texts an_is_pair_of_texts : Option Addr} {sl_is_pair_of_texts : Array (Option Value)} {f_row_of : Addr} {oc_row_of kV_row_of dc_row_of pm_row_of cd_row_of ct_row_of : Value} {od_row_of an_row_of : Option Addr} {sl_row_of : Array (Option Value)} {f_confused_holds : Addr} {oc_confused_holds kV_confused_holds dc_confused_holds pm_confused_holds cd_confused_holds ct_confused_holds : Value} {od_confused_holds an_confused_holds : Option Addr} {sl_confused_holds : Array (Option Value)} {f_holds : Addr} {oc_holds kV_holds dc_holds pm_holds cd_holds ct_holds : Value} {od_holds an_holds : Option Addr} {sl_holds : Array (Option Value)} {f_law_pot : Addr} {oc_law_pot kV_law_pot dc_law_pot pm_law_pot cd_law_pot ct_law_pot : Value} {od_law_pot an_law_pot : Option Addr} {sl_law_pot : Array (Option Value)} {f_law_ladle : Addr} {oc_law_ladle kV_law_ladle dc_law_ladle pm_law_ladle cd_law_ladle ct_law_ladle : Value} {od_law_ladle an_law_ladle : Option Addr} {sl_law_ladle : Array (Option Value)} {f_law_one_of : Addr} {oc_law_one_of kV_law_one_of dc_law_one_of pm_law_one_of cd_law_one_of ct_law_one_of : Value} {od_law_one_of an_law_one_of : Option Addr} {sl_law_one_of : Array (Option Value)} {f_law_told : Addr} {oc_law_told kV_law_told dc_law_told pm_law_told cd_law_told ct_law_told : Value} {od_law_told an_law_told : Option Addr} {sl_law_told : Array (Option Value)} {f_law_tolds : Addr} {oc_law_tolds kV_law_tolds dc_law_tolds pm_law_tolds cd_law_tolds ct_law_tolds : Value} {od_law_tolds an_law_tolds : Option Addr} {sl_law_tolds : Array (Option Value)} {f_law_made : Addr} {oc_law_made kV_law_made dc_law_made pm_law_made cd_law_made ct_law_made : Value} {od_law_made an_law_made : Option Addr} {sl_law_made : Array (Option Value)} {f_law_line : Addr} {oc_law_line kV_law_line dc_law_line pm_law_line cd_law_line ct_law_line : Value} {od_law_line an_law_line : Option Addr} {sl_law_line : Array (Option Value)} {f_law_some_lines : Addr} {oc_law_some_lines kV_law_some_lines dc_law_some_lines pm_law_some_lines cd_law_some_lines ct_law_some_lines : Value} {od_law_some_lines an_law_some_lines : Option Addr} {sl_law_some_lines : Array (Option Value)} {f_law_right : Addr} {oc_law_right kV_law_right dc_law_right pm_law_right cd_law_right ct_law_right : Value} {od_law_right an_law_right : Option Addr} {sl_law_right : Array (Option Value)} {f_law : Addr} {oc_law kV_law dc_law pm_law cd_law ct_law : Value} {od_law an_law : Option Addr} {sl_law : Array (Option Value)} {C : Addr} {f_is : Addr} {oc_is kV_is dc_is pm_is cd_is ct_is : Value} {od_is an_is : Option Addr} {sl_is : Array (Option Value)} {u_MOST_SIGNS : Tok} {u_MOST_MARK : Tok} {u_MOST_ROW : Tok} {u_MOST_VIEWS : Tok} {u_MOST_TEXT : Tok} {u_MOST_LENGTH : Tok} {u_SIGNS : Tok} {T_KINDS : Addr} {td_KINDS : Option Addr} {ts_KINDS : Array (Option Value)} {tn_KINDS : Nat} {e_KINDS_0 e_KINDS_1 e_KINDS_2 : Tok} {u_MOST_TEXTS : Tok} {u_SEVERAL : Tok} {T_ck : Addr} {es_ck : Array DictEntry} {n_ck : Nat}
    (X : K.In h) (G : h.Ns mainGlobals mg) (hfa : mg "law" = some (.ref fa))
    (a_is_integer : PySem.W.nsIn K mainGlobals "is_integer" = some (some (.ref f_is_integer)))
    (l_is_integer : K.lookup f_is_integer = some ⟨oc_is_integer, od_is_integer, .func (PySem.W.fnOf "is_integer" "is_integer" (defArgs s_is_integer) (defBody s_is_integer) (defScope s_is_integer) .none kV_is_integer dc_is_integer pm_is_integer an_is_integer cd_is_integer ct_is_integer), sl_is_integer⟩)
    (c_is_integer : PySem.W.codeIn K cd_is_integer "is_integer" = true)
    (k_is_integer : PySem.W.keepIn K (.ref f_is_integer) = true)
    (a_is_tuple : PySem.W.nsIn K mainGlobals "is_tuple" = some (some (.ref f_is_tuple)))
    (l_is_tuple : K.lookup f_is_tuple = some ⟨oc_is_tuple, od_is_tuple, .func (PySem.W.fnOf "is_tuple" "is_tuple" (defArgs s_is_tuple) (defBody s_is_tuple) (defScope s_is_tuple) .none kV_is_tuple dc_is_tuple pm_is_tuple an_is_tuple cd_is_tuple ct_is_tuple), sl_is_tuple⟩)
    (c_is_tuple : PySem.W.codeIn K cd_is_tuple "is_tuple" = true)
    (k_is_tuple : PySem.W.keepIn K (.ref f_is_tuple) = true)
    (a_is_text : PySem.W.nsIn K mainGlobals "is_text" = some (some (.ref f_is_text)))
    (l_is_text : K.lookup f_is_text = some ⟨oc_is_text, od_is_text, .func (PySem.W.fnOf "is_text" "is_text" (defArgs s_is_text) (defBody s_is_text) (defScope s_is_text) .none kV_is_text dc_is_text pm_is_text an_is_text cd_is_text ct_is_text), sl_is_text⟩)
    (c_is_text : PySem.W.codeIn K cd_is_text "is_text" = true)
    (k_is_text : PySem.W.keepIn K (.ref f_is_text) = true)
    (a_check_mark : PySem.W.nsIn K mainGlobals "check_mark" = some (some (.ref f_check_mark)))
    (l_check_mark : K.lookup f_check_mark = some ⟨oc_check_mark, od_check_mark, .func (PySem.W.fnOf "check_mark" "check_mark" (defArgs s_check_mark) (defBody s_check_mark) (defScope s_check_mark) .none kV_check_mark dc_check_mark pm_check_mark an_check_mark cd_check_mark ct_check_mark), sl_check_mark⟩)
    (c_check_mark : PySem.W.codeIn K cd_check_mark "check_mark" = true)
    (k_check_mark : PySem.W.keepIn K (.ref f_check_mark) = true)
    (a_check_text : PySem.W.nsIn K mainGlobals "check_text" = some (some (.ref f_check_text)))
    (l_check_text : K.lookup f_check_text = some ⟨oc_check_text, od_check_text, .func (PySem.W.fnOf "check_text" "check_text" (defArgs s_check_text) (defBody s_check_text) (defScope s_check_text) .none kV_check_text dc_check_text pm_check_text an_check_text cd_check_text ct_check_text), sl_check_text⟩)
    (c_check_text : PySem.W.codeIn K cd_check_text "check_text" = true)
    (k_check_text : PySem.W.keepIn K (.ref f_check_text) = true)
    (a_check_length : PySem.W.nsIn K mainGlobals "check_length" = some (some (.ref f_check_length)))
    (l_check_length : K.lookup f_check_length = some ⟨oc_check_length, od_check_length, .func (PySem.W.fnOf "check_length" "check_length" (defArgs s_check_length) (defBody s_check_length) (defScope s_check_length) .none kV_check_length dc_check_length pm_check_length an_check_length cd_check_length ct_check_length), sl_check_length⟩)
    (c_check_length : PySem.W.codeIn K cd_check_length "check_length" = true)
    (k_check_length : PySem.W.keepIn K (.ref f_check_length) = true)
    (a_check_texts : PySem.W.nsIn K mainGlobals "check_texts" = some (some (.ref f_check_texts)))
    (l_check_texts : K.lookup f_check_texts = some ⟨oc_check_texts, od_check_texts, .func (PySem.W.fnOf "check_texts" "check_texts" (defArgs s_check_texts) (defBody s_check_texts) (defScope s_check_texts) .none kV_check_texts dc_check_texts pm_check_texts an_check_texts cd_check_texts ct_check_texts), sl_check_texts⟩)
    (c_check_texts : PySem.W.codeIn K cd_check_texts "check_texts" = true)
    (k_check_texts : PySem.W.keepIn K (.ref f_check_texts) = true)
    (a_check_row : PySem.W.nsIn K mainGlobals "check_row" = some (some (.ref f_check_row)))
    (l_check_row : K.lookup f_check_row = some ⟨oc_check_row, od_check_row, .func (PySem.W.fnOf "check_row" "check_row" (defArgs s_check_row) (defBody s_check_row) (defScope s_check_row) .none kV_check_row dc_check_row pm_check_row an_check_row cd_check_row ct_check_row), sl_check_row⟩)
    (c_check_row : PySem.W.codeIn K cd_check_row "check_row" = true)
    (k_check_row : PySem.W.keepIn K (.ref f_check_row) = true)
    (a_shortened : PySem.W.nsIn K mainGlobals "shortened" = some (some (.ref f_shortened)))
    (l_shortened : K.lookup f_shortened = some ⟨oc_shortened, od_shortened, .func (PySem.W.fnOf "shortened" "shortened" (defArgs s_shortened) (defBody s_shortened) (defScope s_shortened) .none kV_shortened dc_shortened pm_shortened an_shortened cd_shortened ct_shortened), sl_shortened⟩)
    (c_shortened : PySem.W.codeIn K cd_shortened "shortened" = true)
    (k_shortened : PySem.W.keepIn K (.ref f_shortened) = true)
    (a_planned : PySem.W.nsIn K mainGlobals "planned" = some (some (.ref f_planned)))
    (l_planned : K.lookup f_planned = some ⟨oc_planned, od_planned, .func (PySem.W.fnOf "planned" "planned" (defArgs s_planned) (defBody s_planned) (defScope s_planned) .none kV_planned dc_planned pm_planned an_planned cd_planned ct_planned), sl_planned⟩)
    (c_planned : PySem.W.codeIn K cd_planned "planned" = true)
    (k_planned : PySem.W.keepIn K (.ref f_planned) = true)
    (a_shown_by : PySem.W.nsIn K mainGlobals "shown_by" = some (some (.ref f_shown_by)))
    (l_shown_by : K.lookup f_shown_by = some ⟨oc_shown_by, od_shown_by, .func (PySem.W.fnOf "shown_by" "shown_by" (defArgs s_shown_by) (defBody s_shown_by) (defScope s_shown_by) .none kV_shown_by dc_shown_by pm_shown_by an_shown_by cd_shown_by ct_shown_by), sl_shown_by⟩)
    (c_shown_by : PySem.W.codeIn K cd_shown_by "shown_by" = true)
    (k_shown_by : PySem.W.keepIn K (.ref f_shown_by) = true)
    (a_show : PySem.W.nsIn K mainGlobals "show" = some (some (.ref f_show)))
    (l_show : K.lookup f_show = some ⟨oc_show, od_show, .func (PySem.W.fnOf "show" "show" (defArgs s_show) (defBody s_show) (defScope s_show) .none kV_show dc_show pm_show an_show cd_show ct_show), sl_show⟩)
    (c_show : PySem.W.codeIn K cd_show "show" = true)
    (k_show : PySem.W.keepIn K (.ref f_show) = true)
    (a_check_kind : PySem.W.nsIn K mainGlobals "check_kind" = some (some (.ref f_check_kind)))
    (l_check_kind : K.lookup f_check_kind = some ⟨oc_check_kind, od_check_kind, .func (PySem.W.fnOf "check_kind" "check_kind" (defArgs s_check_kind) (defBody s_check_kind) (defScope s_check_kind) .none kV_check_kind dc_check_kind pm_check_kind an_check_kind cd_check_kind ct_check_kind), sl_check_kind⟩)
    (c_check_kind : PySem.W.codeIn K cd_check_kind "check_kind" = true)
    (k_check_kind : PySem.W.keepIn K (.ref f_check_kind) = true)
    (a_widths_of : PySem.W.nsIn K mainGlobals "widths_of" = some (some (.ref f_widths_of)))
    (l_widths_of : K.lookup f_widths_of = some ⟨oc_widths_of, od_widths_of, .func (PySem.W.fnOf "widths_of" "widths_of" (defArgs s_widths_of) (defBody s_widths_of) (defScope s_widths_of) .none kV_widths_of dc_widths_of pm_widths_of an_widths_of cd_widths_of ct_widths_of), sl_widths_of⟩)
    (c_widths_of : PySem.W.codeIn K cd_widths_of "widths_of" = true)
    (k_widths_of : PySem.W.keepIn K (.ref f_widths_of) = true)
    (a_member_of : PySem.W.nsIn K mainGlobals "member_of" = some (some (.ref f_member_of)))
    (l_member_of : K.lookup f_member_of = some ⟨oc_member_of, od_member_of, .func (PySem.W.fnOf "member_of" "member_of" (defArgs s_member_of) (defBody s_member_of) (defScope s_member_of) .none kV_member_of dc_member_of pm_member_of an_member_of cd_member_of ct_member_of), sl_member_of⟩)
    (c_member_of : PySem.W.codeIn K cd_member_of "member_of" = true)
    (k_member_of : PySem.W.keepIn K (.ref f_member_of) = true)
    (a_separates : PySem.W.nsIn K mainGlobals "separates" = some (some (.ref f_separates)))
    (l_separates : K.lookup f_separates = some ⟨oc_separates, od_separates, .func (PySem.W.fnOf "separates" "separates" (defArgs s_separates) (defBody s_separates) (defScope s_separates) .none kV_separates dc_separates pm_separates an_separates cd_separates ct_separates), sl_separates⟩)
    (c_separates : PySem.W.codeIn K cd_separates "separates" = true)
    (k_separates : PySem.W.keepIn K (.ref f_separates) = true)
    (a_widths : PySem.W.nsIn K mainGlobals "widths" = some (some (.ref f_widths)))
    (l_widths : K.lookup f_widths = some ⟨oc_widths, od_widths, .func (PySem.W.fnOf "widths" "widths" (defArgs s_widths) (defBody s_widths) (defScope s_widths) .none kV_widths dc_widths pm_widths an_widths cd_widths ct_widths), sl_widths⟩)
    (c_widths : PySem.W.codeIn K cd_widths "widths" = true)
    (k_widths : PySem.W.keepIn K (.ref f_widths) = true)
    (a_groups : PySem.W.nsIn K mainGlobals "groups" = some (some (.ref f_groups)))
    (l_groups : K.lookup f_groups = some ⟨oc_groups, od_groups, .func (PySem.W.fnOf "groups" "groups" (defArgs s_groups) (defBody s_groups) (defScope s_groups) .none kV_groups dc_groups pm_groups an_groups cd_groups ct_groups), sl_groups⟩)
    (c_groups : PySem.W.codeIn K cd_groups "groups" = true)
    (k_groups : PySem.W.keepIn K (.ref f_groups) = true)
    (a_tells_apart : PySem.W.nsIn K mainGlobals "tells_apart" = some (some (.ref f_tells_apart)))
    (l_tells_apart : K.lookup f_tells_apart = some ⟨oc_tells_apart, od_tells_apart, .func (PySem.W.fnOf "tells_apart" "tells_apart" (defArgs s_tells_apart) (defBody s_tells_apart) (defScope s_tells_apart) .none kV_tells_apart dc_tells_apart pm_tells_apart an_tells_apart cd_tells_apart ct_tells_apart), sl_tells_apart⟩)
    (c_tells_apart : PySem.W.codeIn K cd_tells_apart "tells_apart" = true)
    (k_tells_apart : PySem.W.keepIn K (.ref f_tells_apart) = true)
    (a_is_row : PySem.W.nsIn K mainGlobals "is_row" = some (some (.ref f_is_row)))
    (l_is_row : K.lookup f_is_row = some ⟨oc_is_row, od_is_row, .func (PySem.W.fnOf "is_row" "is_row" (defArgs s_is_row) (defBody s_is_row) (defScope s_is_row) .none kV_is_row dc_is_row pm_is_row an_is_row cd_is_row ct_is_row), sl_is_row⟩)
    (c_is_row : PySem.W.codeIn K cd_is_row "is_row" = true)
    (k_is_row : PySem.W.keepIn K (.ref f_is_row) = true)
    (a_is_view : PySem.W.nsIn K mainGlobals "is_view" = some (some (.ref f_is_view)))
    (l_is_view : K.lookup f_is_view = some ⟨oc_is_view, od_is_view, .func (PySem.W.fnOf "is_view" "is_view" (defArgs s_is_view) (defBody s_is_view) (defScope s_is_view) .none kV_is_view dc_is_view pm_is_view an_is_view cd_is_view ct_is_view), sl_is_view⟩)
    (c_is_view : PySem.W.codeIn K cd_is_view "is_view" = true)
    (k_is_view : PySem.W.keepIn K (.ref f_is_view) = true)
    (a_check_views : PySem.W.nsIn K mainGlobals "check_views" = some (some (.ref f_check_views)))
    (l_check_views : K.lookup f_check_views = some ⟨oc_check_views, od_check_views, .func (PySem.W.fnOf "check_views" "check_views" (defArgs s_check_views) (defBody s_check_views) (defScope s_check_views) .none kV_check_views dc_check_views pm_check_views an_check_views cd_check_views ct_check_views), sl_check_views⟩)
    (c_check_views : PySem.W.codeIn K cd_check_views "check_views" = true)
    (k_check_views : PySem.W.keepIn K (.ref f_check_views) = true)
    (a_known_signs : PySem.W.nsIn K mainGlobals "known_signs" = some (some (.ref f_known_signs)))
    (l_known_signs : K.lookup f_known_signs = some ⟨oc_known_signs, od_known_signs, .func (PySem.W.fnOf "known_signs" "known_signs" (defArgs s_known_signs) (defBody s_known_signs) (defScope s_known_signs) .none kV_known_signs dc_known_signs pm_known_signs an_known_signs cd_known_signs ct_known_signs), sl_known_signs⟩)
    (c_known_signs : PySem.W.codeIn K cd_known_signs "known_signs" = true)
    (k_known_signs : PySem.W.keepIn K (.ref f_known_signs) = true)
    (a_written_out : PySem.W.nsIn K mainGlobals "written_out" = some (some (.ref f_written_out)))
    (l_written_out : K.lookup f_written_out = some ⟨oc_written_out, od_written_out, .func (PySem.W.fnOf "written_out" "written_out" (defArgs s_written_out) (defBody s_written_out) (defScope s_written_out) .none kV_written_out dc_written_out pm_written_out an_written_out cd_written_out ct_written_out), sl_written_out⟩)
    (c_written_out : PySem.W.codeIn K cd_written_out "written_out" = true)
    (k_written_out : PySem.W.keepIn K (.ref f_written_out) = true)
    (a_signs : PySem.W.nsIn K mainGlobals "signs" = some (some (.ref f_signs)))
    (l_signs : K.lookup f_signs = some ⟨oc_signs, od_signs, .func (PySem.W.fnOf "signs" "signs" (defArgs s_signs) (defBody s_signs) (defScope s_signs) .none kV_signs dc_signs pm_signs an_signs cd_signs ct_signs), sl_signs⟩)
    (c_signs : PySem.W.codeIn K cd_signs "signs" = true)
    (k_signs : PySem.W.keepIn K (.ref f_signs) = true)
    (a_number_of : PySem.W.nsIn K mainGlobals "number_of" = some (some (.ref f_number_of)))
    (l_number_of : K.lookup f_number_of = some ⟨oc_number_of, od_number_of, .func (PySem.W.fnOf "number_of" "number_of" (defArgs s_number_of) (defBody s_number_of) (defScope s_number_of) .none kV_number_of dc_number_of pm_number_of an_number_of cd_number_of ct_number_of), sl_number_of⟩)
    (c_number_of : PySem.W.codeIn K cd_number_of "number_of" = true)
    (k_number_of : PySem.W.keepIn K (.ref f_number_of) = true)
    (a_is_told : PySem.W.nsIn K mainGlobals "is_told" = some (some (.ref f_is_told)))
    (l_is_told : K.lookup f_is_told = some ⟨oc_is_told, od_is_told, .func (PySem.W.fnOf "is_told" "is_told" (defArgs s_is_told) (defBody s_is_told) (defScope s_is_told) .none kV_is_told dc_is_told pm_is_told an_is_told cd_is_told ct_is_told), sl_is_told⟩)
    (c_is_told : PySem.W.codeIn K cd_is_told "is_told" = true)
    (k_is_told : PySem.W.keepIn K (.ref f_is_told) = true)
    (a_is_told_row : PySem.W.nsIn K mainGlobals "is_told_row" = some (some (.ref f_is_told_row)))
    (l_is_told_row : K.lookup f_is_told_row = some ⟨oc_is_told_row, od_is_told_row, .func (PySem.W.fnOf "is_told_row" "is_told_row" (defArgs s_is_told_row) (defBody s_is_told_row) (defScope s_is_told_row) .none kV_is_told_row dc_is_told_row pm_is_told_row an_is_told_row cd_is_told_row ct_is_told_row), sl_is_told_row⟩)
    (c_is_told_row : PySem.W.codeIn K cd_is_told_row "is_told_row" = true)
    (k_is_told_row : PySem.W.keepIn K (.ref f_is_told_row) = true)
    (a_are_told_rows : PySem.W.nsIn K mainGlobals "are_told_rows" = some (some (.ref f_are_told_rows)))
    (l_are_told_rows : K.lookup f_are_told_rows = some ⟨oc_are_told_rows, od_are_told_rows, .func (PySem.W.fnOf "are_told_rows" "are_told_rows" (defArgs s_are_told_rows) (defBody s_are_told_rows) (defScope s_are_told_rows) .none kV_are_told_rows dc_are_told_rows pm_are_told_rows an_are_told_rows cd_are_told_rows ct_are_told_rows), sl_are_told_rows⟩)
    (c_are_told_rows : PySem.W.codeIn K cd_are_told_rows "are_told_rows" = true)
    (k_are_told_rows : PySem.W.keepIn K (.ref f_are_told_rows) = true)
    (a_is_pair_of_texts : PySem.W.nsIn K mainGlobals "is_pair_of_texts" = some (some (.ref f_is_pair_of_texts)))
    (l_is_pair_of_texts : K.lookup f_is_pair_of_texts = some ⟨oc_is_pair_of_texts, od_is_pair_of_texts, .func (PySem.W.fnOf "is_pair_of_texts" "is_pair_of_texts" (defArgs s_is_pair_of_texts) (defBody s_is_pair_of_texts) (defScope s_is_pair_of_texts) .none kV_is_pair_of_texts dc_is_pair_of_texts pm_is_pair_of_texts an_is_pair_of_texts cd_is_pair_of_texts ct_is_pair_of_texts), sl_is_pair_of_texts⟩)
    (c_is_pair_of_texts : PySem.W.codeIn K cd_is_pair_of_texts "is_pair_of_texts" = true)
    (k_is_pair_of_texts : PySem.W.keepIn K (.ref f_is_pair_of_texts) = true)
    (a_row_of : PySem.W.nsIn K mainGlobals "row_of" = some (some (.ref f_row_of)))
    (l_row_of : K.lookup f_row_of = some ⟨oc_row_of, od_row_of, .func (PySem.W.fnOf "row_of" "row_of" (defArgs s_row_of) (defBody s_row_of) (defScope s_row_of) .none kV_row_of dc_row_of pm_row_of an_row_of cd_row_of ct_row_of), sl_row_of⟩)
    (c_row_of : PySem.W.codeIn K cd_row_of "row_of" = true)
    (k_row_of : PySem.W.keepIn K (.ref f_row_of) = true)
    (a_confused_holds : PySem.W.nsIn K mainGlobals "confused_holds" = some (some (.ref f_confused_holds)))
    (l_confused_holds : K.lookup f_confused_holds = some ⟨oc_confused_holds, od_confused_holds, .func (PySem.W.fnOf "confused_holds" "confused_holds" (defArgs s_confused_holds) (defBody s_confused_holds) (defScope s_confused_holds) .none kV_confused_holds dc_confused_holds pm_confused_holds an_confused_holds cd_confused_holds ct_confused_holds), sl_confused_holds⟩)
    (c_confused_holds : PySem.W.codeIn K cd_confused_holds "confused_holds" = true)
    (k_confused_holds : PySem.W.keepIn K (.ref f_confused_holds) = true)
    (a_holds : PySem.W.nsIn K mainGlobals "holds" = some (some (.ref f_holds)))
    (l_holds : K.lookup f_holds = some ⟨oc_holds, od_holds, .func (PySem.W.fnOf "holds" "holds" (defArgs s_holds) (defBody s_holds) (defScope s_holds) .none kV_holds dc_holds pm_holds an_holds cd_holds ct_holds), sl_holds⟩)
    (c_holds : PySem.W.codeIn K cd_holds "holds" = true)
    (k_holds : PySem.W.keepIn K (.ref f_holds) = true)
    (a_law_pot : PySem.W.nsIn K mainGlobals "_law_pot" = some (some (.ref f_law_pot)))
    (l_law_pot : K.lookup f_law_pot = some ⟨oc_law_pot, od_law_pot, .func (PySem.W.fnOf "_law_pot" "_law_pot" (defArgs s_law_pot) (defBody s_law_pot) (defScope s_law_pot) .none kV_law_pot dc_law_pot pm_law_pot an_law_pot cd_law_pot ct_law_pot), sl_law_pot⟩)
    (c_law_pot : PySem.W.codeIn K cd_law_pot "_law_pot" = true)
    (k_law_pot : PySem.W.keepIn K (.ref f_law_pot) = true)
    (a_law_ladle : PySem.W.nsIn K mainGlobals "_law_ladle" = some (some (.ref f_law_ladle)))
    (l_law_ladle : K.lookup f_law_ladle = some ⟨oc_law_ladle, od_law_ladle, .func (PySem.W.fnOf "_law_ladle" "_law_ladle" (defArgs s_law_ladle) (defBody s_law_ladle) (defScope s_law_ladle) .none kV_law_ladle dc_law_ladle pm_law_ladle an_law_ladle cd_law_ladle ct_law_ladle), sl_law_ladle⟩)
    (c_law_ladle : PySem.W.codeIn K cd_law_ladle "_law_ladle" = true)
    (k_law_ladle : PySem.W.keepIn K (.ref f_law_ladle) = true)
    (a_law_one_of : PySem.W.nsIn K mainGlobals "_law_one_of" = some (some (.ref f_law_one_of)))
    (l_law_one_of : K.lookup f_law_one_of = some ⟨oc_law_one_of, od_law_one_of, .func (PySem.W.fnOf "_law_one_of" "_law_one_of" (defArgs s_law_one_of) (defBody s_law_one_of) (defScope s_law_one_of) .none kV_law_one_of dc_law_one_of pm_law_one_of an_law_one_of cd_law_one_of ct_law_one_of), sl_law_one_of⟩)
    (c_law_one_of : PySem.W.codeIn K cd_law_one_of "_law_one_of" = true)
    (k_law_one_of : PySem.W.keepIn K (.ref f_law_one_of) = true)
    (a_law_told : PySem.W.nsIn K mainGlobals "_law_told" = some (some (.ref f_law_told)))
    (l_law_told : K.lookup f_law_told = some ⟨oc_law_told, od_law_told, .func (PySem.W.fnOf "_law_told" "_law_told" (defArgs s_law_told) (defBody s_law_told) (defScope s_law_told) .none kV_law_told dc_law_told pm_law_told an_law_told cd_law_told ct_law_told), sl_law_told⟩)
    (c_law_told : PySem.W.codeIn K cd_law_told "_law_told" = true)
    (k_law_told : PySem.W.keepIn K (.ref f_law_told) = true)
    (a_law_tolds : PySem.W.nsIn K mainGlobals "_law_tolds" = some (some (.ref f_law_tolds)))
    (l_law_tolds : K.lookup f_law_tolds = some ⟨oc_law_tolds, od_law_tolds, .func (PySem.W.fnOf "_law_tolds" "_law_tolds" (defArgs s_law_tolds) (defBody s_law_tolds) (defScope s_law_tolds) .none kV_law_tolds dc_law_tolds pm_law_tolds an_law_tolds cd_law_tolds ct_law_tolds), sl_law_tolds⟩)
    (c_law_tolds : PySem.W.codeIn K cd_law_tolds "_law_tolds" = true)
    (k_law_tolds : PySem.W.keepIn K (.ref f_law_tolds) = true)
    (a_law_made : PySem.W.nsIn K mainGlobals "_law_made" = some (some (.ref f_law_made)))
    (l_law_made : K.lookup f_law_made = some ⟨oc_law_made, od_law_made, .func (PySem.W.fnOf "_law_made" "_law_made" (defArgs s_law_made) (defBody s_law_made) (defScope s_law_made) .none kV_law_made dc_law_made pm_law_made an_law_made cd_law_made ct_law_made), sl_law_made⟩)
    (c_law_made : PySem.W.codeIn K cd_law_made "_law_made" = true)
    (k_law_made : PySem.W.keepIn K (.ref f_law_made) = true)
    (a_law_line : PySem.W.nsIn K mainGlobals "_law_line" = some (some (.ref f_law_line)))
    (l_law_line : K.lookup f_law_line = some ⟨oc_law_line, od_law_line, .func (PySem.W.fnOf "_law_line" "_law_line" (defArgs s_law_line) (defBody s_law_line) (defScope s_law_line) .none kV_law_line dc_law_line pm_law_line an_law_line cd_law_line ct_law_line), sl_law_line⟩)
    (c_law_line : PySem.W.codeIn K cd_law_line "_law_line" = true)
    (k_law_line : PySem.W.keepIn K (.ref f_law_line) = true)
    (a_law_some_lines : PySem.W.nsIn K mainGlobals "_law_some_lines" = some (some (.ref f_law_some_lines)))
    (l_law_some_lines : K.lookup f_law_some_lines = some ⟨oc_law_some_lines, od_law_some_lines, .func (PySem.W.fnOf "_law_some_lines" "_law_some_lines" (defArgs s_law_some_lines) (defBody s_law_some_lines) (defScope s_law_some_lines) .none kV_law_some_lines dc_law_some_lines pm_law_some_lines an_law_some_lines cd_law_some_lines ct_law_some_lines), sl_law_some_lines⟩)
    (c_law_some_lines : PySem.W.codeIn K cd_law_some_lines "_law_some_lines" = true)
    (k_law_some_lines : PySem.W.keepIn K (.ref f_law_some_lines) = true)
    (a_law_right : PySem.W.nsIn K mainGlobals "_law_right" = some (some (.ref f_law_right)))
    (l_law_right : K.lookup f_law_right = some ⟨oc_law_right, od_law_right, .func (PySem.W.fnOf "_law_right" "_law_right" (defArgs s_law_right) (defBody s_law_right) (defScope s_law_right) .none kV_law_right dc_law_right pm_law_right an_law_right cd_law_right ct_law_right), sl_law_right⟩)
    (c_law_right : PySem.W.codeIn K cd_law_right "_law_right" = true)
    (k_law_right : PySem.W.keepIn K (.ref f_law_right) = true)
    (a_law : PySem.W.nsIn K mainGlobals "law" = some (some (.ref f_law)))
    (l_law : K.lookup f_law = some ⟨oc_law, od_law, .func (PySem.W.fnOf "law" "law" (defArgs s_law) (defBody s_law) (defScope s_law) .none kV_law dc_law pm_law an_law cd_law ct_law), sl_law⟩)
    (c_law : PySem.W.codeIn K cd_law "law" = true)
    (k_law : PySem.W.keepIn K (.ref f_law) = true)
    (qn : PySem.W.specialIn K (.builtin "object.__class__") "__get__" = some (some (.builtin "getset_descriptor.__get__")))
    (qt : PySem.W.takesIn K (.builtin "object.__class__") = some true)
    (asC : PySem.W.nsIn K mainGlobals "Shortener" = some (some (.ref C)))
    (a_is : PySem.W.findIn K (.ref C) "__init__" = some (some (.ref f_is)))
    (l_is : K.lookup f_is = some ⟨oc_is, od_is, .func (PySem.W.fnOf "__init__" "Shortener.__init__" (defArgs s_Shortener_init) (defBody s_Shortener_init) (defScope s_Shortener_init) .none kV_is dc_is pm_is an_is cd_is ct_is), sl_is⟩)
    (c_is : PySem.W.codeIn K cd_is "Shortener.__init__" = true)
    (k_is : PySem.W.keepIn K (.ref f_is) = true)
    (i_is : PySem.W.isFn K (.ref f_is) = true)
    (pgs : PySem.W.plainGet K C Str.empty = true)
    (hds : PySem.W.hasDictIn K C = true)
    (pos : PySem.W.plainOver K C = true)
    (sas : PySem.W.findIn K (.ref C) "__setattr__" = some (some (.builtin "object.__setattr__")))
    (mksC : PySem.W.makesIn K C = true)
    (ksC : PySem.W.keepIn K (.ref C) = true)
    (ns_limit : PySem.W.findIn K (.ref C) "limit" = some none)
    (ns_head : PySem.W.findIn K (.ref C) "head" = some none)
    (ns_tail : PySem.W.findIn K (.ref C) "tail" = some none)
    (ns_mark : PySem.W.findIn K (.ref C) "mark" = some none)
    (ns_told : PySem.W.findIn K (.ref C) "told" = some none)
    (qas : PySem.W.findIn K (.ref C) "__class__" = some (some (.builtin "object.__class__")))
    (qms : PySem.W.mroIn K C (.type "object") = some true)
    (z_ValueError : PySem.W.nsIn K mainGlobals "ValueError" = some none)
    (z_abs : PySem.W.nsIn K mainGlobals "abs" = some none)
    (z_all : PySem.W.nsIn K mainGlobals "all" = some none)
    (z_bool : PySem.W.nsIn K mainGlobals "bool" = some none)
    (z_divmod : PySem.W.nsIn K mainGlobals "divmod" = some none)
    (z_enumerate : PySem.W.nsIn K mainGlobals "enumerate" = some none)
    (z_int : PySem.W.nsIn K mainGlobals "int" = some none)
    (z_isinstance : PySem.W.nsIn K mainGlobals "isinstance" = some none)
    (z_len : PySem.W.nsIn K mainGlobals "len" = some none)
    (z_list : PySem.W.nsIn K mainGlobals "list" = some none)
    (z_max : PySem.W.nsIn K mainGlobals "max" = some none)
    (z_min : PySem.W.nsIn K mainGlobals "min" = some none)
    (z_range : PySem.W.nsIn K mainGlobals "range" = some none)
    (z_set : PySem.W.nsIn K mainGlobals "set" = some none)
    (z_str : PySem.W.nsIn K mainGlobals "str" = some none)
    (z_tuple : PySem.W.nsIn K mainGlobals "tuple" = some none)
    (z_zip : PySem.W.nsIn K mainGlobals "zip" = some none)
    (z_MOST_SIGNS : PySem.W.nsIn K mainGlobals "MOST_SIGNS" = some (some (.int 40 u_MOST_SIGNS)))
    (z_MOST_MARK : PySem.W.nsIn K mainGlobals "MOST_MARK" = some (some (.int 3 u_MOST_MARK)))
    (z_MOST_ROW : PySem.W.nsIn K mainGlobals "MOST_ROW" = some (some (.int 4 u_MOST_ROW)))
    (z_MOST_VIEWS : PySem.W.nsIn K mainGlobals "MOST_VIEWS" = some (some (.int 4 u_MOST_VIEWS)))
    (z_MOST_TEXT : PySem.W.nsIn K mainGlobals "MOST_TEXT" = some (some (.int 200 u_MOST_TEXT)))
    (z_MOST_LENGTH : PySem.W.nsIn K mainGlobals "MOST_LENGTH" = some (some (.int 500 u_MOST_LENGTH)))
    (z_SIGNS : PySem.W.nsIn K mainGlobals "SIGNS" = some (some (.str ".0123456789abcdefghijklmnopqrstuvwxyz~" u_SIGNS)))
    (z_KINDS : PySem.W.nsIn K mainGlobals "KINDS" = some (some (.ref T_KINDS)))
    (zl_KINDS : K.lookup T_KINDS = some ⟨.type "tuple", td_KINDS, .seq #[.str "end" e_KINDS_0, .str "start" e_KINDS_1, .str "middle" e_KINDS_2] tn_KINDS, ts_KINDS⟩)
    (z_MOST_TEXTS : PySem.W.nsIn K mainGlobals "MOST_TEXTS" = some (some (.int 20 u_MOST_TEXTS)))
    (z_SEVERAL : PySem.W.nsIn K mainGlobals "SEVERAL" = some (some (.str "?" u_SEVERAL)))
    (ck_g : PySem.W.nsIn K mainGlobals "CHECKS" = some (some (.ref T_ck)))
    (ck_l : K.lookup T_ck = some ⟨.type "dict", none, .dict es_ck n_ck, #[]⟩)
    (ck_k : PySem.W.KeysLit w.params es_ck.toList)
    (ck_s : (T_ck == sysModules) = false)
    (ck_confused : PySem.W.nsIn K T_ck "confused" = some (some (.ref f_confused_holds))) :
    ∃ fd : FuncData, (∀ (s : Shared) (v : Value), BindsTo s fd ⟨[v], []⟩ [("_law_script", v)]) ∧ ∀ base : Heap, K.In base → base.Ns mainGlobals mg → FnG l.prog w K mg base 9 fa fd ["_law_script"] (spLaw K) := by
  have e := hfa.symm.trans (PySem.W.mg_of X G a_law)
  cases e
  have B : Bi mg := ⟨PySem.W.mg_none_of X G z_ValueError, PySem.W.mg_none_of X G z_abs, PySem.W.mg_none_of X G z_all, PySem.W.mg_none_of X G z_bool, PySem.W.mg_none_of X G z_divmod, PySem.W.mg_none_of X G z_enumerate, PySem.W.mg_none_of X G z_int, PySem.W.mg_none_of X G z_isinstance, PySem.W.mg_none_of X G z_len, PySem.W.mg_none_of X G z_list, PySem.W.mg_none_of X G z_max, PySem.W.mg_none_of X G z_min, PySem.W.mg_none_of X G z_range, PySem.W.mg_none_of X G z_set, PySem.W.mg_none_of X G z_str, PySem.W.mg_none_of X G z_tuple, PySem.W.mg_none_of X G z_zip, cst_mk X G ⟨_, rfl⟩ z_MOST_SIGNS, cst_mk X G ⟨_, rfl⟩ z_MOST_MARK, cst_mk X G ⟨_, rfl⟩ z_MOST_ROW, cst_mk X G ⟨_, rfl⟩ z_MOST_VIEWS, cst_mk X G ⟨_, rfl⟩ z_MOST_TEXT, cst_mk X G ⟨_, rfl⟩ z_MOST_LENGTH, cst_mk X G ⟨_, rfl⟩ z_SIGNS, cst_mk X G ⟨_, rfl⟩ z_MOST_TEXTS, cst_mk X G ⟨_, rfl⟩ z_SEVERAL⟩
  have T_KINDS : TupC K mg "KINDS" ["end", "start", "middle"] := ⟨⟨T_KINDS, PySem.W.mg_of X G z_KINDS, fun H => .inr ⟨_, _, _, zl_KINDS, rfl, rfl, by show 3 ≤ sizeLine; decide, (.cons ⟨_, rfl⟩ (.cons ⟨_, rfl⟩ (.cons ⟨_, rfl⟩ .nil)))⟩⟩⟩
  have Ck_confused : ChkW K mg w "confused" "confused_holds" := ⟨T_ck, f_confused_holds, es_ck, n_ck, PySem.W.mg_of X G ck_g, ⟨ck_l, ck_k, ck_s⟩, ck_confused, PySem.W.mg_of X G a_confused_holds⟩
  have Ss : ShC K mg C := ⟨⟨pgs, hds, pos, sas⟩, ns_limit, ns_head, ns_tail, ns_mark, ns_told, PySem.W.mg_of X G asC, qas, qn, qt, qms, if_pos (beq_self_eq_true _)⟩
  have Is : InitAt K C := ⟨f_is, _, ⟨mksC, a_is, i_is, ksC⟩, fun_mk l_is c_is k_is, (fun_mk l_is c_is k_is).binds fun _ _ _ _ _ _ us hl => match us, hl with | [_, _, _, _, _], _ => rfl⟩
  have A_is_integer : At K mg "is_integer" s_is_integer ps_is_integer := at_mk X G (fun _ _ _ _ _ _ us hl => match us, hl with | [_, _, _], _ => rfl) a_is_integer l_is_integer c_is_integer k_is_integer
  have A_is_tuple : At K mg "is_tuple" s_is_tuple ps_is_tuple := at_mk X G (fun _ _ _ _ _ _ us hl => match us, hl with | [_, _, _], _ => rfl) a_is_tuple l_is_tuple c_is_tuple k_is_tuple
  have A_is_text : At K mg "is_text" s_is_text ps_is_text := at_mk X G (fun _ _ _ _ _ _ us hl => match us, hl with | [_, _], _ => rfl) a_is_text l_is_text c_is_text k_is_text
  have A_check_mark : At K mg "check_mark" s_check_mark ps_check_mark := at_mk X G (fun _ _ _ _ _ _ us hl => match us, hl with | [_], _ => rfl) a_check_mark l_check_mark c_check_mark k_check_mark
  have A_check_text : At K mg "check_text" s_check_text ps_check_text := at_mk X G (fun _ _ _ _ _ _ us hl => match us, hl with | [_], _ => rfl) a_check_text l_check_text c_check_text k_check_text
  have A_check_length : At K mg "check_length" s_check_length ps_check_length := at_mk X G (fun _ _ _ _ _ _ us hl => match us, hl with | [_], _ => rfl) a_check_length l_check_length c_check_length k_check_length
  have A_check_texts : At K mg "check_texts" s_check_texts ps_check_texts := at_mk X G (fun _ _ _ _ _ _ us hl => match us, hl with | [_, _], _ => rfl) a_check_texts l_check_texts c_check_texts k_check_texts
  have A_check_row : At K mg "check_row" s_check_row ps_check_row := at_mk X G (fun _ _ _ _ _ _ us hl => match us, hl with | [_], _ => rfl) a_check_row l_check_row c_check_row k_check_row
  have A_shortened : At K mg "shortened" s_shortened ps_shortened := at_mk X G (fun _ _ _ _ _ _ us hl => match us, hl with | [_, _, _], _ => rfl) a_shortened l_shortened c_shortened k_shortened
  have A_planned : At K mg "planned" s_planned ps_planned := at_mk X G (fun _ _ _ _ _ _ us hl => match us, hl with | [_, _], _ => rfl) a_planned l_planned c_planned k_planned
  have A_shown_by : At K mg "shown_by" s_shown_by ps_shown_by := at_mk X G (fun _ _ _ _ _ _ us hl => match us, hl with | [_, _], _ => rfl) a_shown_by l_shown_by c_shown_by k_shown_by
  have A_show : At K mg "show" s_show ps_show := at_mk X G (fun _ _ _ _ _ _ us hl => match us, hl with | [_, _], _ => rfl) a_show l_show c_show k_show
  have A_check_kind : At K mg "check_kind" s_check_kind ps_check_kind := at_mk X G (fun _ _ _ _ _ _ us hl => match us, hl with | [_], _ => rfl) a_check_kind l_check_kind c_check_kind k_check_kind
  have A_widths_of : At K mg "widths_of" s_widths_of ps_widths_of := at_mk X G (fun _ _ _ _ _ _ us hl => match us, hl with | [_], _ => rfl) a_widths_of l_widths_of c_widths_of k_widths_of
  have A_member_of : At K mg "member_of" s_member_of ps_member_of := at_mk X G (fun _ _ _ _ _ _ us hl => match us, hl with | [_, _, _], _ => rfl) a_member_of l_member_of c_member_of k_member_of
  have A_separates : At K mg "separates" s_separates ps_separates := at_mk X G (fun _ _ _ _ _ _ us hl => match us, hl with | [_, _], _ => rfl) a_separates l_separates c_separates k_separates
  have A_widths : At K mg "widths" s_widths ps_widths := at_mk X G (fun _ _ _ _ _ _ us hl => match us, hl with | [_, _, _], _ => rfl) a_widths l_widths c_widths k_widths
  have A_groups : At K mg "groups" s_groups ps_groups := at_mk X G (fun _ _ _ _ _ _ us hl => match us, hl with | [_, _], _ => rfl) a_groups l_groups c_groups k_groups
  have A_tells_apart : At K mg "tells_apart" s_tells_apart ps_tells_apart := at_mk X G (fun _ _ _ _ _ _ us hl => match us, hl with | [_, _], _ => rfl) a_tells_apart l_tells_apart c_tells_apart k_tells_apart
  have A_is_row : At K mg "is_row" s_is_row ps_is_row := at_mk X G (fun _ _ _ _ _ _ us hl => match us, hl with | [_], _ => rfl) a_is_row l_is_row c_is_row k_is_row
  have A_is_view : At K mg "is_view" s_is_view ps_is_view := at_mk X G (fun _ _ _ _ _ _ us hl => match us, hl with | [_], _ => rfl) a_is_view l_is_view c_is_view k_is_view
  have A_check_views : At K mg "check_views" s_check_views ps_check_views := at_mk X G (fun _ _ _ _ _ _ us hl => match us, hl with | [_], _ => rfl) a_check_views l_check_views c_check_views k_check_views
  have A_known_signs : At K mg "known_signs" s_known_signs ps_known_signs := at_mk X G (fun _ _ _ _ _ _ us hl => match us, hl with | [_, _], _ => rfl) a_known_signs l_known_signs c_known_signs k_known_signs
  have A_written_out : At K mg "written_out" s_written_out ps_written_out := at_mk X G (fun _ _ _ _ _ _ us hl => match us, hl with | [_, _, _], _ => rfl) a_written_out l_written_out c_written_out k_written_out
  have A_signs : At K mg "signs" s_signs ps_signs := at_mk X G (fun _ _ _ _ _ _ us hl => match us, hl with | [_, _], _ => rfl) a_signs l_signs c_signs k_signs
  have A_number_of : At K mg "number_of" s_number_of ps_number_of := at_mk X G (fun _ _ _ _ _ _ us hl => match us, hl with | [_, _], _ => rfl) a_number_of l_number_of c_number_of k_number_of
  have A_is_told : At K mg "is_told" s_is_told ps_is_told := at_mk X G (fun _ _ _ _ _ _ us hl => match us, hl with | [_], _ => rfl) a_is_told l_is_told c_is_told k_is_told
  have A_is_told_row : At K mg "is_told_row" s_is_told_row ps_is_told_row := at_mk X G (fun _ _ _ _ _ _ us hl => match us, hl with | [_], _ => rfl) a_is_told_row l_is_told_row c_is_told_row k_is_told_row
  have A_are_told_rows : At K mg "are_told_rows" s_are_told_rows ps_are_told_rows := at_mk X G (fun _ _ _ _ _ _ us hl => match us, hl with | [_, _], _ => rfl) a_are_told_rows l_are_told_rows c_are_told_rows k_are_told_rows
  have A_is_pair_of_texts : At K mg "is_pair_of_texts" s_is_pair_of_texts ps_is_pair_of_texts := at_mk X G (fun _ _ _ _ _ _ us hl => match us, hl with | [_], _ => rfl) a_is_pair_of_texts l_is_pair_of_texts c_is_pair_of_texts k_is_pair_of_texts
  have A_row_of : At K mg "row_of" s_row_of ps_row_of := at_mk X G (fun _ _ _ _ _ _ us hl => match us, hl with | [_], _ => rfl) a_row_of l_row_of c_row_of k_row_of
  have A_confused_holds : At K mg "confused_holds" s_confused_holds ps_confused_holds := at_mk X G (fun _ _ _ _ _ _ us hl => match us, hl with | [_, _], _ => rfl) a_confused_holds l_confused_holds c_confused_holds k_confused_holds
  have A_holds : At K mg "holds" s_holds ps_holds := at_mk X G (fun _ _ _ _ _ _ us hl => match us, hl with | [_, _], _ => rfl) a_holds l_holds c_holds k_holds
  have A_law_pot : At K mg "_law_pot" s_law_pot ps_law_pot := at_mk X G (fun _ _ _ _ _ _ us hl => match us, hl with | [_, _], _ => rfl) a_law_pot l_law_pot c_law_pot k_law_pot
  have A_law_ladle : At K mg "_law_ladle" s_law_ladle ps_law_ladle := at_mk X G (fun _ _ _ _ _ _ us hl => match us, hl with | [_, _], _ => rfl) a_law_ladle l_law_ladle c_law_ladle k_law_ladle
  have A_law_one_of : At K mg "_law_one_of" s_law_one_of ps_law_one_of := at_mk X G (fun _ _ _ _ _ _ us hl => match us, hl with | [_, _], _ => rfl) a_law_one_of l_law_one_of c_law_one_of k_law_one_of
  have A_law_told : At K mg "_law_told" s_law_told ps_law_told := at_mk X G (fun _ _ _ _ _ _ us hl => match us, hl with | [_], _ => rfl) a_law_told l_law_told c_law_told k_law_told
  have A_law_tolds : At K mg "_law_tolds" s_law_tolds ps_law_tolds := at_mk X G (fun _ _ _ _ _ _ us hl => match us, hl with | [_], _ => rfl) a_law_tolds l_law_tolds c_law_tolds k_law_tolds
  have A_law_made : At K mg "_law_made" s_law_made ps_law_made := at_mk X G (fun _ _ _ _ _ _ us hl => match us, hl with | [_], _ => rfl) a_law_made l_law_made c_law_made k_law_made
  have A_law_line : At K mg "_law_line" s_law_line ps_law_line := at_mk X G (fun _ _ _ _ _ _ us hl => match us, hl with | [_, _], _ => rfl) a_law_line l_law_line c_law_line k_law_line
  have A_law_some_lines : At K mg "_law_some_lines" s_law_some_lines ps_law_some_lines := at_mk X G (fun _ _ _ _ _ _ us hl => match us, hl with | [_, _], _ => rfl) a_law_some_lines l_law_some_lines c_law_some_lines k_law_some_lines
  have A_law_right : At K mg "_law_right" s_law_right ps_law_right := at_mk X G (fun _ _ _ _ _ _ us hl => match us, hl with | [_], _ => rfl) a_law_right l_law_right c_law_right k_law_right
  exact ⟨_, fun s v => .of_eq rfl, fun base _ _ => fin B T_KINDS Ck_confused Ss Is A_is_integer A_is_tuple A_is_text A_check_mark A_check_text A_check_length A_check_texts A_check_row A_shortened A_planned A_shown_by A_show A_check_kind A_widths_of A_member_of A_separates A_widths A_groups A_tells_apart A_is_row A_is_view A_check_views A_known_signs A_written_out A_signs A_number_of A_is_told A_is_told_row A_are_told_rows A_is_pair_of_texts A_row_of A_confused_holds A_holds A_law_pot A_law_ladle A_law_one_of A_law_told A_law_tolds A_law_made A_law_line A_law_some_lines A_law_right (fun_mk l_law c_law k_law)⟩
end Gu
open PySem PySem.W PyProof.Rows
set_option maxHeartbeats 0 in
theorem PySem.Challenge.cw_shownshort_k34_whole_lists_and_rows_holds : PySem.Challenge.rw_shownshort_k34_whole_lists_and_rows.Holds := by
  w_on; o_law; k_head; (case hw => w_witness2)
  k_fill
  refine Gu.walkG (l := PySem.Challenge.rw_shownshort_k34_whole_lists_and_rows) (n := 63) (k := 9) (x := "_law_script") (sp := Gu.spLaw) rfl (by decide) rfl ⟨rfl, by decide, by decide⟩ (fun w h Y => PySem.W.kIn_of Y) ?F (fun _ _ a ns hl hS => ⟨a, ns, rfl, hS, hl, fun _ => rfl⟩)
  case F =>
    intro w mg fa h KX G hmg
    refine' Gu.all_mk KX G hmg ?a_is_integer ?l_is_integer ?c_is_integer ?k_is_integer ?a_is_tuple ?l_is_tuple ?c_is_tuple ?k_is_tuple ?a_is_text ?l_is_text ?c_is_text ?k_is_text ?a_check_mark ?l_check_mark ?c_check_mark ?k_check_mark ?a_check_text ?l_check_text ?c_check_text ?k_check_text ?a_check_length ?l_check_length ?c_check_length ?k_check_length ?a_check_texts ?l_check_texts ?c_check_texts ?k_check_texts ?a_check_row ?l_check_row ?c_check_row ?k_check_row ?a_shortened ?l_shortened ?c_shortened ?k_shortened ?a_planned ?l_planned ?c_planned ?k_planned ?a_shown_by ?l_shown_by ?c_shown_by ?k_shown_by ?a_show ?l_show ?c_show ?k_show ?a_check_kind ?l_check_kind ?c_check_kind ?k_check_kind ?a_widths_of ?l_widths_of ?c_widths_of ?k_widths_of ?a_member_of ?l_member_of ?c_member_of ?k_member_of ?a_separates ?l_separates ?c_separates ?k_separates ?a_widths ?l_widths ?c_widths ?k_widths ?a_groups ?l_groups ?c_groups ?k_groups ?a_tells_apart ?l_tells_apart ?c_tells_apart ?k_tells_apart ?a_is_row ?l_is_row ?c_is_row ?k_is_row ?a_is_view ?l_is_view ?c_is_view ?k_is_view ?a_check_views ?l_check_views ?c_check_views ?k_check_views ?a_known_signs ?l_known_signs ?c_known_signs ?k_known_signs ?a_written_out ?l_written_out ?c_written_out ?k_written_out ?a_signs ?l_signs ?c_signs ?k_signs ?a_number_of ?l_number_of ?c_number_of ?k_number_of ?a_is_told ?l_is_told ?c_is_told ?k_is_told ?a_is_told_row ?l_is_told_row ?c_is_told_row ?k_is_told_row ?a_are_told_rows ?l_are_told_rows ?c_are_told_rows ?k_are_told_rows ?a_is_pair_of_texts ?l_is_pair_of_texts ?c_is_pair_of_texts ?k_is_pair_of_texts ?a_row_of ?l_row_of ?c_row_of ?k_row_of ?a_confused_holds ?l_confused_holds ?c_confused_holds ?k_confused_holds ?a_holds ?l_holds ?c_holds ?k_holds ?a_law_pot ?l_law_pot ?c_law_pot ?k_law_pot ?a_law_ladle ?l_law_ladle ?c_law_ladle ?k_law_ladle ?a_law_one_of ?l_law_one_of ?c_law_one_of ?k_law_one_of ?a_law_told ?l_law_told ?c_law_told ?k_law_told ?a_law_tolds ?l_law_tolds ?c_law_tolds ?k_law_tolds ?a_law_made ?l_law_made ?c_law_made ?k_law_made ?a_law_line ?l_law_line ?c_law_line ?k_law_line ?a_law_some_lines ?l_law_some_lines ?c_law_some_lines ?k_law_some_lines ?a_law_right ?l_law_right ?c_law_right ?k_law_right ?a_law ?l_law ?c_law ?k_law ?qn ?qt ?asC ?a_is ?l_is ?c_is ?k_is ?i_is ?pgs ?hds ?pos ?sas ?mksC ?ksC ?ns_limit ?ns_head ?ns_tail ?ns_mark ?ns_told ?qas ?qms ?z_ValueError ?z_abs ?z_all ?z_bool ?z_divmod ?z_enumerate ?z_int ?z_isinstance ?z_len ?z_list ?z_max ?z_min ?z_range ?z_set ?z_str ?z_tuple ?z_zip ?z_MOST_SIGNS ?z_MOST_MARK ?z_MOST_ROW ?z_MOST_VIEWS ?z_MOST_TEXT ?z_MOST_LENGTH ?z_SIGNS ?z_KINDS ?zl_KINDS ?z_MOST_TEXTS ?z_SEVERAL ?ck_g ?ck_l ?ck_k ?ck_s ?ck_confused
    (case a_is_integer => k_is)
    (case l_is_integer => k_is)
    (case c_is_integer => k_is)
    (case k_is_integer => k_is)
    (case a_is_tuple => k_is)
    (case l_is_tuple => k_is)
    (case c_is_tuple => k_is)
    (case k_is_tuple => k_is)
    (case a_is_text => k_is)
    (case l_is_text => k_is)
    (case c_is_text => k_is)
    (case k_is_text => k_is)
    (case a_check_mark => k_is)
    (case l_check_mark => k_is)
    (case c_check_mark => k_is)
    (case k_check_mark => k_is)
    (case a_check_text => k_is)
    (case l_check_text => k_is)
    (case c_check_text => k_is)
    (case k_check_text => k_is)
    (case a_check_length => k_is)
    (case l_check_length => k_is)
    (case c_check_length => k_is)
    (case k_check_length => k_is)
    (case a_check_texts => k_is)
    (case l_check_texts => k_is)
    (case c_check_texts => k_is)
    (case k_check_texts => k_is)
    (case a_check_row => k_is)
    (case l_check_row => k_is)
    (case c_check_row => k_is)
    (case k_check_row => k_is)
    (case a_shortened => k_is)
    (case l_shortened => k_is)
    (case c_shortened => k_is)
    (case k_shortened => k_is)
    (case a_planned => k_is)
    (case l_planned => k_is)
    (case c_planned => k_is)
    (case k_planned => k_is)
    (case a_shown_by => k_is)
    (case l_shown_by => k_is)
    (case c_shown_by => k_is)
    (case k_shown_by => k_is)
    (case a_show => k_is)
    (case l_show => k_is)
    (case c_show => k_is)
    (case k_show => k_is)
    (case a_check_kind => k_is)
    (case l_check_kind => k_is)
    (case c_check_kind => k_is)
    (case k_check_kind => k_is)
    (case a_widths_of => k_is)
    (case l_widths_of => k_is)
    (case c_widths_of => k_is)
    (case k_widths_of => k_is)
    (case a_member_of => k_is)
    (case l_member_of => k_is)
    (case c_member_of => k_is)
    (case k_member_of => k_is)
    (case a_separates => k_is)
    (case l_separates => k_is)
    (case c_separates => k_is)
    (case k_separates => k_is)
    (case a_widths => k_is)
    (case l_widths => k_is)
    (case c_widths => k_is)
    (case k_widths => k_is)
    (case a_groups => k_is)
    (case l_groups => k_is)
    (case c_groups => k_is)
    (case k_groups => k_is)
    (case a_tells_apart => k_is)
    (case l_tells_apart => k_is)
    (case c_tells_apart => k_is)
    (case k_tells_apart => k_is)
    (case a_is_row => k_is)
    (case l_is_row => k_is)
    (case c_is_row => k_is)
    (case k_is_row => k_is)
    (case a_is_view => k_is)
    (case l_is_view => k_is)
    (case c_is_view => k_is)
    (case k_is_view => k_is)
    (case a_check_views => k_is)
    (case l_check_views => k_is)
    (case c_check_views => k_is)
    (case k_check_views => k_is)
    (case a_known_signs => k_is)
    (case l_known_signs => k_is)
    (case c_known_signs => k_is)
    (case k_known_signs => k_is)
    (case a_written_out => k_is)
    (case l_written_out => k_is)
    (case c_written_out => k_is)
    (case k_written_out => k_is)
    (case a_signs => k_is)
    (case l_signs => k_is)
    (case c_signs => k_is)
    (case k_signs => k_is)
    (case a_number_of => k_is)
    (case l_number_of => k_is)
    (case c_number_of => k_is)
    (case k_number_of => k_is)
    (case a_is_told => k_is)
    (case l_is_told => k_is)
    (case c_is_told => k_is)
    (case k_is_told => k_is)
    (case a_is_told_row => k_is)
    (case l_is_told_row => k_is)
    (case c_is_told_row => k_is)
    (case k_is_told_row => k_is)
    (case a_are_told_rows => k_is)
    (case l_are_told_rows => k_is)
    (case c_are_told_rows => k_is)
    (case k_are_told_rows => k_is)
    (case a_is_pair_of_texts => k_is)
    (case l_is_pair_of_texts => k_is)
    (case c_is_pair_of_texts => k_is)
    (case k_is_pair_of_texts => k_is)
    (case a_row_of => k_is)
    (case l_row_of => k_is)
    (case c_row_of => k_is)
    (case k_row_of => k_is)
    (case a_confused_holds => k_is)
    (case l_confused_holds => k_is)
    (case c_confused_holds => k_is)
    (case k_confused_holds => k_is)
    (case a_holds => k_is)
    (case l_holds => k_is)
    (case c_holds => k_is)
    (case k_holds => k_is)
    (case a_law_pot => k_is)
    (case l_law_pot => k_is)
    (case c_law_pot => k_is)
    (case k_law_pot => k_is)
    (case a_law_ladle => k_is)
    (case l_law_ladle => k_is)
    (case c_law_ladle => k_is)
    (case k_law_ladle => k_is)
    (case a_law_one_of => k_is)
    (case l_law_one_of => k_is)
    (case c_law_one_of => k_is)
    (case k_law_one_of => k_is)
    (case a_law_told => k_is)
    (case l_law_told => k_is)
    (case c_law_told => k_is)
    (case k_law_told => k_is)
    (case a_law_tolds => k_is)
    (case l_law_tolds => k_is)
    (case c_law_tolds => k_is)
    (case k_law_tolds => k_is)
    (case a_law_made => k_is)
    (case l_law_made => k_is)
    (case c_law_made => k_is)
    (case k_law_made => k_is)
    (case a_law_line => k_is)
    (case l_law_line => k_is)
    (case c_law_line => k_is)
    (case k_law_line => k_is)
    (case a_law_some_lines => k_is)
    (case l_law_some_lines => k_is)
    (case c_law_some_lines => k_is)
    (case k_law_some_lines => k_is)
    (case a_law_right => k_is)
    (case l_law_right => k_is)
    (case c_law_right => k_is)
    (case k_law_right => k_is)
    (case a_law => k_is)
    (case l_law => k_is)
    (case c_law => k_is)
    (case k_law => k_is)
    (case qn => k_is)
    (case qt => k_is)
    (case asC => k_is)
    (case a_is => k_is)
    (case l_is => k_is)
    (case c_is => k_is)
    (case k_is => k_is)
    (case i_is => k_is)
    (case pgs => k_is)
    (case hds => k_is)
    (case pos => k_is)
    (case sas => k_is)
    (case mksC => k_is)
    (case ksC => k_is)
    (case ns_limit => k_is)
    (case ns_head => k_is)
    (case ns_tail => k_is)
    (case ns_mark => k_is)
    (case ns_told => k_is)
    (case qas => k_is)
    (case qms => k_is)
    (case z_ValueError => k_is)
    (case z_abs => k_is)
    (case z_all => k_is)
    (case z_bool => k_is)
    (case z_divmod => k_is)
    (case z_enumerate => k_is)
    (case z_int => k_is)
    (case z_isinstance => k_is)
    (case z_len => k_is)
    (case z_list => k_is)
    (case z_max => k_is)
    (case z_min => k_is)
    (case z_range => k_is)
    (case z_set => k_is)
    (case z_str => k_is)
    (case z_tuple => k_is)
    (case z_zip => k_is)
    (case z_MOST_SIGNS => k_is)
    (case z_MOST_MARK => k_is)
    (case z_MOST_ROW => k_is)
    (case z_MOST_VIEWS => k_is)
    (case z_MOST_TEXT => k_is)
    (case z_MOST_LENGTH => k_is)
    (case z_SIGNS => k_is)
    (case z_KINDS => k_is)
    (case zl_KINDS => k_is)
    (case z_MOST_TEXTS => k_is)
    (case z_SEVERAL => k_is)
    (case ck_g => k_is)
    (case ck_l => k_is)
    (case ck_k => k_keys)
    (case ck_s => decide)
    (case ck_confused => k_is)
