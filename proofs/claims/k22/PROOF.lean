import PyProof.Rows.All
import Wide.All
import OpenK.AllK
import Wide.FinOn
import HandS.Base
import HandS.Call
import HandS.List
import HandS.Comp
import HandS.Ends
import HandS.Dict
import HandS.Iter
import HandS.Text
import HandS.Words
import HandS.WordsList
import HandS.WordsDict
import HandS.Conv
import HandS.Walk
import HandS.IsInst
import HandS.MakeKw
import HandS.MakeKwOnly
import HandS.Flow
import HandS.TupAny
import HandS.TupMul
import HandS.FStr
import HandS.Zip
import HandS.Style
import HandS.Codes
import HandS.TupLe
import HandS.SetKeys
import HandS.Strs
import HandS.SetFor
import HandS.Deep
import HandS.SortInts
import HandS.More
import HandS.CallLocal
import HandS.HeadHook3
import HandS.Exc
import HandS.TryOnly
import HandS.TryMany
import HandS.WordsExc
import HandS.ExcField
import HandS.ExcIs
import HandS.ExcInit
import HandS.Lambda
import KE.KExcInit
import KE.KExcIs
import PyProof.ExcBaseAll.LookupError
import PyProof.ExcBaseAll.ArithmeticError
import KE.GoesMore
import KE.GoesZip
import KE.KUnpack
import PyProof.TupleOfStr
import PySem.Challenge.RW_shownshort_k22_certificates_and_reports
set_option Elab.async false
set_option linter.all false
set_option maxRecDepth 100000
namespace Gu
open PySem PySem.Spec PyProof.Rows L2
/-! the text, by places -/
def topS (i : Nat) : Stmt := PySem.Challenge.pw_shownshort_k22_certificates_and_reports.main.body.getD i (.Pass ⟨0, 0, 0, 0⟩)
abbrev s_InvalidNumber_init : Stmt := inClass (topS 2) 0
abbrev ps_InvalidNumber_init : List Str := ["self", "value"]
theorem sc_InvalidNumber_init : FnScope ["self", "value"] ps_InvalidNumber_init (defScope s_InvalidNumber_init) := ⟨rfl, rfl, rfl, by decide +kernel, rfl, by decide +kernel, by decide +kernel⟩
abbrev s_InvalidMark_init : Stmt := inClass (topS 3) 0
abbrev ps_InvalidMark_init : List Str := ["self", "value"]
theorem sc_InvalidMark_init : FnScope ["self", "value"] ps_InvalidMark_init (defScope s_InvalidMark_init) := ⟨rfl, rfl, rfl, by decide +kernel, rfl, by decide +kernel, by decide +kernel⟩
abbrev s_InvalidText_init : Stmt := inClass (topS 4) 0
abbrev ps_InvalidText_init : List Str := ["self", "value"]
theorem sc_InvalidText_init : FnScope ["self", "value"] ps_InvalidText_init (defScope s_InvalidText_init) := ⟨rfl, rfl, rfl, by decide +kernel, rfl, by decide +kernel, by decide +kernel⟩
abbrev s_InvalidLength_init : Stmt := inClass (topS 5) 0
abbrev ps_InvalidLength_init : List Str := ["self", "value"]
theorem sc_InvalidLength_init : FnScope ["self", "value"] ps_InvalidLength_init (defScope s_InvalidLength_init) := ⟨rfl, rfl, rfl, by decide +kernel, rfl, by decide +kernel, by decide +kernel⟩
abbrev s_InvalidRow_init : Stmt := inClass (topS 6) 0
abbrev ps_InvalidRow_init : List Str := ["self", "index"]
theorem sc_InvalidRow_init : FnScope ["self", "index"] ps_InvalidRow_init (defScope s_InvalidRow_init) := ⟨rfl, rfl, rfl, by decide +kernel, rfl, by decide +kernel, by decide +kernel⟩
abbrev s_InvalidViews_init : Stmt := inClass (topS 7) 0
abbrev ps_InvalidViews_init : List Str := ["self", "index"]
theorem sc_InvalidViews_init : FnScope ["self", "index"] ps_InvalidViews_init (defScope s_InvalidViews_init) := ⟨rfl, rfl, rfl, by decide +kernel, rfl, by decide +kernel, by decide +kernel⟩
abbrev s_is_integer : Stmt := topS 16
abbrev ps_is_integer : List Str := ["value", "least", "most"]
theorem sc_is_integer : FnScope ["value", "least", "most"] ps_is_integer (defScope s_is_integer) := ⟨rfl, rfl, rfl, by decide +kernel, rfl, by decide +kernel, by decide +kernel⟩
abbrev s_is_tuple : Stmt := topS 17
abbrev ps_is_tuple : List Str := ["value", "least", "most"]
theorem sc_is_tuple : FnScope ["value", "least", "most"] ps_is_tuple (defScope s_is_tuple) := ⟨rfl, rfl, rfl, by decide +kernel, rfl, by decide +kernel, by decide +kernel⟩
abbrev s_is_text : Stmt := topS 18
abbrev ps_is_text : List Str := ["value", "most"]
theorem sc_is_text : FnScope ["value", "most", "character"] ps_is_text (defScope s_is_text) := ⟨rfl, rfl, rfl, by decide +kernel, rfl, by decide +kernel, by decide +kernel⟩
abbrev s_least_raised_at : Stmt := topS 19
abbrev ps_least_raised_at : List Str := ["length", "place"]
theorem sc_least_raised_at : FnScope ["length", "place"] ps_least_raised_at (defScope s_least_raised_at) := ⟨rfl, rfl, rfl, by decide +kernel, rfl, by decide +kernel, by decide +kernel⟩
abbrev s_check_mark : Stmt := topS 20
abbrev ps_check_mark : List Str := ["mark"]
theorem sc_check_mark : FnScope ["mark"] ps_check_mark (defScope s_check_mark) := ⟨rfl, rfl, rfl, by decide +kernel, rfl, by decide +kernel, by decide +kernel⟩
abbrev s_check_text : Stmt := topS 21
abbrev ps_check_text : List Str := ["text"]
theorem sc_check_text : FnScope ["text"] ps_check_text (defScope s_check_text) := ⟨rfl, rfl, rfl, by decide +kernel, rfl, by decide +kernel, by decide +kernel⟩
abbrev s_check_length : Stmt := topS 22
abbrev ps_check_length : List Str := ["length"]
theorem sc_check_length : FnScope ["length"] ps_check_length (defScope s_check_length) := ⟨rfl, rfl, rfl, by decide +kernel, rfl, by decide +kernel, by decide +kernel⟩
abbrev s_Shortener_init : Stmt := inClass (topS 24) 0
abbrev ps_Shortener_init : List Str := ["self", "limit", "head", "tail", "mark"]
theorem sc_Shortener_init : FnScope ["self", "limit", "head", "tail", "mark", "number"] ps_Shortener_init (defScope s_Shortener_init) := ⟨rfl, rfl, rfl, by decide +kernel, rfl, by decide +kernel, by decide +kernel⟩
abbrev s_Shortener_eq : Stmt := inClass (topS 24) 1
abbrev ps_Shortener_eq : List Str := ["self", "other"]
theorem sc_Shortener_eq : FnScope ["self", "other"] ps_Shortener_eq (defScope s_Shortener_eq) := ⟨rfl, rfl, rfl, by decide +kernel, rfl, by decide +kernel, by decide +kernel⟩
abbrev s_Shortener_repr : Stmt := inClass (topS 24) 2
abbrev ps_Shortener_repr : List Str := ["self"]
theorem sc_Shortener_repr : FnScope ["self"] ps_Shortener_repr (defScope s_Shortener_repr) := ⟨rfl, rfl, rfl, by decide +kernel, rfl, by decide +kernel, by decide +kernel⟩
abbrev s_is_row : Stmt := topS 25
abbrev ps_is_row : List Str := ["value"]
theorem sc_is_row : FnScope ["value", "part"] ps_is_row (defScope s_is_row) := ⟨rfl, rfl, rfl, by decide +kernel, rfl, by decide +kernel, by decide +kernel⟩
abbrev s_check_row : Stmt := topS 26
abbrev ps_check_row : List Str := ["row"]
theorem sc_check_row : FnScope ["row", "place", "shortener"] ps_check_row (defScope s_check_row) := ⟨rfl, rfl, rfl, by decide +kernel, rfl, by decide +kernel, by decide +kernel⟩
abbrev s_shortened : Stmt := topS 27
abbrev ps_shortened : List Str := ["shortener", "whole", "mark"]
theorem sc_shortened : FnScope ["shortener", "whole", "mark", "tail_start"] ps_shortened (defScope s_shortened) := ⟨rfl, rfl, rfl, by decide +kernel, rfl, by decide +kernel, by decide +kernel⟩
abbrev s_shown_by : Stmt := topS 28
abbrev ps_shown_by : List Str := ["row", "text"]
theorem sc_shown_by : FnScope ["row", "text", "shown", "shortener"] ps_shown_by (defScope s_shown_by) := ⟨rfl, rfl, rfl, by decide +kernel, rfl, by decide +kernel, by decide +kernel⟩
abbrev s_planned : Stmt := topS 29
abbrev ps_planned : List Str := ["row", "length"]
theorem sc_planned : FnScope ["row", "length", "sources", "shortener"] ps_planned (defScope s_planned) := ⟨rfl, rfl, rfl, by decide +kernel, rfl, by decide +kernel, by decide +kernel⟩
abbrev s_telling_lengths : Stmt := topS 30
abbrev ps_telling_lengths : List Str := []
theorem sc_telling_lengths : FnScope [] ps_telling_lengths (defScope s_telling_lengths) := ⟨rfl, rfl, rfl, by decide +kernel, rfl, by decide +kernel, by decide +kernel⟩
abbrev s_filled_in : Stmt := topS 32
abbrev ps_filled_in : List Str := ["sources", "text"]
theorem sc_filled_in : FnScope ["sources", "text", "source"] ps_filled_in (defScope s_filled_in) := ⟨rfl, rfl, rfl, by decide +kernel, rfl, by decide +kernel, by decide +kernel⟩
abbrev s_differing_places : Stmt := topS 33
abbrev ps_differing_places : List Str := ["sources", "others"]
theorem sc_differing_places : FnScope ["sources", "others", "places", "source", "other", "place"] ps_differing_places (defScope s_differing_places) := ⟨rfl, rfl, rfl, by decide +kernel, rfl, by decide +kernel, by decide +kernel⟩
abbrev s_least_difference : Stmt := topS 34
abbrev ps_least_difference : List Str := ["sources", "others", "length"]
theorem sc_least_difference : FnScope ["sources", "others", "length", "least"] ps_least_difference (defScope s_least_difference) := ⟨rfl, rfl, rfl, by decide +kernel, rfl, by decide +kernel, by decide +kernel⟩
abbrev s_first_difference : Stmt := topS 35
abbrev ps_first_difference : List Str := ["shorteners", "others"]
theorem sc_first_difference : FnScope ["shorteners", "others", "length", "sources", "other_sources"] ps_first_difference (defScope s_first_difference) := ⟨rfl, rfl, rfl, by decide +kernel, rfl, by decide +kernel, by decide +kernel⟩
abbrev s_first_unlike : Stmt := topS 36
abbrev ps_first_unlike : List Str := ["row", "other_row"]
theorem sc_first_unlike : FnScope ["row", "other_row"] ps_first_unlike (defScope s_first_unlike) := ⟨rfl, rfl, rfl, by decide +kernel, rfl, by decide +kernel, by decide +kernel⟩
abbrev s_first_unstable : Stmt := topS 37
abbrev ps_first_unstable : List Str := ["row"]
theorem sc_first_unstable : FnScope ["row"] ps_first_unstable (defScope s_first_unstable) := ⟨rfl, rfl, rfl, by decide +kernel, rfl, by decide +kernel, by decide +kernel⟩
abbrev s_is_view : Stmt := topS 40
abbrev ps_is_view : List Str := ["value"]
theorem sc_is_view : FnScope ["value"] ps_is_view (defScope s_is_view) := ⟨rfl, rfl, rfl, by decide +kernel, rfl, by decide +kernel, by decide +kernel⟩
abbrev s_check_views : Stmt := topS 41
abbrev ps_check_views : List Str := ["views"]
theorem sc_check_views : FnScope ["views", "place", "view"] ps_check_views (defScope s_check_views) := ⟨rfl, rfl, rfl, by decide +kernel, rfl, by decide +kernel, by decide +kernel⟩
abbrev s_known_signs : Stmt := topS 42
abbrev ps_known_signs : List Str := ["views", "length"]
theorem sc_known_signs : FnScope ["views", "length", "known", "row", "shown", "sources", "source", "sign", "told"] ps_known_signs (defScope s_known_signs) := ⟨rfl, rfl, rfl, by decide +kernel, rfl, by decide +kernel, by decide +kernel⟩
abbrev s_written_out : Stmt := topS 43
abbrev ps_written_out : List Str := ["known", "length", "other"]
theorem sc_written_out : FnScope ["known", "length", "other", "place"] ps_written_out (defScope s_written_out) := ⟨rfl, rfl, rfl, by decide +kernel, rfl, by decide +kernel, by decide +kernel⟩
abbrev s_lengths : Stmt := topS 44
abbrev ps_lengths : List Str := ["views"]
theorem sc_lengths : FnScope ["views", "tried", "possible", "beyond", "length"] ps_lengths (defScope s_lengths) := ⟨rfl, rfl, rfl, by decide +kernel, rfl, by decide +kernel, by decide +kernel⟩
abbrev s_signs : Stmt := topS 45
abbrev ps_signs : List Str := ["views", "length"]
theorem sc_signs : FnScope ["views", "length", "known"] ps_signs (defScope s_signs) := ⟨rfl, rfl, rfl, by decide +kernel, rfl, by decide +kernel, by decide +kernel⟩
abbrev s_only_text : Stmt := topS 46
abbrev ps_only_text : List Str := ["views"]
theorem sc_only_text : FnScope ["views", "some", "beyond", "told"] ps_only_text (defScope s_only_text) := ⟨rfl, rfl, rfl, by decide +kernel, rfl, by decide +kernel, by decide +kernel⟩
abbrev s_least_text : Stmt := topS 47
abbrev ps_least_text : List Str := ["views"]
theorem sc_least_text : FnScope ["views", "some", "beyond", "least"] ps_least_text (defScope s_least_text) := ⟨rfl, rfl, rfl, by decide +kernel, rfl, by decide +kernel, by decide +kernel⟩
abbrev s_leader : Stmt := topS 49
abbrev ps_leader : List Str := ["leaders", "part"]
theorem sc_leader : FnScope ["leaders", "part"] ps_leader (defScope s_leader) := ⟨rfl, rfl, rfl, by decide +kernel, rfl, by decide +kernel, by decide +kernel⟩
abbrev s_joined : Stmt := topS 50
abbrev ps_joined : List Str := ["parts", "others"]
theorem sc_joined : FnScope ["parts", "others", "leaders", "part", "other", "first", "second"] ps_joined (defScope s_joined) := ⟨rfl, rfl, rfl, by decide +kernel, rfl, by decide +kernel, by decide +kernel⟩
abbrev s_like_a_shorter_one : Stmt := topS 51
abbrev ps_like_a_shorter_one : List Str := ["row", "length", "shorter"]
theorem sc_like_a_shorter_one : FnScope ["row", "length", "shorter", "parts", "others", "leaders", "leading", "part", "place"] ps_like_a_shorter_one (defScope s_like_a_shorter_one) := ⟨rfl, rfl, rfl, by decide +kernel, rfl, by decide +kernel, by decide +kernel⟩
abbrev s_like_an_equally_long_one : Stmt := topS 52
abbrev ps_like_an_equally_long_one : List Str := ["row", "length"]
theorem sc_like_an_equally_long_one : FnScope ["row", "length", "parts", "hidden", "place"] ps_like_an_equally_long_one (defScope s_like_an_equally_long_one) := ⟨rfl, rfl, rfl, by decide +kernel, rfl, by decide +kernel, by decide +kernel⟩
abbrev s_confused_texts : Stmt := topS 53
abbrev ps_confused_texts : List Str := ["row", "length"]
theorem sc_confused_texts : FnScope ["row", "length", "found", "shorter", "text"] ps_confused_texts (defScope s_confused_texts) := ⟨rfl, rfl, rfl, by decide +kernel, rfl, by decide +kernel, by decide +kernel⟩
abbrev s_least_pair : Stmt := topS 54
abbrev ps_least_pair : List Str := ["row"]
theorem sc_least_pair : FnScope ["row", "length", "found", "other"] ps_least_pair (defScope s_least_pair) := ⟨rfl, rfl, rfl, by decide +kernel, rfl, by decide +kernel, by decide +kernel⟩
abbrev s_told_row : Stmt := topS 56
abbrev ps_told_row : List Str := ["row"]
theorem sc_told_row : FnScope ["row", "shortener"] ps_told_row (defScope s_told_row) := ⟨rfl, rfl, rfl, by decide +kernel, rfl, by decide +kernel, by decide +kernel⟩
abbrev s_certify_alike : Stmt := topS 57
abbrev ps_certify_alike : List Str := ["row", "other_row"]
theorem sc_certify_alike : FnScope ["row", "other_row", "text"] ps_certify_alike (defScope s_certify_alike) := ⟨rfl, rfl, rfl, by decide +kernel, rfl, by decide +kernel, by decide +kernel⟩
abbrev s_certify_stable : Stmt := topS 58
abbrev ps_certify_stable : List Str := ["row"]
theorem sc_certify_stable : FnScope ["row", "text"] ps_certify_stable (defScope s_certify_stable) := ⟨rfl, rfl, rfl, by decide +kernel, rfl, by decide +kernel, by decide +kernel⟩
abbrev s_certify_possible : Stmt := topS 59
abbrev ps_certify_possible : List Str := ["row", "shown", "length"]
theorem sc_certify_possible : FnScope ["row", "shown", "length", "known"] ps_certify_possible (defScope s_certify_possible) := ⟨rfl, rfl, rfl, by decide +kernel, rfl, by decide +kernel, by decide +kernel⟩
abbrev s_certify_confused : Stmt := topS 60
abbrev ps_certify_confused : List Str := ["row"]
theorem sc_certify_confused : FnScope ["row", "pair"] ps_certify_confused (defScope s_certify_confused) := ⟨rfl, rfl, rfl, by decide +kernel, rfl, by decide +kernel, by decide +kernel⟩
abbrev s_written_plan : Stmt := topS 64
abbrev ps_written_plan : List Str := ["sources"]
theorem sc_written_plan : FnScope ["sources", "source"] ps_written_plan (defScope s_written_plan) := ⟨rfl, rfl, rfl, by decide +kernel, rfl, by decide +kernel, by decide +kernel⟩
abbrev s_written_lengths : Stmt := topS 65
abbrev ps_written_lengths : List Str := ["some", "beyond"]
theorem sc_written_lengths : FnScope ["some", "beyond", "told", "length"] ps_written_lengths (defScope s_written_lengths) := ⟨rfl, rfl, rfl, by decide +kernel, rfl, by decide +kernel, by decide +kernel⟩
abbrev s_plan_table : Stmt := topS 66
abbrev ps_plan_table : List Str := ["row", "most"]
theorem sc_plan_table : FnScope ["row", "most", "length"] ps_plan_table (defScope s_plan_table) := ⟨rfl, rfl, rfl, by decide +kernel, rfl, by decide +kernel, by decide +kernel⟩
abbrev s_view_report : Stmt := topS 67
abbrev ps_view_report : List Str := ["views"]
theorem sc_view_report : FnScope ["views", "some", "beyond", "least", "written_least", "only"] ps_view_report (defScope s_view_report) := ⟨rfl, rfl, rfl, by decide +kernel, rfl, by decide +kernel, by decide +kernel⟩
abbrev s_law_pot : Stmt := topS 69
abbrev ps_law_pot : List Str := ["_law_script", "_law_k"]
theorem sc_law_pot : FnScope ["_law_script", "_law_k", "_law_own", "_law_mixed", "_law_entry"] ps_law_pot (defScope s_law_pot) := ⟨rfl, rfl, rfl, by decide +kernel, rfl, by decide +kernel, by decide +kernel⟩
abbrev s_law_ladle : Stmt := topS 70
abbrev ps_law_ladle : List Str := ["_law_pot_here", "_law_many"]
theorem sc_law_ladle : FnScope ["_law_pot_here", "_law_many", "_law_digit"] ps_law_ladle (defScope s_law_ladle) := ⟨rfl, rfl, rfl, by decide +kernel, rfl, by decide +kernel, by decide +kernel⟩
abbrev s_law_one_of : Stmt := topS 71
abbrev ps_law_one_of : List Str := ["_law_pot_here", "_law_some"]
theorem sc_law_one_of : FnScope ["_law_pot_here", "_law_some"] ps_law_one_of (defScope s_law_one_of) := ⟨rfl, rfl, rfl, by decide +kernel, rfl, by decide +kernel, by decide +kernel⟩
abbrev s_law_ended : Stmt := topS 72
abbrev ps_law_ended : List Str := ["_law_ask"]
theorem sc_law_ended : FnScope ["_law_ask", "_law_given", "e"] ps_law_ended (defScope s_law_ended) := ⟨rfl, rfl, rfl, by decide +kernel, rfl, by decide +kernel, by decide +kernel⟩
abbrev s_law_right : Stmt := topS 73
abbrev ps_law_right : List Str := ["_law_pot_here"]
theorem sc_law_right : FnScope ["_law_pot_here", "_law_one", "_law_some", "_law_bad", "_law_spot", "_law_odd", "_law_late", "_law_line", "_law_many", "_law_most_here", "_law_view_here", "_law_seen", "_law_due"] ps_law_right (defScope s_law_right) := ⟨rfl, rfl, rfl, by decide +kernel, rfl, by decide +kernel, by decide +kernel⟩
abbrev s_law : Stmt := topS 74
abbrev ps_law : List Str := ["_law_script"]
theorem sc_law : FnScope ["_law_script", "_law_k"] ps_law (defScope s_law) := ⟨rfl, rfl, rfl, by decide +kernel, rfl, by decide +kernel, by decide +kernel⟩
/-- names that the module leaves to Python -/
structure Bi (mg : Str → Option Value) : Prop where
  ValueError : mg "ValueError" = none
  abs : mg "abs" = none
  all : mg "all" = none
  bool : mg "bool" = none
  divmod : mg "divmod" = none
  enumerate : mg "enumerate" = none
  int : mg "int" = none
  isinstance : mg "isinstance" = none
  len : mg "len" = none
  list : mg "list" = none
  max : mg "max" = none
  min : mg "min" = none
  range : mg "range" = none
  repr : mg "repr" = none
  str : mg "str" = none
  tuple : mg "tuple" = none
  zip : mg "zip" = none
  MOST_SIGNS : ∃ u, mg "MOST_SIGNS" = some u ∧ RelV (.int 40) u
  MOST_MARK : ∃ u, mg "MOST_MARK" = some u ∧ RelV (.int 3) u
  MOST_ROW : ∃ u, mg "MOST_ROW" = some u ∧ RelV (.int 4) u
  MOST_VIEWS : ∃ u, mg "MOST_VIEWS" = some u ∧ RelV (.int 4) u
  MOST_TEXT : ∃ u, mg "MOST_TEXT" = some u ∧ RelV (.int 200) u
  MOST_LENGTH : ∃ u, mg "MOST_LENGTH" = some u ∧ RelV (.int 500) u
  SIGNS : ∃ u, mg "SIGNS" = some u ∧ RelV (.str ".0123456789abcdefghijklmnopqrstuvwxyz~") u
  SEVERAL : ∃ u, mg "SEVERAL" = some u ∧ RelV (.str "?") u
  MOST_TABLED : ∃ u, mg "MOST_TABLED" = some u ∧ RelV (.int 100) u
  NOTHING : ∃ u, mg "NOTHING" = some u ∧ RelV (.str "-") u
end Gu
namespace Gu
open PySem PySem.Spec PyProof.Rows L2
/-! cuts -/
/-- from a middle state on -/
def tHalt (t u : TS) : TS := fun D σ H => ∃ M : L2.St → Hp → Prop, t { D with nx := M } σ H ∧ ∀ σ1 H1, M σ1 H1 → u D σ1 H1
/-! defs as they stand behind the top -/
structure At (K : PySem.W.Frag) (mg : Str → Option Value) (x : Str) (st : Stmt) (ps : List Str) : Prop where
  ex : ∃ (f : Addr) (fd : FuncData), Fun K x x st f fd ∧ Binds K fd ps [] ∧ mg x = some (.ref f)
structure Cal (P : Program) (w : World) (K : PySem.W.Frag) (mg : Str → Option Value) (base : Heap) (k : Nat) (x : Str) (ps : List Str) (sp : Sp) : Prop where
  ex : ∃ (f : Addr) (fd : FuncData), FnOk P w K mg base CX0 k f fd ps sp ∧ mg x = some (.ref f) ∧ PySem.W.keepIn K (.ref f) = true ∧ Binds K fd ps [] ∧ ∃ oc od sl, K.lookup f = some ⟨oc, od, .func fd, sl⟩
theorem At.cal {P : Program} {w : World} {K : PySem.W.Frag} {mg : Str → Option Value} {base : Heap} {x : Str} {st : Stmt} {N ps : List Str} {k : Nat} {sp : Sp} (D : At K mg x st ps) (S : FnScope N ps (defScope st)) (len : ∀ vs H Q E, sp vs H Q E → vs.length = ps.length)
    (body : ∀ (f : Addr) (cdv : Value) (A : Around) (outer : List Env) (s : Shared) (H : Hp) (vs : List V) (Q : VK) (E : XK), Room k (A.deeper (envOfC x (defScope st) s.heap.objs.size f cdv)) → sp vs H Q E →
      ∃ t, PSs (cxOf CX0 P w K mg base N x (defScope st) f cdv A outer s H E).nox (defBody st) t ∧ t { nx := fun _ H' => Q .non H', rt := Q } (start N vs) H) : Cal P w K mg base (k + 1) x ps sp := by
  obtain ⟨f, fd, F, b, g⟩ := D.ex
  obtain ⟨oc, od, kV, doc, pm, an, cdv, ct, osl, e, lk, hcd⟩ := F.ex
  exact ⟨f, fd, F.ok S len (body f), g, F.kp, b, oc, od, osl, lk⟩
section
variable {X : Cx} {k j : Nat} {x : Str} {ps : List Str} {sp : Sp} {p pos : Pos} {e : Expr} {es : List Expr} {t : TA}
theorem pe_own (c : Cal X.prog X.w X.K X.mg X.base k x ps sp) (hr : Room j X.A) (hk : k ≤ j) (hg : Gl X x) (ha : PA X (e :: es) t)
    (hdb : (x == ("__debug__" : Str)) = false := by decide) (he : starEach (e :: es) X.env = (false, eval e X.env) :: starEach es X.env := by rfl) (hpl : (backTo pos (starEach es X.env)).any (·.1) = false := by rfl) :
    PE X (.Call (.Name x p) (e :: es) [] pos) (tCall sp [] E0 t) := by
  obtain ⟨f, fd, F, hm, kp, b, _⟩ := c.ex
  exact pe_call F (hr.mono hk) hg hm kp b .nil pass0 ha hdb he hpl
theorem pe_cst {v : V} (h : ∃ u, X.mg x = some u ∧ RelV v u) (hg : Gl X x) (hdb : (x == ("__debug__" : Str)) = false := by decide) : PE X (.Name x pos) (tC v) := by
  obtain ⟨u, hm, r⟩ := h
  exact pe_glob hg hm r hdb
end
def tMid (t : TE) : TE := fun σ H Q => ∃ M : VK, t σ H M ∧ ∀ v G, M v G → Q v G
theorem pe_mid {X : Cx} {e : Expr} {t : TE} (d : PE X e t) : PE X e (tMid t) := ⟨fun pins s σ H Q I ⟨M, m, k⟩ => thn (d.run pins s σ H M I m) fun u s1 ⟨v, G, I1, r1, m1⟩ => ⟨v, G, I1, r1, k v G m1⟩⟩
/-! ### heaps -/
theorem same_new {H : Hp} {p : Addr} {o : HO} (h : H p = none) : Same H (upd H p o) := fun b x e => by
  rw [upd_ne (ne_of_none e h)]
  exact e
/-- a pot of three ints stands at p -/
def Pot (H : Hp) (p : Addr) : Prop := ∃ x y z : Int, H p = some (.lst [.int x, .int y, .int z])
/-- from H to G the pot at p may have changed, the rest stands -/
structure Ladled (p : Addr) (H G : Hp) : Prop where
  pot : Pot G p
  keep : ∀ b o, H b = some o → b ≠ p → G b = some o
theorem Pot.some {H : Hp} {p : Addr} (h : Pot H p) : ∃ o, H p = some o := by
  obtain ⟨x, y, z, e⟩ := h
  exact ⟨_, e⟩
theorem Pot.same {H G : Hp} {p : Addr} (s : Same H G) (h : Pot H p) : Pot G p := by
  obtain ⟨x, y, z, e⟩ := h
  exact ⟨x, y, z, s _ _ e⟩
theorem Ladled.refl {H : Hp} {p : Addr} (h : Pot H p) : Ladled p H H := ⟨h, fun _ _ e _ => e⟩
theorem Ladled.trans {H G J : Hp} {p : Addr} (a : Ladled p H G) (b : Ladled p G J) : Ladled p H J := ⟨b.pot, fun c o e n => b.keep c o (a.keep c o e n) n⟩
theorem Ladled.same {H G J : Hp} {p : Addr} (a : Ladled p H G) (b : Same G J) : Ladled p H J := ⟨a.pot.same b, fun c o e n => b _ _ (a.keep c o e n)⟩
theorem Ladled.ofSame {H G : Hp} {p : Addr} (h : Pot H p) (b : Same H G) : Ladled p H G := ⟨h.same b, fun c o e _ => b _ _ e⟩
theorem Ladled.new {H G : Hp} {p q : Addr} {o : HO} (a : Ladled p H G) (h : G q = none) : Ladled p H (upd G q o) := a.same (same_new h)
theorem Ladled.free {H G : Hp} {p l : Addr} (a : Ladled p H G) (h : G l = none) : H l = none := by
  cases q : H l with
  | none => rfl
  | some o =>
    by_cases e : l = p
    · subst e
      obtain ⟨u, hu⟩ := a.pot.some
      rw [hu] at h
      cases h
    · rw [a.keep l o q e] at h
      cases h
/-- what is not known at first may change -/
theorem Ladled.mut {H G : Hp} {p q : Addr} {o : HO} (a : Ladled p H G) (h : H q = none) (n : q ≠ p) : Ladled p H (upd G q o) := by
  refine ⟨?_, fun b u e nb => ?_⟩
  · obtain ⟨x, y, z, e⟩ := a.pot
    exact ⟨x, y, z, by rw [upd_ne (Ne.symm n)]; exact e⟩
  · rw [upd_ne (ne_of_none e h)]
    exact a.keep b u e nb
end Gu
namespace Gu
open PySem PySem.Spec PyProof.Rows L2
/-! ### errors of the program's own, with one field -/
/-- the places of an __init__ that stores what it gets -/
structure Spots where
  a : Pos
  b : Pos
  c : Pos
  d : Pos
  e : Pos
  f : Pos
def eArgs (F : Str) (p : Spots) : Arguments := { posonlyargs := [], args := [⟨"self", none, p.a⟩, ⟨F, none, p.b⟩], vararg := none, kwonlyargs := [], kw_defaults := [], kwarg := none, defaults := [] }
def eBody (F : Str) (p : Spots) : List Stmt := [.Assign [.Attribute (.Name "self" p.c) F p.d] (.Name F p.e) p.f]
def eScope (F : Str) : Scope := { kind := .function, names := [("self", .local), (F, .local)], isGenerator := false, isCoroutine := false, more := [] }
/-- a built-in class of errors that an own class stands over -/
structure BaseE where
  nm : String
  new : String
  ini : String
  tl : List Value
structure BaseE.ok (b : BaseE) : Prop where
  base : ExcBaseFacts b.nm b.new b.ini b.tl
  store : StoreFacts b.nm b.tl "object.__setattr__" "object"
  plain : ∀ D : Addr, b.tl.contains (.ref D) = false
def bVE : BaseE := ⟨"ValueError", "ValueError.__new__", "ValueError.__init__", [.type "ValueError", .type "Exception", .type "BaseException", .type "object"]⟩
theorem bVE_ok : bVE.ok := ⟨F.excBase_ValueError, F.store_ValueError, fun D => rfl⟩
/-- what the top has left of the class named N, at C, over the own class at U and the built-in b -/
structure ErrK (K : PySem.W.Frag) (mg : Str → Option Value) (b : BaseE) (U : Addr) (N : Str) (C : Addr) : Prop where
  bok : b.ok
  g : mg N = some (.ref C)
  cls : ∃ q M bs sn sub ab col dd k0 k1 k2 k3 k5, K.lookup C = some (excClassObj N q C M bs (.ref U :: b.tl) true sn sub ab col dd k0 k1 k2 k3 k5 b.new)
  sa : PySem.W.findIn K (.ref C) "__setattr__" = some (some (.builtin "object.__setattr__"))
  ga : PySem.W.findIn K (.ref C) "__getattribute__" = some (some (.builtin "BaseException.__getattribute__"))
  gg : PySem.W.findIn K (.ref C) "__getattr__" = some none
  kC : PySem.W.keepIn K (.ref C) = true
  ty : PySem.W.typeIn K (.ref C) = some (.type "type")
  ca : PySem.W.findIn K (.ref C) "__class__" = some (some (.builtin "object.__class__"))
  cn : PySem.W.specialIn K (.builtin "object.__class__") "__get__" = some (some (.builtin "getset_descriptor.__get__"))
  ct : PySem.W.takesIn K (.builtin "object.__class__") = some true
structure ErrF (K : PySem.W.Frag) (N F : Str) (C : Addr) : Prop where
  nm : F = "value" ∨ F = "index" ∨ F = "limit"
  no : PySem.W.findIn K (.ref C) F = some none
  init : ∃ (f : Addr) (st : Stmt) (p : Spots) (fd : FuncData), PySem.W.findIn K (.ref C) "__init__" = some (some (.ref f)) ∧ PySem.W.typeIn K (.ref f) = some (.type "function") ∧ L2.Fun K "__init__" (N ++ ".__init__") st f fd ∧ defArgs st = eArgs F p ∧ defBody st = eBody F p ∧ defScope st = eScope F
section
variable {K : PySem.W.Frag} {mg : Str → Option Value} {b : BaseE} {U C : Addr} {N F : Str}
theorem ErrK.cd (T : ErrK K mg b U N C) : ∃ cd : ClassData, PySem.W.clsIn K C = some cd ∧ cd.mro = .ref C :: .ref U :: b.tl ∧ cd.hasDict = true ∧ cd.name = N := by
  obtain ⟨q, M, bs, sn, sub, ab, col, dd, k0, k1, k2, k3, k5, e⟩ := T.cls
  refine ⟨{ name := N, bases := bs, mro := .ref C :: .ref U :: b.tl, ns := M, qualname := q, hasDict := true, slotNames := sn, subclasses := sub, abstract := ab, collection := col, hasDel := false }, ?_, rfl, rfl, rfl⟩
  unfold PySem.W.clsIn
  rw [e]
theorem ErrK.sub (T : ErrK K mg b U N C) (c : Value) : PySem.W.subIn K (.ref C) c = some ((Value.ref C :: .ref U :: b.tl).contains c) := by
  obtain ⟨cd, e, m, _⟩ := T.cd
  show PySem.W.mroIn K C c = _
  unfold PySem.W.mroIn
  rw [e, Option.bind_some, m, if_neg (by simp)]
theorem ErrK.subT (T : ErrK K mg b U N C) (X : String) : PySem.W.subIn K (.ref C) (.type X) = some (b.tl.contains (.type X)) := by
  rw [T.sub, List.contains_cons, List.contains_cons]
  rfl
theorem ErrK.exC (T : ErrK K mg b U N C) : PySem.W.subIn K (.ref C) (.type "BaseException") = some true := by
  rw [T.subT, T.bok.base.hasBase]
theorem ErrK.obj (T : ErrK K mg b U N C) : PySem.W.mroIn K C (.type "object") = some true := by
  show PySem.W.subIn K (.ref C) _ = _
  rw [T.subT, T.bok.store.hasOwner]
theorem ErrK.hd (T : ErrK K mg b U N C) : PySem.W.hasDictIn K C = true := by
  obtain ⟨cd, e, _, h, _⟩ := T.cd
  unfold PySem.W.hasDictIn
  rw [e]
  exact h
theorem ErrK.isC (T : ErrK K mg b U N C) : (PySem.W.clsIn K C).isSome = true := by
  obtain ⟨cd, e, _⟩ := T.cd
  rw [e]
  rfl
theorem name_at {D : Addr} {q q2 : Str} {M M2 : Addr} {N2 : Str} {bs bm bs2 bm2 : List Value} {sn sn2 : List Str} {sub sub2 : List Value} {ab ab2 : Bool} {col col2 : Option Bool} {dd dd2 : Option Addr} {k0 k1 k2 k3 k5 j0 j1 j2 j3 j5 : Option Value} {ni nj : String}
    (a : K.lookup C = some (excClassObj N q C M bs bm true sn sub ab col dd k0 k1 k2 k3 k5 ni)) (c : K.lookup D = some (excClassObj N2 q2 D M2 bs2 bm2 true sn2 sub2 ab2 col2 dd2 j0 j1 j2 j3 j5 nj)) (e : C = D) : N = N2 := by
  subst e
  have z := a.symm.trans c
  injection z with z
  injection z with _ _ z
  injection z with z
  injection z
/-- is an error of C one of D, D of the same make? -/
theorem ErrK.eqv {b2 : BaseE} {U2 D : Addr} {M : Str} (T : ErrK K mg b U N C) (S : ErrK K mg b2 U2 M D) (ne : U ≠ D) : PySem.W.subIn K (.ref C) (.ref D) = some (decide (N = M)) := by
  rw [T.sub, List.contains_cons, List.contains_cons, T.bok.plain, Bool.or_false]
  have u : (Value.ref D == Value.ref U) = false := beq_eq_false_iff_ne.mpr fun z => ne (Value.ref.inj z).symm
  rw [u, Bool.or_false]
  by_cases h : N = M
  · have e : C = D := by
      have a := T.g
      rw [h, S.g] at a
      exact (Value.ref.inj (Option.some.inj a)).symm
    rw [decide_eq_true h, e, beq_self_eq_true]
  · have e : (Value.ref D == Value.ref C) = false := beq_eq_false_iff_ne.mpr fun z => by
      obtain ⟨q, M1, bs, sn, sub, ab, col, dd, k0, k1, k2, k3, k5, a⟩ := T.cls
      obtain ⟨q2, M2, bs2, sn2, sub2, ab2, col2, dd2, j0, j1, j2, j3, j5, c⟩ := S.cls
      exact h (name_at a c (Value.ref.inj z).symm)
    rw [e, decide_eq_false h]
/-- an own class right over a built-in one -/
structure UpK (K : PySem.W.Frag) (mg : Str → Option Value) (b : BaseE) (N : Str) (U : Addr) : Prop where
  g : mg N = some (.ref U)
  cls : ∃ q M bs sn sub ab col dd k0 k1 k2 k3 k5, K.lookup U = some (excClassObj N q U M bs b.tl true sn sub ab col dd k0 k1 k2 k3 k5 b.new)
  ty : PySem.W.typeIn K (.ref U) = some (.type "type")
theorem UpK.isC {V : Addr} (S : UpK K mg b F V) : (PySem.W.clsIn K V).isSome = true := by
  obtain ⟨q, M, bs, sn, sub, ab, col, dd, k0, k1, k2, k3, k5, e⟩ := S.cls
  unfold PySem.W.clsIn
  rw [e]
  rfl
theorem UpK.exC {V : Addr} (ok : b.ok) (S : UpK K mg b F V) : PySem.W.subIn K (.ref V) (.type "BaseException") = some true := by
  obtain ⟨q, M, bs, sn, sub, ab, col, dd, k0, k1, k2, k3, k5, e⟩ := S.cls
  show PySem.W.mroIn K V _ = _
  unfold PySem.W.mroIn PySem.W.clsIn
  rw [e]
  show (if (Value.ref V :: b.tl).isEmpty = true then none else some ((Value.ref V :: b.tl).contains (.type "BaseException"))) = some true
  rw [if_neg (by simp), List.contains_cons, ok.base.hasBase, Bool.or_true]
theorem ErrK.up (T : ErrK K mg b U N C) : PySem.W.subIn K (.ref C) (.ref U) = some true := by
  rw [T.sub, List.contains_cons, List.contains_cons, beq_self_eq_true, Bool.true_or, Bool.or_true]
theorem UpK.ne {b2 : BaseE} {U2 D V : Addr} {M : Str} (S : UpK K mg b F V) (T : ErrK K mg b2 U2 M D) (h : F ≠ M) : V ≠ D := fun z => by
  obtain ⟨q, M1, bs, sn, sub, ab, col, dd, k0, k1, k2, k3, k5, a⟩ := S.cls
  obtain ⟨q2, M2, bs2, sn2, sub2, ab2, col2, dd2, j0, j1, j2, j3, j5, c⟩ := T.cls
  exact h (name_at a c z)
/-! what except and isinstance ask -/
theorem kit_ref {t : Value} {D : Addr} {r : Bool} (i : (PySem.W.clsIn K D).isSome = true) (ty : PySem.W.typeIn K (.ref D) = some (.type "type")) (s : PySem.W.subIn K t (.ref D) = some r) : PySem.W.kitCls K t (.ref D) = some r := by
  show (if ((PySem.W.clsIn K D).isSome && PySem.W.typeIn K (.ref D) == some (.type "type")) = true then PySem.W.subIn K t (.ref D) else none) = some r
  rw [i, ty, if_pos (by simp)]
  exact s
theorem kit_one {t : Value} {D : Addr} {r : Bool} (h : PySem.W.kitCls K t (.ref D) = some r) (y : t = .ref D → r = true) : PySem.W.kitOne K t (.ref D) = some r := by
  unfold PySem.W.kitOne
  split
  · next e => rw [y (eq_of_beq e)]
  · exact h
theorem ErrK.exm {b2 : BaseE} {U2 D : Addr} {M : Str} (T : ErrK K mg b U N C) (S : ErrK K mg b2 U2 M D) (ne : U ≠ D) : PySem.W.exmOne K (.ref C) (.ref D) = some (decide (N = M)) := by
  unfold PySem.W.exmOne
  rw [S.exC, if_pos (by simp)]
  exact kit_ref S.isC S.ty (T.eqv S ne)
theorem ErrK.kitU (T : ErrK K mg b U N C) (S : UpK K mg b F U) : PySem.W.kitOne K (.ref C) (.ref U) = some true := kit_one (kit_ref S.isC S.ty T.up) fun _ => rfl
theorem ErrK.kitV (T : ErrK K mg b U N C) (h : PySem.W.kitMeta b.nm = true) : PySem.W.kitOne K (.ref C) (.type b.nm) = some true := by
  unfold PySem.W.kitOne
  rw [if_neg (by simp)]
  show (if PySem.W.kitMeta b.nm = true then PySem.W.subIn K (.ref C) (.type b.nm) else none) = some true
  rw [if_pos h, T.subT, T.bok.base.hasB]
end
end Gu
namespace Gu
open PySem PySem.Spec PyProof.Rows L2 HandSPX
/-! ### such an error is made -/
section
variable {prog : Program} {w : World} {A : Around} {E : Value → Shared → Prop} {R : Result → Shared → Prop} {K : PySem.W.Frag} {mg : Str → Option Value} {b : BaseE} {U C : Addr} {N Fl : Str}
/-- a first field is laid: its dict is new -/
theorem err_store {hp : Heap} {g : Array GenState} {dr : Drawn} {tk0 : Nat} {os : OsState} {tk : Tok} {v : Value} {x : Addr} {fv : Array Value} (T : ErrK K mg b U N C) (inK : K.In hp) (at_x : hp.get? x = some { cls := .ref C, data := .fields fv }) (no : PySem.W.findIn K (.ref C) Fl = some none)
    (k : ∀ (h1 : Heap) (t1 : Nat) (dx : Addr), (∀ c o, c ≠ x → hp.get? c = some o → h1.get? c = some o) → hp.objs.size ≤ dx → dx ≠ x → h1.get? x = some { cls := .ref C, dict := some dx, data := .fields fv } → h1.Ns1 dx (fun y => if y = Fl then some v else none) → R (.ok (.ret .none)) ⟨h1, g, dr, t1, os⟩) :
    codeAny (model prog w) A (.call (.builtin "object.__setattr__") ⟨[.ref x, .str Fl tk, v], []⟩) R ⟨hp, g, dr, tk0, os⟩ := by
  obtain ⟨cd, ecd, em, eh, _⟩ := T.cd
  have inst : PySem.W.InstAt hp x { cls := .ref C, data := .fields fv } C none := ⟨at_x, rfl, rfl, trivial⟩
  have old : x ≠ hp.objs.size := Nat.ne_of_lt (Heap.lt_size at_x)
  have isO : PySem.W.Looks (model prog w) hp (isInstance (.ref x) (.type "object")) true := inst.type.andThen (PySem.W.looks_mroIn inK T.obj)
  have facts := PySem.F.store_object
  refine codeAny_call_builtin facts.slot.plain facts.entry (@PySem.W.check_slot (model prog w) _ _ ⟨hp, g, dr, tk0, os⟩ "object.__setattr__" "object" "__setattr__" (.ref x) [.str Fl tk, v] [] _ facts.kind facts.split isO (facts.args (.ref x) (.str Fl tk) v) ?_)
  have look : PySem.W.Looks (model prog w) hp (classData C) cd := PySem.W.looks_clsIn inK ecd
  have mro : PySem.W.Looks (model prog w) hp (mroOf (.ref C)) cd.mro := look.andThen .now
  have none' : PySem.W.Looks (model prog w) hp (Builtin.ObjectAttr.storeTaker? none) none := .now
  rw [PySem.W.osa_eq, refuse_eq]
  refine wpAny_bind (wpAny_bind (inst.type.at (wpAny_bind (mro.at ?_))))
  rw [em, refuseLoop_ref, refuseLoop_ref, T.bok.store.passes]
  refine wpAny_pure (wpAny_bind (inst.type.at (wpAny_bind ((PySem.W.looks_findIn inK no).at (wpAny_bind (none'.at ?_))))))
  obtain ⟨nm, bs, mr, ns, qn, hd, sn, sb, ab, col, del⟩ := cd
  dsimp only at eh
  subst eh
  show wpAny _ _ (Builtin.ObjectAttr.storeInOwnDict (.ref x) (.ref C) (.str Fl tk) Fl v false) _ _ _
  unfold Builtin.ObjectAttr.storeInOwnDict Builtin.ObjectAttr.ownDictForStores
  repeat (first | with_reducible refine store_in_new ?_ ?_ | with_reducible refine look.at ?_ | with_reducible refine wpAny_loadPart_at at_x ?_ | wp_step)
  · exact ⟨_, #[], _, (Heap.get?_update_ne _ _ _ _ old.symm).trans (Heap.get?_push_at rfl rfl), rfl, fun e he => absurd he (by simp), fun _ => rfl⟩
  · intro h1 t1 hn hs
    refine k h1 t1 hp.objs.size (fun c o hc ho => ?_) (Nat.le_refl _) old.symm ?_ hn
    · exact (hs.2 c (Nat.ne_of_lt (Heap.lt_size ho))).trans ((Heap.get?_update_ne _ _ _ _ hc).trans (Heap.get?_push_of_some _ ho))
    · exact (hs.2 x old).trans (Heap.get?_update_self _ (Heap.get?_push_of_some { cls := .type "dict", data := .dict #[] } at_x) rfl)
/-- what __init__ leaves of a fresh error at x -/
structure InitLeft (h h1 : Heap) (x C dx t1 : Addr) (Fl : Str) (v : Value) : Prop where
  keep : ∀ c o, c ≠ x → h.get? c = some o → h1.get? c = some o
  obj : h1.get? x = some { cls := .ref C, dict := some dx, data := .fields #[.ref t1, .none, .none, .none, .bool false, .none] }
  big : h.objs.size ≤ dx
  ne : dx ≠ x
  ns : h1.Ns1 dx (fun y => if y = Fl then some v else none)
theorem here_local {M : Model} {s : Shared} {name : Str} {scope : Scope} {L a : Addr} {cd : Value} {m : Str → Option Value} {x : Str} {pos : Pos} {v : Value} {Q : Value → Shared → Prop} (ns : s.heap.Ns L m) (hv : m x = some v) (q : Q v s)
    (hk : scope.kind = .function := by rfl) (hl : (envOfC name scope L a cd).kindOf x = some .local := by rfl) (hd : (x == ("__debug__" : Str)) = false := by decide) : wpAny M A (eval (.Name x pos) (envOfC name scope L a cd)) Q E s := wpAny_Name (wpAny_loadName_local hk hl ns hv q) hd
theorem err_init {s : Shared} {f x t0 : Addr} {v : Value} {st : Stmt} {p : Spots} {fd : FuncData} (T : ErrK K mg b U N C) (no : PySem.W.findIn K (.ref C) Fl = some none) (hF : Fl = "value" ∨ Fl = "index" ∨ Fl = "limit") (G : L2.Fun K "__init__" (N ++ ".__init__") st f fd) (e1 : defArgs st = eArgs Fl p) (e2 : defBody st = eBody Fl p) (e3 : defScope st = eScope Fl)
    (inK : K.In s.heap) (lim : s.heap.NoLimit) (at_x : s.heap.get? x = some (excO C t0)) (room : A.depth < recursionLimit)
    (k : ∀ h1 tk dx, InitLeft s.heap h1 x C dx t0 Fl v → R (.ok (.ret .none)) { s with heap := h1, toks := tk }) : codeAny (model prog w) A (.call (.ref f) ⟨[.ref x, v], []⟩) R s := by
  obtain ⟨oc, od, kV, doc, pm, an, cdv, ct, osl, ef, lk, hcd⟩ := G.ex
  rw [ef, e1, e2, e3] at lk
  have main : ∀ s1, InCallC s s.heap.objs.size (bindL (envOfC (N ++ ".__init__") (eScope Fl) s.heap.objs.size f cdv).kindOf [("self", .ref x), (Fl, v)] fun _ => none) (cellsFrom (s.heap.objs.size + 1) (eScope Fl).names []) (bindC (envOfC (N ++ ".__init__") (eScope Fl) s.heap.objs.size f cdv).kindOf [("self", .ref x), (Fl, v)] fun _ => none) s1 →
      wpAny (model prog w) (A.deeper (envOfC (N ++ ".__init__") (eScope Fl) s.heap.objs.size f cdv)) (execs (eBody Fl p) (envOfC (N ++ ".__init__") (eScope Fl) s.heap.objs.size f cdv)) (fun fl s' => R (.ok (.ret (match fl with | .ret v => v | _ => .none))) s')
        (fun e s' => wpAny (model prog w) (A.deeper (envOfC (N ++ ".__init__") (eScope Fl) s.heap.objs.size f cdv)) (leaving (envOfC (N ++ ".__init__") (eScope Fl) s.heap.objs.size f cdv) e) (fun _ s'' => R (.error e) s'') (fun e' s'' => R (.error e') s'') s') s1 := by
    intro s1 c1
    obtain ⟨h1, tk1, rfl⟩ := c1.toInCall.same
    have keep : ∀ c o, s.heap.get? c = some o → h1.get? c = some o := c1.toInCall.keep
    have ns := c1.toInCall.ns
    refine wpAny_execs_cons (plainObj_wpAny_Assign_Attribute ?_ ?_)
    · have v1 : (bindL (envOfC (N ++ ".__init__") (eScope Fl) s.heap.objs.size f cdv).kindOf [("self", .ref x), (Fl, v)] fun _ => none) Fl = some v := by
        rcases hF with rfl | rfl | rfl <;> first | rfl | with_unfolding_all rfl | kernel_rfl
      have v2 : (bindL (envOfC (N ++ ".__init__") (eScope Fl) s.heap.objs.size f cdv).kindOf [("self", .ref x), (Fl, v)] fun _ => none) "self" = some (.ref x) := by
        rcases hF with rfl | rfl | rfl <;> first | rfl | with_unfolding_all rfl | kernel_rfl
      refine here_local (v := v) ns v1 (here_local (v := .ref x) ns v2 ?_ rfl rfl (by decide)) rfl (by rcases hF with rfl | rfl | rfl <;> rfl) (by rcases hF with rfl | rfl | rfl <;> decide)
      refine PySem.W.set_plain (inK.keeps keep) (ox := excO C t0) (od := none) ⟨keep _ _ at_x, rfl, rfl, trivial⟩ T.sa ?_
      refine err_store T (inK.keeps keep) (keep _ _ at_x) no fun h3 tk3 dx k3 big ne hx hn => ?_
      have z : s.heap.objs.size < h1.objs.size := ns.lt
      exact wpAny_execs_nil (k h3 tk3 dx ⟨fun c o hc e => k3 c o hc (keep c o e), hx, Nat.le_of_lt (Nat.lt_of_lt_of_le z big), ne, hn⟩)
    · rfl
  refine Att.call_fn (binds := [("self", .ref x), (Fl, v)]) inK lim lk hcd room ?_ ?_ main rfl rfl rfl
  · rcases hF with rfl | rfl | rfl <;> exact BindsTo.of_eq (by first | rfl | with_unfolding_all rfl)
  · rcases hF with rfl | rfl | rfl <;> first | rfl | decide | with_unfolding_all rfl
end
end Gu
namespace Gu
open PySem PySem.Spec PyProof.Rows L2 HandSPX
section
variable {prog : Program} {w : World} {A : Around} {E : Value → Shared → Prop} {R : Result → Shared → Prop} {K : PySem.W.Frag} {mg : Str → Option Value} {b : BaseE} {U C : Addr} {N Fl : Str}
/-- an error that is made: at e, its dict at d -/
structure MadeE (h h1 : Heap) (e C d : Addr) (Fl : Str) (v : Value) : Prop where
  keep : ∀ c o, h.get? c = some o → h1.get? c = some o
  new : h.objs.size ≤ e
  obj : ∃ oe vs, h1.get? e = some oe ∧ oe.cls = .ref C ∧ oe.dict = some d ∧ oe.data = .fields vs ∧ vs[1]? = some .none
  big : h.objs.size ≤ d
  ne : d ≠ e
  ns : h1.Ns1 d (fun y => if y = Fl then some v else none)
theorem one_fits (v : Value) : [v].length ≤ sizeLine := by
  show 1 ≤ sizeLine
  decide
theorem err_made {s : Shared} {v : Value} (T : ErrK K mg b U N C) (S : ErrF K N Fl C) (inK : K.In s.heap) (lim : s.heap.NoLimit) (room : A.depth + 1 < recursionLimit) (k : ∀ h1 tk e d, MadeE s.heap h1 e C d Fl v → R (.ok (.ret (.ref e))) { s with heap := h1, toks := tk }) :
    codeAny (model prog w) A (.call (.ref C) ⟨[v], []⟩) R s := by
  obtain ⟨q, M, bs, sn, sub, ab, col, dd, k0, k1, k2, k3, k5, hC⟩ := T.cls
  obtain ⟨f, st, p, fd, hf, tf, G, e1, e2, e3⟩ := S.init
  obtain ⟨hp, g, dr, tk, os⟩ := s
  have old : ∀ c o, hp.get? c = some o → ((hp.push (PySem.W.kdv_tup [v])).push (excO C hp.objs.size)).get? c = some o := fun c o e => Heap.get?_push_of_some _ (Heap.get?_push_of_some _ e)
  have here : ((hp.push (PySem.W.kdv_tup [v])).push (excO C hp.objs.size)).get? (hp.objs.size + 1) = some (excO C hp.objs.size) := by heap_get
  refine call_own T.bok.base (fun X => by rw [List.contains_cons]; rfl) (inK _ _ hC) (PySem.W.looks_findIn inK hf) (fun self => PySem.W.bind_fn inK self tf) (one_fits v) ?_
  refine err_init (s := ⟨(hp.push (PySem.W.kdv_tup [v])).push (excO C hp.objs.size), g, dr, tk, os⟩) T S.no S.nm G e1 e2 e3 (inK.keeps old) (lim.keeps old) here room fun h1 t1 dx L => ?_
  have old1 : ∀ c o, hp.get? c = some o → h1.get? c = some o := fun c o e => L.keep c o (Nat.ne_of_lt (Nat.lt_succ_of_lt (Heap.lt_size e))) (old c o e)
  have z : hp.objs.size + 1 + 1 ≤ dx := by
    have q := L.big
    rw [Heap.size_push, Heap.size_push] at q
    exact q
  exact ⟨rfl, k h1 t1 (hp.objs.size + 1) dx ⟨old1, Nat.le_succ _, ⟨_, _, L.obj, rfl, rfl, rfl, rfl⟩, by show hp.objs.size ≤ dx; omega, L.ne, L.ns⟩⟩
end
theorem relO_one {Fl : Str} {v : V} {u : Value} (r : RelV v u) (g : Str) : RelO (List.lookup g [(Fl, v)]) (if g = Fl then some u else none) := by
  by_cases h : g = Fl
  · subst h
    rw [if_pos rfl, show List.lookup g [(g, v)] = some v by simp [List.lookup]]
    exact r
  · have q : (g == Fl) = false := by simpa using h
    rw [if_neg h, show List.lookup g [(Fl, v)] = none by simp [List.lookup, q]]
    trivial
section
variable {X : Cx} {b : BaseE} {U C : Addr} {N Fl : Str}
/-- N(e) -/
def tMkE (C : Addr) (Fl : Str) (ta : TA) : L2.St → Hp → XK → Prop := fun σ H Q => ta σ H fun vs G => ∃ v, vs = [v] ∧ ∀ d, G d = none → Q (.ref C) (some d) (upd G d (.xd [(Fl, v)]))
theorem pmk_err {a : Expr} {ta : TA} {p pos : Pos} {k : Nat} (T : ErrK X.K X.mg b U N C) (S : ErrF X.K N Fl C) (hr : Room k X.A) (ha : PA X [a] ta) (hg : Gl X N) (hdb : (N == ("__debug__" : Str)) = false)
    (he : starEach (a :: []) X.env = (false, eval a X.env) :: starEach [] X.env := by rfl) (hpl : (backTo pos (starEach [] X.env)).any (·.1) = false := by rfl) : PMk X (.Call (.Name N p) [a] [] pos) (tMkE C Fl ta) := by
  intro pins s σ H Q I want
  refine wpAny_Call_Name_kw (ld_glob I hg T.g ?_ hdb)
  refine PySem.W.callWith_K (h₀ := X.base) I.ok.mod.kin T.kC (thn (ha.run pos pins s σ H _ I want) fun us s1 ⟨vs, G, I1, r, v, ev, q⟩ => ⟨I1.kIn, ?_⟩) he hpl
  subst ev
  cases r with
  | @cons _ u _ _ rv rn =>
    cases rn
    have lim := I1.nolimit
    obtain ⟨hp, g, dr, tk, os⟩ := s1
    show wpAny _ _ (call (.ref C) [u]) _ _ _
    refine wpAny_call (err_made (v := u) T S I1.kIn lim (by have := hr.dp; omega) fun h1 t1 e d M => ?_)
    obtain ⟨oe, fv, hoe, hc, hd, hdat, h1n⟩ := M.obj
    obtain ⟨B, b1, b2⟩ := restrict h1 fun c => decide (c ≠ e)
    have inB : ∀ c, c ≠ e → B.get? c = h1.get? c := fun c hc => b1 c (decide_eq_true hc)
    have noB : B.get? e = none := b2 e (by simp)
    have old : ∀ c o, hp.get? c = some o → B.get? c = some o := fun c o z => (inB c (Nat.ne_of_lt (Nat.lt_of_lt_of_le (Heap.lt_size z) M.new))).trans (M.keep c o z)
    have ob : ObjOk X.prog X.w (upd G d (.xd [(Fl, v)])) B d (.xd [(Fl, v)]) := ⟨_, M.ns.at (fun o z => (inB d M.ne).trans z), fun y => relO_one rv y⟩
    have J : Inv X pins σ (upd G d (.xd [(Fl, v)])) ⟨B, g, dr, t1, os⟩ := I1.laid (t' := t1) old M.big ob
    show MkP X pins σ Q (.ref e) ⟨h1, g, dr, t1, os⟩
    refine ⟨e, oe, fv, ⟨B, g, dr, t1, os⟩, _, .ref C, some d, rfl, J, fun c o z => ?_, noB, hoe, ⟨hc, hd⟩, hdat, h1n, ?_, rfl, I1.bare, raises_own T.exC T.ty, q d (I1.hok.fresh M.big)⟩
    · by_cases hce : c = e
      · have z : B.get? c = some o := z
        rw [hce, noB] at z
        cases z
      · exact (inB c hce).symm.trans z
    · rw [upd_ne (Ne.symm M.ne)]
      exact I1.hok.fresh M.new
/-- raise N(e) -/
def tRaiseE (C : Addr) (Fl : Str) (W : WX) (ta : TA) : TS := fun _ σ H => tMkE C Fl ta σ H fun cls d G => W cls d σ G
theorem ps_raiseE {a : Expr} {ta : TA} {W : WX} {p pos pos2 : Pos} {k : Nat} (T : ErrK X.K X.mg b U N C) (S : ErrF X.K N Fl C) (hc : X.calm = true) (hr : Room k X.A) (tk : Takes X W) (ha : PA X [a] ta) (hg : Gl X N) (hdb : (N == ("__debug__" : Str)) = false := by decide)
    (he : starEach (a :: []) X.env = (false, eval a X.env) :: starEach [] X.env := by rfl) (hpl : (backTo pos (starEach [] X.env)).any (·.1) = false := by rfl) :
    PS X (.Raise (some (.Call (.Name N p) [a] [] pos)) none pos2) (tRaiseE C Fl W ta) := ps_raise hc tk (pmk_err T S hr ha hg hdb he hpl)
/-! ### an error that is held -/
/-- e.f, e the error at a that is pinned -/
def tXfE (a : Addr) (cls : Value) (d : Option Addr) (C : Addr) (f : Str) (te : TE) : TE := fun σ H Q => te σ H fun x G => x = .ref a ∧ cls = .ref C ∧ ∃ (dd : Addr) (fs : List (Str × V)) (v : V), d = some dd ∧ G dd = some (.xd fs) ∧ fs.lookup f = some v ∧ Q v G
theorem pe_xfE {a : Addr} {oe : Obj} {cls : Value} {d : Option Addr} {e : Expr} {te : TE} {pos : Pos} (T : ErrK X.K X.mg b U N C) (S : ErrF X.K N Fl C) (hp : (a, oe) ∈ X.pn) (hz : Zc cls d oe) (hf : ∃ vs, oe.data = .fields vs) (he : PE X e te) (hb : attributeBase e Fl X.env (eval e X.env) = eval e X.env) :
    PE X (.Attribute e Fl pos) (tXfE a cls d C Fl te) := by
  refine ⟨fun pins s σ H Q I want => attr_of hb (thn (he.run pins s σ H _ I want) fun u s1 ⟨x, G, I1, rx, ex, ec, dd, fs, v, ed, ea, l, q⟩ => ?_)⟩
  subst ex ec ed
  obtain rfl : u = Value.ref a := rx
  obtain ⟨ha, _⟩ := I1.pin (a, oe) (List.mem_append_left _ hp)
  obtain ⟨vs, hd⟩ := hf
  obtain ⟨mA, hns, rel⟩ := (show ObjOk X.prog X.w G s1.heap dd (.xd fs) from I1.hok dd _ ea)
  obtain ⟨od, ho, hl⟩ := lookIn_ns hns
  obtain ⟨u, hu, ru⟩ := RelO.some_of (v := v) (o := mA Fl) (by rw [← l]; exact rel Fl)
  have J : PySem.W.InstAt s1.heap a oe C (some od) := ⟨ha, hz.1, by unfold PySem.W.notCls; rw [hd] <;> rfl, by rw [hz.2]; exact ho⟩
  exact exc_get I1.kIn J T.ga T.gg T.exC (PySem.W.findObj_own T.hd S.no rfl (by rw [hl, hu])) (handed_of ru) ⟨v, G, I1.tok _, ru, q⟩
/-- isinstance(e, c), e the error at a that is pinned -/
def rIsX (K : PySem.W.Frag) (C a : Addr) (cls : Value) (d : Option Addr) : List V → Hp → VK → Prop := fun xs H Q => ∃ (c : V) (cv : Value) (r : Bool), xs = [.ref a, c] ∧ cls = .ref C ∧ (∀ u, RelV c u → u = cv) ∧ PySem.W.kitOne K (.ref C) cv = some r ∧ (∀ dd, d = some dd → ∃ fs, H dd = some (.xd fs)) ∧ Q (.bl r) H
theorem call_isX {a : Addr} {oe : Obj} {cls : Value} {d : Option Addr} (T : ErrK X.K X.mg b U N C) (hp : (a, oe) ∈ X.pn) (hz : Zc cls d oe) (hf : ∃ vs, oe.data = .fields vs) : CallR X (.builtin "isinstance") (rIsX X.K C a cls d) := by
  intro pins s σ H xs us Q I r h
  obtain ⟨c, cv, ans, rfl, rfl, hcv, e, hdd, q⟩ := h
  cases r with
  | cons rx rr =>
    cases rr with
    | cons rt rr =>
      cases rr
      cases rx
      have ec := hcv _ rt
      subst ec
      obtain ⟨get, _⟩ := I.pin (a, oe) (List.mem_append_left _ hp)
      obtain ⟨vs, hv⟩ := hf
      have J : ∃ od, PySem.W.InstAt s.heap a oe C od := by
        obtain ⟨oc, odd, oda, osl⟩ := oe
        obtain ⟨h1, h2⟩ := hz
        dsimp only at h1 h2 hv
        subst h1 h2 hv
        cases odd with
        | none => exact ⟨none, get, rfl, rfl, trivial⟩
        | some dd =>
          obtain ⟨fs, hx⟩ := hdd dd rfl
          obtain ⟨mA, hns, _⟩ := (show ObjOk X.prog X.w H s.heap dd (.xd fs) from I.hok dd _ hx)
          obtain ⟨od, ho, _⟩ := lookIn_ns hns
          exact ⟨some od, get, rfl, rfl, ho⟩
      obtain ⟨od, J⟩ := J
      exact PySem.W.kia_one (PySem.W.kitx_exc T.isC T.ga T.gg T.exC T.ca T.cn T.ct T.obj) I.kIn J e (fun z => nomatch z) fun tk => ⟨.bl ans, H, I.kept (t' := tk) fun _ _ z => z, rfl, q⟩
end
end Gu
namespace Gu
open PySem PySem.Spec PyProof.Rows L2 HandSPX
/-! ### try with several clauses, each of them naming the error -/
/-- the test of a clause: mt tells of the error's class whether it is this one; what stood stands -/
def HTest (X : Cx) (t : Expr) (mt : Value → Option Bool) : Prop := ∀ (a : Addr) (oe : Obj) (cls : Value) (d : Option Addr) (pn pins : List (Addr × Obj)) (σ : L2.St) (H : Hp) (s : Shared) (r : Bool) (Q : Bool → Shared → Prop) (E : Value → Shared → Prop), Inv (X.suite a ((a, oe) :: pn)) pins σ H s → s.heap.get? a = some oe → Zc cls d oe → mt cls = some r →
  (∀ h1 tk, (∀ c o, s.heap.get? c = some o → h1.get? c = some o) → Q r { s with heap := h1, toks := tk }) →
  wpAny (model X.prog X.w) (X.A.mark (some (.ref a))) (eval t X.env) (fun c s1 => wpAny (model X.prog X.w) (X.A.mark (some (.ref a))) (excMatches (.ref a) c) Q E s1) E s
theorem htest_name {X : Cx} {x : Str} {c : Value} {pos : Pos} (hc : Names X x c) : HTest X (.Name x pos) (fun cls => PySem.W.exmOne X.K cls c) := by
  intro a oe cls d pn pins σ H s r Q E I ha hz hm k
  have LT : PySem.W.Looks (model X.prog X.w) s.heap (typeOf (.ref a)) cls := fun A Q E s1 keep q => wpAny_typeOf_ref (keep _ _ ha) (by rw [hz.1]; exact q)
  have LM := PySem.W.exm_one (M := model X.prog X.w) I.kIn LT hm
  have go : wpAny (model X.prog X.w) (X.A.mark (some (.ref a))) (excMatches (.ref a) c) Q E s := LM.here (k s.heap s.toks fun _ _ e => e)
  obtain ⟨hg, hdb, hm | ⟨hm, hv, hn⟩⟩ := hc
  · exact ld_glob (X := X.suite a ((a, oe) :: pn)) I hg hm go hdb
  · exact ld_blt (X := X.suite a ((a, oe) :: pn)) I hg hm hv go hn hdb
/-- what the clauses wish of an error of the body, one after the other; slot i is the error's name -/
def wManyA (i : Nat) (Wout : WX) (D : Ends) : List ((Value → Option Bool) × (Addr → Value → Option Addr → TS)) → WX
  | [] => Wout
  | (mt, ts) :: l => fun cls d σ H => ∃ r, mt cls = some r ∧ (r = true → ∀ a, H a = none → i < σ.length → ts a cls d { nx := fun σ1 G => D.nx (σ1.set i none) G, rt := D.rt, bk := fun σ1 G => D.bk (σ1.set i none) G, ct := fun σ1 G => D.ct (σ1.set i none) G } (σ.set i (some (.ref a))) H) ∧ (r = false → wManyA i Wout D l cls d σ H)
inductive HdsA (X : Cx) (n : Str) : List ExceptHandler → List ((Value → Option Bool) × (Addr → Value → Option Addr → TS)) → Prop
  | nil : HdsA X n [] []
  | cons {t : Expr} {mt : Value → Option Bool} {ts : Addr → Value → Option Addr → TS} {b0 : Stmt} {suite : List Stmt} {pos : Pos} {hds : List ExceptHandler} {l : List ((Value → Option Bool) × (Addr → Value → Option Addr → TS))} (ht : HTest X t mt)
      (hs : ∀ (a : Addr) (oe : Obj) (cls : Value) (d : Option Addr) (pn : List (Addr × Obj)), Zc cls d oe → (∃ vs, oe.data = .fields vs) → PSs (X.suite a ((a, oe) :: pn)) (b0 :: suite) (ts a cls d)) (r : HdsA X n hds l) : HdsA X n (.ExceptHandler (some t) (some n) (b0 :: suite) pos :: hds) ((mt, ts) :: l)
/-- what flies stays so while more is laid -/
theorem flying_keep {B h h1 : Heap} {l : List Env} {e : Addr} {Z : Obj → Prop} (k : ∀ c o, h.get? c = some o → h1.get? c = some o) (f : FlyingZ B l e Z h) : FlyingZ B l e Z h1 := by
  obtain ⟨f1, f2, f3, oe, vs, T, oT, ts, he, hz, hd, a1, a2, a3, a4, a5, a6⟩ := f
  exact ⟨fun b o q => k b o (f1 b o q), f2, f3.of_keeps fun b o hb _ => ⟨o, k b o hb, rfl⟩, oe, vs, T, oT, ts, k _ _ he, hz, hd, a1, a2, a3, k _ _ a4, a5, a6⟩
section
variable {X : Cx} {n : Str} {i : Nat} {body : List Stmt} {h0 : ExceptHandler} {hds : List ExceptHandler} {l : List ((Value → Option Bool) × (Addr → Value → Option Addr → TS))} {pos : Pos} {tb : WX → TS} {Wout : WX}
theorem ps_try_manyA (hs : X.stack = X.env :: X.outer) (hf : X.env.frame = some X.env.locals) (hN : X.N.Nodup) (hi : X.N[i]? = some n) (hln : X.env.kindOf n = some .local) (tk : Takes X Wout)
    (hb : ∀ (W : WX) (pn : List (Addr × Obj)) (xe : Value → Shared → Prop), Takes (X.tr pn xe) W → PassesOwn (model X.prog X.w) X.A X.env xe → PSs (X.tr pn xe) body (tb W))
    (hh : HdsA X n (h0 :: hds) l) : PS X (.Try body (h0 :: hds) [] [] pos) (fun D σ H => tb (wManyA i Wout D l) D σ H) := by
  refine ⟨fun pins s σ H D I want => ?_⟩
  have ok := I.ok
  have frames : X.A.frames = some (X.env :: X.outer) := by rw [ok.frames, hs]
  have loc : Loc X.env.scope n := .inl hln
  refine wpAny_Try_except (wpAny_mono ((hb (wManyA i Wout D l) (X.pn ++ pins) (fun e s1 => wpAny (model X.prog X.w) X.A (noteFrame e X.env) (fun _ s2 => wpAny (model X.prog X.w) X.A (setFlight e none) (fun _ s3 => wpAny (model X.prog X.w) X.A (handleBy e X.env (h0 :: hds)) (SP X pins D) X.xe s3) X.xe s2) X.xe s1) (fun u s1 x1 => ?_) PassesOwn.looking).run [] s σ H D (I.toTry _) want) (fun fl s1 q => ?_) fun e s1 q => q)
  · obtain ⟨a, B, sI, _, σ1, H1, cls, d, rfl, J0, nb, up, sky, na, os, ag, wish⟩ := x1
    have J : Inv X pins σ1 H1 sI := J0.ofTry ok
    rw [hs] at sky
    refine Sky.land Zc.steady frames hf sky fun h3 fl3 up3 => ?_
    have out : ∀ {h : Heap} {o : Obj} {vs : Array Value}, h.FunFrames B (X.env :: X.outer) → h.get? a = some o → o.data = .fields vs → a ≠ X.env.locals ∧ a ∉ X.fs := fun {h o vs} ff e dd => by
      have nf : a ∉ frs (X.env :: X.outer) := fun hm => by
        obtain ⟨_, o2, e2, z⟩ := ff.mem hm
        rw [e] at e2
        cases e2
        exact z _ dd
      exact ⟨fun z => nf (List.mem_filterMap.mpr ⟨X.env, List.mem_cons_self, by rw [hf, z]⟩), fun hm => by
        obtain ⟨e, he, q⟩ := List.mem_filterMap.mp hm
        exact nf (List.mem_filterMap.mpr ⟨e, List.mem_cons_of_mem _ he, q⟩)⟩
    have go : ∀ {hs2 : List ExceptHandler} {l2 : List ((Value → Option Bool) × (Addr → Value → Option Addr → TS))}, HdsA X n hs2 l2 → ∀ (h : Heap) (t : Nat), FlyingZ B (X.env :: X.outer) a (Zc cls d) h → sI.heap.UpToSlots h → wManyA i Wout D l2 cls d σ1 H1 →
        wpAny (model X.prog X.w) X.A (handleBy (.ref a) X.env hs2) (SP X pins D) X.xe { s1 with heap := h, toks := t } := by
      intro hs2 l2 hk
      induction hk with
      | nil =>
        intro h t fl up wish
        refine wpAny_handleBy_nil ?_
        obtain ⟨_, _, _, oe, vs, T, oT, ts, he, hz, hd, h1, _⟩ := id fl
        unfold PySem.passOn
        refine wpAny_bind (wpAny_field he hd h1 ?_)
        rw [if_neg (by simp)]
        have last : wpAny (model X.prog X.w) X.A (setFlight (.ref a) X.env.frame) (fun _ s4 => wpAny (model X.prog X.w) X.A (throw (.ref a) : Sem Flow) (SP X pins D) X.xe s4) X.xe { s1 with heap := h, toks := t } := by
          rw [hf]
          refine setFlight_upZ fl fun h4 hh4 up4 => wpAny_throw (tk _ _ ?_)
          exact ⟨a, B, sI, pins, σ1, H1, cls, d, rfl, J, nb, up.trans up4, .inr (.inr (by rw [hs]; exact hh4)), na, os, ag, wish⟩
        first
          | exact wpAny_bind (wpAny_pure (wpAny_bind last))
          | exact wpAny_bind last
      | @cons t mt ts b0 suite pos2 hds2 l2 ht hsu r ih =>
        intro h tok fl up wish
        obtain ⟨ans, hm, yes, no⟩ := wish
        have J3 : Inv X pins σ1 H1 { s1 with heap := h, toks := tok } := J.landed (s' := { s1 with heap := h, toks := tok }) nb fl.1 up os ag
        obtain ⟨oe, vs, he, hz, hd⟩ := fl.there
        have nn := out fl.2.2.1 he hd
        have S3 := J3.suite he hd na nn.1 nn.2
        refine wpAny_handleBy_cons (codeAny_handlers_test ?_) (by intro q; cases q)
        refine ht a oe cls d (X.pn ++ pins) [] σ1 H1 { s1 with heap := h, toks := tok } ans _ _ S3 he hz hm fun h4 tok4 k4 => ?_
        have fl4 := flying_keep k4 fl
        have up4 : sI.heap.UpToSlots h4 := up.trans fun b o hb _ => ⟨o.slots, k4 b o hb⟩
        cases ans with
        | false => exact ih h4 tok4 fl4 up4 (no rfl)
        | true =>
          refine codeAny_handlers_suite_as (lands_againZ fl4 fun h5 fl5 up5 => ?_)
          have J5 : Inv X pins σ1 H1 { s1 with heap := h5, toks := tok4 } := J.landed (s' := { s1 with heap := h5, toks := tok4 }) nb fl5.1 (up4.trans up5) os ag
          obtain ⟨oe5, vs5, he5, hz5, hd5⟩ := fl5.there
          have n5 := out fl5.2.2.1 he5 hd5
          refine store_ok (X := X.suite a ((a, oe5) :: (X.pn ++ pins))) (v := .ref a) (J5.suite he5 hd5 na n5.1 n5.2) hN hi loc rfl (fun s6 S6 => ?_) (.inr hln)
          refine wpAny_mono ((hsu a oe5 cls d (X.pn ++ pins) hz5 ⟨_, hd5⟩).run [] s6 _ H1 _ S6 (yes rfl a na (by rw [J5.len]; exact (List.getElem?_eq_some_iff.mp hi).1))) (fun fl7 s7 q7 => ?_) fun _ _ z => False.elim z
          have gone : ∀ {σ7 : L2.St} {H7 : Hp} {Q : Shared → Prop}, Inv (X.suite a ((a, oe5) :: (X.pn ++ pins))) [] σ7 H7 s7 → (∀ s8, Inv X pins (σ7.set i none) H7 s8 → Q s8) → wpAny (model X.prog X.w) X.A (do bindName X.env n .none; unbindBehindTheSuite X.env n pos2) (fun _ s8 => Q s8) X.xe s7 := fun {σ7 H7 Q} S7 hq => gone_ok (S7.unsuite ok) hN hi hln hq
          cases fl7 with
          | next =>
            obtain ⟨σ7, H7, S7, q7⟩ := q7
            exact gone S7 fun s8 J8 => ⟨_, _, J8, q7⟩
          | brk =>
            obtain ⟨σ7, H7, S7, q7⟩ := q7
            exact gone S7 fun s8 J8 => ⟨_, _, J8, q7⟩
          | cont =>
            obtain ⟨σ7, H7, S7, q7⟩ := q7
            exact gone S7 fun s8 J8 => ⟨_, _, J8, q7⟩
          | ret u =>
            obtain ⟨v7, σ7, H7, S7, r7, q7⟩ := q7
            exact gone S7 fun s8 J8 => ⟨_, _, _, J8, r7, q7⟩
    exact go hh h3 s1.toks fl3 (up.trans up3) wish
  · cases fl with
    | next =>
      obtain ⟨σ1, H1, J1, q⟩ := q
      exact wpAny_execs_nil ⟨σ1, H1, J1.ofTry ok, q⟩
    | brk =>
      obtain ⟨σ1, H1, J1, q⟩ := q
      exact ⟨σ1, H1, J1.ofTry ok, q⟩
    | cont =>
      obtain ⟨σ1, H1, J1, q⟩ := q
      exact ⟨σ1, H1, J1.ofTry ok, q⟩
    | ret u =>
      obtain ⟨v, σ1, H1, J1, r, q⟩ := q
      exact ⟨v, σ1, H1, J1.ofTry ok, r, q⟩
end
end Gu
namespace Gu
open PySem PySem.Spec PyProof.Rows L2
/-! ### defs that are called where no container is being written out -/
structure FnG (P : Program) (w : World) (K : PySem.W.Frag) (mg : Str → Option Value) (base : Heap) (k : Nat) (f : Addr) (fd : FuncData) (ps : List Str) (sp : Sp) : Prop where
  len : ∀ vs H Q E, sp vs H Q E → vs.length = ps.length
  run : ∀ (A : Around) (outer : List Env) (s : Shared) (H : Hp) (args : Args) (us : List Value) (vs : List V) (Q : VK) (E : XK), Room k A → A.guards = some [] → Env0 P w K mg base A outer s H → BindsTo s fd args (ps.zip us) → Vals vs us → sp vs H Q E →
    codeAny (model P w) A (.call (.ref f) args) (CR CX0 outer P w H s Q E) s
section
variable {P : Program} {w : World} {K : PySem.W.Frag} {mg : Str → Option Value} {base : Heap}
theorem okG {x qual : Str} {st : Stmt} {f : Addr} {fd : FuncData} {N ps : List Str} {k : Nat} {sp : Sp} (F : Fun K x qual st f fd) (S : FnScope N ps (defScope st)) (len : ∀ vs H Q E, sp vs H Q E → vs.length = ps.length)
    (body : ∀ (cdv : Value) (A : Around) (outer : List Env) (s : Shared) (H : Hp) (vs : List V) (Q : VK) (E : XK), Room k (A.deeper (envOfC qual (defScope st) s.heap.objs.size f cdv)) → A.guards = some [] → sp vs H Q E →
      ∃ t, PSs (cxOf CX0 P w K mg base N qual (defScope st) f cdv A outer s H E).nox (defBody st) t ∧ t { nx := fun _ G => Q .non G, rt := Q } (start N vs) H) : FnG P w K mg base (k + 1) f fd ps sp := by
  obtain ⟨oc, od, kV, doc, pm, an, cdv, ct, osl, rfl, lk, hcd⟩ := F.ex
  refine ⟨len, fun A outer s H args us vs Q E room quiet env binds rel want => ?_⟩
  have stays : ∀ b o, base.get? b = some o → s.heap.get? b = some o := fun b o e => (env.bs b o e).1
  have inK : K.In s.heap := env.mod.kin.keeps stays
  have free : s.heap.NoLimit := env.mod.nolimit.keeps stays
  refine codeAny_call_function room.depth (inK _ _ lk) rfl S.co S.gen rfl (PySem.W.codeRec_of inK hcd) (binds _ _ _ _ ?_)
  refine wpAny_newFunctionEnv_cells S.kind (fun ⟨n, v⟩ hy => (S.par n (List.of_mem_zip hy).1).imp id fun q => ⟨q, PySem.W.cellsFrom_some _ _ _ (.inl q)⟩) fun env1 e1 s1 c1 => ?_
  subst e1
  refine ⟨free.keeps c1.toInCall.keep, codeAny_func ?_⟩
  obtain ⟨t, d, q⟩ := body cdv A outer s H vs Q E (room.deeper _) quiet want
  refine wpAny_mono (d.nox.run [] s1 (start N vs) H _ (inv_start S room.hd env (len _ _ _ _ want) rel c1) q) (fun fl s2 h2 => ?_) fun e s2 h2 => h2
  cases fl with
  | ret u =>
    obtain ⟨v, σ2, G, J, rv, r⟩ := h2
    exact ⟨v, G, J.os, J.bare, J.base, J.hok, rv, r⟩
  | next =>
    obtain ⟨σ2, G, J, r⟩ := h2
    exact ⟨V.non, G, J.os, J.bare, J.base, J.hok, rfl, r⟩
  | brk => exact (h2.choose_spec.choose_spec.2 : False).elim
  | cont => exact (h2.choose_spec.choose_spec.2 : False).elim
structure CalG (P : Program) (w : World) (K : PySem.W.Frag) (mg : Str → Option Value) (base : Heap) (k : Nat) (x : Str) (ps : List Str) (sp : Sp) : Prop where
  ex : ∃ (f : Addr) (fd : FuncData), FnG P w K mg base k f fd ps sp ∧ mg x = some (.ref f) ∧ PySem.W.keepIn K (.ref f) = true ∧ Binds K fd ps []
theorem At.calG {x : Str} {st : Stmt} {N ps : List Str} {k : Nat} {sp : Sp} (D : At K mg x st ps) (S : FnScope N ps (defScope st)) (len : ∀ vs H Q E, sp vs H Q E → vs.length = ps.length)
    (body : ∀ (f : Addr) (cdv : Value) (A : Around) (outer : List Env) (s : Shared) (H : Hp) (vs : List V) (Q : VK) (E : XK), Room k (A.deeper (envOfC x (defScope st) s.heap.objs.size f cdv)) → A.guards = some [] → sp vs H Q E →
      ∃ t, PSs (cxOf CX0 P w K mg base N x (defScope st) f cdv A outer s H E).nox (defBody st) t ∧ t { nx := fun _ G => Q .non G, rt := Q } (start N vs) H) : CalG P w K mg base (k + 1) x ps sp := by
  obtain ⟨f, fd, F, b, g⟩ := D.ex
  exact ⟨f, fd, okG F S len (body f), g, F.kp, b⟩
end
def tCallG (sp : Sp) (t : TA) : TE := fun σ H Q => t σ H fun vs G => sp vs G Q E0
section
variable {X : Cx} {k j : Nat} {x : Str} {ps : List Str} {sp : Sp} {p pos : Pos} {e : Expr} {es : List Expr} {t : TA}
theorem pe_ownG (c : CalG X.prog X.w X.K X.mg X.base k x ps sp) (hr : Room j X.A) (hk : k ≤ j) (quiet : X.A.guards = some []) (hg : Gl X x) (ha : PA X (e :: es) t)
    (hdb : (x == ("__debug__" : Str)) = false := by decide) (he : starEach (e :: es) X.env = (false, eval e X.env) :: starEach es X.env := by rfl) (hpl : (backTo pos (starEach es X.env)).any (·.1) = false := by rfl) :
    PE X (.Call (.Name x p) (e :: es) [] pos) (tCallG sp t) := by
  obtain ⟨f, fd, F, hm, kp, b⟩ := c.ex
  refine ⟨fun pins s σ H Q I h => wpAny_Call_Name_kw (ld_glob I hg hm (PySem.W.callWith_K (h₀ := X.base) I.ok.mod.kin kp (thn (ha.run pos pins s σ H _ I h) fun us s1 ⟨vs, G, I1, r, q⟩ => ⟨I1.kIn, ?_⟩) he hpl) hdb)⟩
  have ll : (us ++ []).length = ps.length := by
    rw [List.append_nil, ← r.length]
    exact F.len _ _ _ _ q
  have bt := b s1 us I1.kIn ll
  rw [List.append_nil] at bt
  refine wpAny_call (codeAny_mono (F.run X.A X.stack s1 G ⟨us, []⟩ us vs Q E0 (hr.mono hk) quiet I1.env0 bt r q) fun rr s2 h2 => ?_)
  cases rr with
  | error e => exact (h2 : False).elim
  | ok fl =>
    cases fl with
    | ret u => exact I1.after h2
    | next => exact (h2 : False).elim
    | brk => exact (h2 : False).elim
    | cont => exact (h2 : False).elim
end
end Gu
namespace Gu
open PySem PySem.Spec PyProof.Rows L2
/-- a heap in which nothing is tracked but, at most, the script at a, which stands still there -/
theorem quiet_end {P : Program} {w : World} {K : PySem.W.Frag} {mg mb : Str → Option Value} {k : Nat} {fa a : Addr} {fd : FuncData} {x : Str} {sp : Sp} {s : Shared} {us : List Value} {H : Hp} (inK : K.In s.heap) (nsG : s.heap.Ns mainGlobals mg) (nsB : s.heap.Ns builtinsNs mb)
    (bb : ∀ x : Str, x ≠ "__name__" → mb x = bootBuiltins x) (nl : s.heap.NoLimit) (ng : s.gens = #[]) (at_a : s.heap.get? a = some { cls := .type "list", data := .seq us.toArray }) (room : Room k callerA)
    (F : ∀ base : Heap, K.In base → base.Ns mainGlobals mg → FnG P w K mg base k fa fd [x] sp) (bind : ∀ (s : Shared) (u : Value), BindsTo s fd ⟨[u], []⟩ [(x, u)]) (want : sp [.ref a] H (fun v _ => v = .bl true) fun _ _ _ => False)
    (only : Only H) (ok : HOk P w H s.heap) (one : ∀ b, H b ≠ none → b = a ∧ K.lookup a = none) :
    codeAny (model P w) callerA (.call (.ref fa) ⟨[.ref a], []⟩) (fun r s2 => r = .ok (.ret (.bool true)) ∧ OldK s.heap s2.heap ∧ s2.os = s.os ∧ AllBare s2.gens) s := by
  have dictFree : ∀ (b : Addr) (o : Obj) (es : Array DictEntry) (ep : Nat), s.heap.get? b = some o → o.data = .dict es ep → H b = none := fun b o es ep e d =>
    Classical.byContradiction fun z => by
      have hb := (one b z).1
      rw [hb, at_a] at e
      cases e
      exact Data.noConfusion d
  have hiddenNs : ∀ (b : Addr) (m : Str → Option Value), s.heap.Ns b m → (hidT s.heap H).Ns b m := fun b m h => by
    obtain ⟨o, es, ep, e, d, r⟩ := h
    exact ⟨o, es, ep, hidT_get e (dictFree b o es ep e d), d, r⟩
  have hiddenK : K.In (hidT s.heap H) := fun b o e => hidT_get (inK b o e) (Classical.byContradiction fun z => by
    obtain ⟨h1, h2⟩ := one b z
    rw [h1, h2] at e
    cases e)
  have env : Env0 P w K mg (hidT s.heap H) callerA [] s H := by
    refine ⟨rfl, ⟨hiddenK, hiddenNs _ _ nsG, ⟨mb, hiddenNs _ _ nsB, bb⟩, ?_⟩, fun b o e => of_hidT e, Nat.le_of_eq (hidT_size _ _), trivial, fun b hb => absurd (show b ∈ ([] : List Addr) from hb) List.not_mem_nil, ok, .of_eq ng⟩
    obtain ⟨mc, h1, h2⟩ := nl
    exact ⟨mc, hiddenNs _ _ h1, h2⟩
  refine codeAny_mono ((F _ hiddenK (hiddenNs _ _ nsG)).run callerA [] s H ⟨[.ref a], []⟩ [.ref a] [.ref a] _ _ room rfl env (bind s (.ref a)) (.cons rfl .nil) want) fun r s2 h2 => ?_
  cases r with
  | error e => exact (h2 : False).elim
  | ok fl =>
    cases fl with
    | next => exact (h2 : False).elim
    | brk => exact (h2 : False).elim
    | cont => exact (h2 : False).elim
    | ret u =>
      obtain ⟨v, G, os, bare, un, ok2, rv, hv⟩ := h2
      cases (show v = .bl true from hv)
      cases (show u = Value.bool true from rv)
      refine ⟨rfl, OldK.of_keep fun b o e => ?_, os, bare⟩
      rcases only b with z | ⟨ob, xs, z⟩
      · exact un.keep b o e z (fun y => absurd (show b ∈ ([] : List Addr) from y) List.not_mem_nil) (by simp)
      · have e1 := (ok b _ z).1
        have e2 := (ok2 b _ (un.frzs b ob _ z)).1
        rw [e] at e1
        cases e1
        exact e2
/-- the law's call, by its promise -/
theorem quiet_call {P : Program} {w : World} {K : PySem.W.Frag} {mg mb : Str → Option Value} {k : Nat} {fa a : Addr} {fd : FuncData} {x : Str} {sp : Sp} {s : Shared} {us : List Value} {ns : List Int} (inK : K.In s.heap) (nsG : s.heap.Ns mainGlobals mg) (nsB : s.heap.Ns builtinsNs mb)
    (bb : ∀ x : Str, x ≠ "__name__" → mb x = bootBuiltins x) (nl : s.heap.NoLimit) (ng : s.gens = #[]) (at_a : s.heap.get? a = some { cls := .type "list", data := .seq us.toArray }) (nums : IntsAre us ns) (small : ns.length ≤ sizeLine) (room : Room k callerA)
    (F : ∀ base : Heap, K.In base → base.Ns mainGlobals mg → FnG P w K mg base k fa fd [x] sp) (bind : ∀ (s : Shared) (u : Value), BindsTo s fd ⟨[u], []⟩ [(x, u)])
    (want : ∀ H : Hp, SqL K H a (ns.map V.int) → sp [.ref a] H (fun v _ => v = .bl true) fun _ _ _ => False) :
    codeAny (model P w) callerA (.call (.ref fa) ⟨[.ref a], []⟩) (fun r s2 => r = .ok (.ret (.bool true)) ∧ OldK s.heap s2.heap ∧ s2.os = s.os ∧ AllBare s2.gens) s := by
  have rel := vals_ints nums
  cases hk : K.lookup a with
  | some o =>
    have e := inK a o hk
    rw [at_a] at e
    cases e
    refine quiet_end (H := fun _ => none) inK nsG nsB bb nl ng at_a room F bind (want _ (.inr ⟨_, us.toArray, _, hk, rfl, rfl, rfl, ?_, rel⟩)) (fun _ => .inl rfl) (fun b u z => nomatch (show (none : Option HO) = some u from z)) fun b z => absurd rfl z
    rw [List.size_toArray, nums.length]
    exact small
  | none =>
    refine quiet_end (H := upd (fun _ => none) a (.frz { cls := .type "list", data := .seq us.toArray } (.lst (ns.map V.int)))) inK nsG nsB bb nl ng at_a room F bind (want _ (.inl (.inr ⟨_, upd_same⟩))) (fun b => ?_) (fun b u z => ?_) fun b z => ?_
    · by_cases hb : b = a
      · exact .inr ⟨_, _, by rw [hb]; exact upd_same⟩
      · exact .inl (upd_ne hb)
    · by_cases hb : b = a
      · subst hb
        rw [upd_same] at z
        cases z
        exact ⟨at_a, by rw [List.length_map]; exact small, us, _, rel, at_a⟩
      · rw [upd_ne hb] at z
        cases z
    · by_cases hb : b = a
      · exact ⟨hb, hk⟩
      · exact absurd (upd_ne hb) z
theorem walkG {l : PySem.W.OpenLaw} {n k : Nat} {q : Program} {loose : List Str} {XP : (Str → Option Value) → Heap → Prop} {YP : World → Heap → Prop} {d : DefRec} {K : Params → PySem.W.Frag} {x : Str} {sp : PySem.W.Frag → Sp} (most : l.most = some n) (small : n ≤ sizeLine) (plain : d.params.defaults = []) (room : Room k callerA)
    (left : ∀ (w : World) (h : Heap), YP w h → (K w.params).In h)
    (F : ∀ (w : World) (mg : Str → Option Value) (fa : Addr) (h : Heap), (K w.params).In h → h.Ns mainGlobals mg → mg d.name = some (.ref fa) → ∃ fd : FuncData, (∀ (s : Shared) (u : Value), BindsTo s fd ⟨[u], []⟩ [(x, u)]) ∧
      ∀ base : Heap, (K w.params).In base → base.Ns mainGlobals mg → FnG l.prog w (K w.params) mg base k fa fd [x] (sp (K w.params)))
    (want : ∀ (w : World) (H : Hp) (a : Addr) (ns : List Int), ns.length ≤ n → SqL (K w.params) H a (ns.map V.int) → sp (K w.params) [.ref a] H (fun v _ => v = .bl true) fun _ _ _ => False) :
    PySem.W.WalkO q loose XP YP l.row.toRowW d [] (fun f vs => PySem.call f vs) := by
  refine Att.attach_call most plain fun w s0 s mg mb fa o pm cd doc a us ns G Y ho hd hcd hmg at_a nums le ng => ?_
  obtain ⟨fd, bind, fn⟩ := F w mg fa _ (left w _ Y) G.T.g hmg
  exact quiet_call (left w _ Y) G.T.g G.T.b G.T.builtins G.T.nolimit ng at_a nums (Nat.le_trans le small) room fn bind fun H hS => want w H a ns le hS
end Gu
namespace Gu
open PySem PySem.Spec PyProof.Rows L2
/-! ### what can be written out -/
structure Fine (n W : Nat) (d : PyData) : Prop where
  nd : d.hasDict = false
  sh : d.showable = true
  ls : d.leavesShort 80 = true
  dp : d.depth ≤ n
  wt : d.weight ≤ W
structure FineAll (n W : Nat) (ds : List PyData) : Prop where
  nd : PyData.hasDictAll ds = false
  sh : PyData.showableAll ds = true
  ls : PyData.leavesShortAll 80 ds = true
  dp : PyData.depthAll ds ≤ n
  wt : PyData.weightAll ds ≤ ds.length * (W + 1)
theorem FineAll.of {n W : Nat} : ∀ {ds : List PyData}, (∀ d ∈ ds, Fine n W d) → FineAll n W ds
  | [], _ => ⟨rfl, rfl, rfl, Nat.zero_le _, Nat.zero_le _⟩
  | d :: ds, h => by
    have a := h d (List.mem_cons_self ..)
    have b := FineAll.of (ds := ds) fun e he => h e (List.mem_cons_of_mem _ he)
    refine ⟨?_, ?_, ?_, Nat.max_le.mpr ⟨a.dp, b.dp⟩, ?_⟩
    · show (d.hasDict || PyData.hasDictAll ds) = false
      rw [a.nd, b.nd]
      rfl
    · show (d.showable && PyData.showableAll ds) = true
      rw [a.sh, b.sh]
      rfl
    · show (d.leavesShort 80 && PyData.leavesShortAll 80 ds) = true
      rw [a.ls, b.ls]
      rfl
    · show d.weight + 1 + PyData.weightAll ds ≤ (ds.length + 1) * (W + 1)
      have := a.wt
      have := b.wt
      rw [Nat.succ_mul]
      omega
theorem FineAll.list {n W : Nat} {ds : List PyData} (a : FineAll n W ds) : Fine (n + 1) (ds.length * (W + 1)) (.list ds) := ⟨a.nd, a.sh, a.ls, Nat.succ_le_succ a.dp, a.wt⟩
theorem FineAll.tup {n W : Nat} {ds : List PyData} (a : FineAll n W ds) : Fine (n + 1) (ds.length * (W + 1)) (.tuple ds) := ⟨a.nd, a.sh, a.ls, Nat.succ_le_succ a.dp, a.wt⟩
theorem Fine.mono {n m W Z : Nat} {d : PyData} (h : Fine n W d) (a : n ≤ m) (b : W ≤ Z) : Fine m Z d := ⟨h.nd, h.sh, h.ls, Nat.le_trans h.dp a, Nat.le_trans h.wt b⟩
theorem Fine.bool (b : Bool) : Fine 0 0 (.bool b) := ⟨rfl, rfl, rfl, Nat.le_refl _, Nat.le_refl _⟩
theorem Fine.none : Fine 0 0 .none := ⟨rfl, rfl, rfl, Nat.le_refl _, Nat.le_refl _⟩
theorem Fine.int {i : Int} (h : i.natAbs < 2 ^ 70) : Fine 0 70 (.int i) := by
  have l : i.natAbs.log2 < 70 := PySem.Flt.log2_lt_of (by decide) h
  refine ⟨rfl, decide_eq_true (by omega), decide_eq_true ?_, Nat.le_refl _, ?_⟩
  · have e := int_text_length_le (a := i) (k := 70) (by decide) l
    show (Str.ofString (toString i)).length ≤ 80
    rw [PySem.ofString_length]
    omega
  · show (if i == 0 then 0 else i.natAbs.log2 + 1) ≤ 70
    split <;> omega
theorem Fine.str {z : Str} {W : Nat} (h : ∀ c ∈ z.cps.toList, c < 16 ^ 8) (w : z.cps.toList.length ≤ W) : Fine 0 W (.str z) := by
  refine ⟨rfl, rfl, ?_, Nat.le_refl _, w⟩
  show (z.cps.toList.all fun c => decide (c < 16 ^ 8)) = true
  rw [List.all_eq_true]
  exact fun c hc => decide_eq_true (h c hc)
theorem Fine.fits {d : PyData} (h : Fine 60 100000 d) : d.shown.length ≤ sizeLine := by
  have a := PyData.shown_le 80 (by decide) d h.ls
  have b := h.wt
  have c : (80 + 2) * d.weight ≤ 82 * 100000 := Nat.mul_le_mul_left _ b
  have e : sizeLine = 16777216 := by decide
  omega
section
variable {X : Cx}
/-- repr of a list or tuple, where none is being written out -/
theorem call_reprD (quiet : X.A.guards = some []) (hu : X.A.units + 64 < cLine) : CallR X (.builtin "repr") (fun xs H Q => ∃ (a : Addr) (d : PyData), xs = [.ref a] ∧ Dp X.K H (.ref a) d ∧ Fine 60 100000 d ∧ Q (.str d.shown) H) := by
  intro pins s σ H xs us Q I r h
  obtain ⟨a, d, rfl, hd, fine, q⟩ := h
  cases r with
  | cons r rr =>
    cases rr
    cases (show _ = Value.ref a from r)
    obtain ⟨as, rd⟩ := Dp.reads I d (.ref a) (.ref a) hd rfl
    have dp := fine.dp
    exact repr_of_reads' rd fine.sh (PyData.noDict_hsm fine.nd) quiet (by omega) (fun _ _ e => e) (fun g u tk keep => ⟨.str d.shown, H, I.kept (t' := tk) keep, ⟨_, rfl⟩, q⟩) fine.fits
end
end Gu
namespace Gu
open PySem PySem.Spec PyProof.Rows L2
/-! ### things of any kind, an empty dict among them, written out -/
/-- the system's modules are known to stand -/
def Sys (H : Hp) : Prop := ∃ o u, H sysModules = some (.frz o u)
theorem Sys.same {H G : Hp} (h : Sys H) (s : Same H G) : Sys G := by
  obtain ⟨o, u, e⟩ := h
  exact ⟨o, u, s _ _ e⟩
mutual
inductive DpE (K : PySem.W.Frag) (H : Hp) : V → PyData → Prop
  | non : DpE K H .non .none
  | bl (b : Bool) : DpE K H (.bl b) (.bool b)
  | int (i : Int) : DpE K H (.int i) (.int i)
  | str (x : Str) : DpE K H (.str x) (.str x)
  | lst {a : Addr} {xs : List V} {ds : List PyData} : H a = some (.lst xs) → DpEs K H xs ds → DpE K H (.ref a) (.list ds)
  | tup {a : Addr} {xs : List V} {ds : List PyData} : SqT K H a xs → DpEs K H xs ds → DpE K H (.ref a) (.tuple ds)
  | dict {a : Addr} : H a = some (.dK []) → DpE K H (.ref a) (.dict [])
inductive DpEs (K : PySem.W.Frag) (H : Hp) : List V → List PyData → Prop
  | nil : DpEs K H [] []
  | cons {v : V} {vs : List V} {d : PyData} {ds : List PyData} : DpE K H v d → DpEs K H vs ds → DpEs K H (v :: vs) (d :: ds)
end
theorem stE {K : PySem.W.Frag} {H G : Hp} {a : Addr} {xs : List V} (s : Same H G) (h : SqT K H a xs) : SqT K G a xs := by
  rcases h with (h | ⟨o, h⟩) | h
  · exact .inl (.inl (s _ _ h))
  · exact .inl (.inr ⟨o, s _ _ h⟩)
  · exact .inr h
mutual
theorem DpE.same {K : PySem.W.Frag} {H G : Hp} (s : Same H G) : ∀ {v : V} {d : PyData}, DpE K H v d → DpE K G v d
  | _, _, .non => .non
  | _, _, .bl b => .bl b
  | _, _, .int i => .int i
  | _, _, .str x => .str x
  | _, _, .lst h a => .lst (s _ _ h) (DpEs.same s a)
  | _, _, .tup h a => .tup (stE s h) (DpEs.same s a)
  | _, _, .dict h => .dict (s _ _ h)
theorem DpEs.same {K : PySem.W.Frag} {H G : Hp} (s : Same H G) : ∀ {vs : List V} {ds : List PyData}, DpEs K H vs ds → DpEs K G vs ds
  | _, _, .nil => .nil
  | _, _, .cons a b => .cons (DpE.same s a) (DpEs.same s b)
end
section
variable {X : Cx} {pins : List (Addr × Obj)} {σ : L2.St} {H : Hp} {s : Shared}
mutual
theorem DpE.reads (I : Inv X pins σ H s) (y : Sys H) : ∀ (d : PyData) (v : V) (u : Value), DpE X.K H v d → RelV v u → ∃ as, Reads s.heap u d as ∧ sysModules ∉ as
  | .none, _, _, h, r => by
    cases h
    cases r
    exact ⟨_, Reads.none, List.not_mem_nil⟩
  | .bool b, _, _, h, r => by
    cases h
    cases r
    exact ⟨_, Reads.bool b, List.not_mem_nil⟩
  | .int i, _, _, h, r => by
    cases h
    obtain ⟨t, rfl⟩ := r
    exact ⟨_, Reads.int i t, List.not_mem_nil⟩
  | .str x, _, _, h, r => by
    cases h
    obtain ⟨t, rfl⟩ := r
    exact ⟨_, Reads.str x t, List.not_mem_nil⟩
  | .list ds, _, _, h, r => by
    cases h with
    | @lst a xs _ hs ha =>
      cases r
      obtain ⟨its, rv, ⟨o, n, ho, hc, _, hd⟩, _⟩ := I.list (.inl (.inl hs))
      obtain ⟨as, hr, na⟩ := DpEs.reads I y ds _ its ha rv
      refine ⟨_, Reads.list ho hc hd hr, fun z => ?_⟩
      rcases List.mem_cons.mp z with z | z
      · obtain ⟨o2, u2, e2⟩ := y
        rw [z, hs] at e2
        cases e2
      · exact na z
  | .tuple ds, _, _, h, r => by
    cases h with
    | tup hs ha =>
      cases r
      obtain ⟨its, rv, ⟨o, ho, hc, n, hd⟩, _⟩ := I.tuple hs
      obtain ⟨as, hr, na⟩ := DpEs.reads I y ds _ its ha rv
      exact ⟨_, Reads.tuple ho hc hd hr, na⟩
  | .dict kvs, _, _, h, r => by
    cases h with
    | @dict a hs =>
      cases r
      obtain ⟨_, ns, vs, kv, o, es, ep, ho, ex, hd, hes⟩ := (show ObjOk X.prog X.w H s.heap a (.dK []) from I.hok a _ hs)
      cases kv
      have en : es.toList = [] := by
        have q := hes.2.1
        generalize es.toList = l at q
        cases q
        rfl
      refine ⟨_, Reads.dict (kvs := []) ho ex.1 hd (by rw [en]; exact .nil) (by rw [en]; exact .nil), fun z => ?_⟩
      have z : sysModules = a := by simpa using z
      rw [← z] at ns
      simp at ns
theorem DpEs.reads (I : Inv X pins σ H s) (y : Sys H) : ∀ (ds : List PyData) (vs : List V) (us : List Value), DpEs X.K H vs ds → Vals vs us → ∃ as, ReadsAll s.heap us ds as ∧ sysModules ∉ as
  | [], _, _, h, r => by
    cases h
    cases r
    exact ⟨_, ReadsAll.nil, List.not_mem_nil⟩
  | d :: ds, _, _, h, r => by
    cases h with
    | cons h1 h2 =>
      cases r with
      | cons r1 r2 =>
        obtain ⟨as, q1, n1⟩ := DpE.reads I y d _ _ h1 r1
        obtain ⟨bs, q2, n2⟩ := DpEs.reads I y ds _ _ h2 r2
        exact ⟨_, ReadsAll.cons q1 q2, fun z => (List.mem_append.mp z).elim n1 n2⟩
end
end
/-- what can be written out -/
structure FineE (n W : Nat) (d : PyData) : Prop where
  sh : d.showable = true
  ls : d.leavesShort 80 = true
  dp : d.depth ≤ n
  wt : d.weight ≤ W
theorem Fine.e {n W : Nat} {d : PyData} (h : Fine n W d) : FineE n W d := ⟨h.sh, h.ls, h.dp, h.wt⟩
structure FineEs (n W : Nat) (ds : List PyData) : Prop where
  sh : PyData.showableAll ds = true
  ls : PyData.leavesShortAll 80 ds = true
  dp : PyData.depthAll ds ≤ n
  wt : PyData.weightAll ds ≤ ds.length * (W + 1)
theorem FineEs.of {n W : Nat} : ∀ {ds : List PyData}, (∀ d ∈ ds, FineE n W d) → FineEs n W ds
  | [], _ => ⟨rfl, rfl, Nat.zero_le _, Nat.zero_le _⟩
  | d :: ds, h => by
    have a := h d (List.mem_cons_self ..)
    have b := FineEs.of (ds := ds) fun e he => h e (List.mem_cons_of_mem _ he)
    refine ⟨?_, ?_, Nat.max_le.mpr ⟨a.dp, b.dp⟩, ?_⟩
    · show (d.showable && PyData.showableAll ds) = true
      rw [a.sh, b.sh]
      rfl
    · show (d.leavesShort 80 && PyData.leavesShortAll 80 ds) = true
      rw [a.ls, b.ls]
      rfl
    · show d.weight + 1 + PyData.weightAll ds ≤ (ds.length + 1) * (W + 1)
      have := a.wt
      have := b.wt
      rw [Nat.succ_mul]
      omega
theorem FineEs.list {n W : Nat} {ds : List PyData} (a : FineEs n W ds) : FineE (n + 1) (ds.length * (W + 1)) (.list ds) := ⟨a.sh, a.ls, Nat.succ_le_succ a.dp, a.wt⟩
theorem FineEs.tup {n W : Nat} {ds : List PyData} (a : FineEs n W ds) : FineE (n + 1) (ds.length * (W + 1)) (.tuple ds) := ⟨a.sh, a.ls, Nat.succ_le_succ a.dp, a.wt⟩
theorem FineE.mono {n m W Z : Nat} {d : PyData} (h : FineE n W d) (a : n ≤ m) (b : W ≤ Z) : FineE m Z d := ⟨h.sh, h.ls, Nat.le_trans h.dp a, Nat.le_trans h.wt b⟩
theorem FineE.dict0 : FineE 1 0 (.dict []) := ⟨rfl, rfl, Nat.le_refl _, Nat.le_refl _⟩
theorem FineE.fits {d : PyData} (h : FineE 60 100000 d) : d.shown.length ≤ sizeLine := by
  have a := PyData.shown_le 80 (by decide) d h.ls
  have b := h.wt
  have c : (80 + 2) * d.weight ≤ 82 * 100000 := Nat.mul_le_mul_left _ b
  have e : sizeLine = 16777216 := by decide
  omega
section
variable {X : Cx}
/-- repr of a list or tuple that may hold empty dicts -/
theorem call_reprE (quiet : X.A.guards = some []) (hu : X.A.units + 64 < cLine) : CallR X (.builtin "repr") (fun xs H Q => ∃ (a : Addr) (d : PyData), xs = [.ref a] ∧ Sys H ∧ DpE X.K H (.ref a) d ∧ FineE 60 100000 d ∧ Q (.str d.shown) H) := by
  intro pins s σ H xs us Q I r h
  obtain ⟨a, d, rfl, y, hd, fine, q⟩ := h
  cases r with
  | cons r rr =>
    cases rr
    cases (show _ = Value.ref a from r)
    obtain ⟨as, rd, nas⟩ := DpE.reads I y d (.ref a) (.ref a) hd rfl
    have dp := fine.dp
    exact repr_of_reads' rd fine.sh (fun _ => nas) quiet (by omega) (fun _ _ e => e) (fun g u tk keep => ⟨.str d.shown, H, I.kept (t' := tk) keep, ⟨_, rfl⟩, q⟩) fine.fits
end
end Gu
namespace Gu
open PySem PySem.Spec PyProof.Rows L2 LamX
/-! ### the law's end where defs make lambdas: their tables are tracked -/
abbrev tabNil : Obj := { cls := .none, data := .fields #[] }
theorem quiet_endT {P : Program} {w : World} {K : PySem.W.Frag} {mg mb : Str → Option Value} {k : Nat} {fa a : Addr} {cs : List (Addr × Addr)} {fd : FuncData} {x : Str} {sp : Sp} {s : Shared} {us : List Value} {H : Hp} (inK : K.In s.heap) (nsG : s.heap.Ns mainGlobals mg) (nsB : s.heap.Ns builtinsNs mb)
    (bb : ∀ x : Str, x ≠ "__name__" → mb x = bootBuiltins x) (nl : s.heap.NoLimit) (ng : s.gens = #[]) (at_a : s.heap.get? a = some { cls := .type "list", data := .seq us.toArray }) (room : Room k callerA)
    (tabs : ∀ p ∈ cs, PySem.W.CodeHd s.heap p.1 p.2 ∧ s.heap.get? p.2 = some tabNil ∧ K.lookup p.2 = none)
    (bm : ∃ (m : Addr) (ob : Obj), mg "__builtins__" = some (.ref m) ∧ m ≠ builtinsNs ∧ s.heap.get? m = some ob ∧ ob.cls = .type "module" ∧ ob.dict = some builtinsNs ∧ ob.data = .plain)
    (F : ∀ base : Heap, K.In base → base.Ns mainGlobals mg → (∀ p ∈ cs, TabB base mg p.1 p.2) → FnG P w K mg base k fa fd [x] sp) (bind : ∀ (s : Shared) (u : Value), BindsTo s fd ⟨[u], []⟩ [(x, u)]) (want : sp [.ref a] H (fun v _ => v = .bl true) fun _ _ _ => False)
    (sys : ∃ o es n, s.heap.get? sysModules = some o ∧ o.data = .dict es n) (noSys : K.lookup sysModules = none)
    (hH : ∀ p ∈ cs, H p.2 = some (.tbl #[])) (kinds : ∀ c, H c = none ∨ c ∈ cs.map (·.2) ∨ ∃ o u, H c = some (.frz o u)) (ok : HOk P w H s.heap) (one : ∀ c, H c ≠ none → (c = a ∧ K.lookup a = none) ∨ c ∈ cs.map (·.2) ∨ c = sysModules) :
    codeAny (model P w) callerA (.call (.ref fa) ⟨[.ref a], []⟩) (fun r s2 => r = .ok (.ret (.bool true)) ∧ OldK s.heap s2.heap ∧ s2.os = s.os ∧ AllBare s2.gens) s := by
  have isTab : ∀ c ∈ cs.map (·.2), s.heap.get? c = some tabNil := fun c hc => by
    obtain ⟨p, hp, rfl⟩ := List.mem_map.mp hc
    exact (tabs p hp).2.1
  have hides : ∀ (c : Addr) (o : Obj), s.heap.get? c = some o → (∀ vs n, o.data ≠ .seq vs n) → o.data ≠ .fields #[] → c ≠ sysModules → H c = none := fun c o e n1 n2 n3 => Classical.byContradiction fun z => by
    rcases one c z with ⟨rfl, _⟩ | hc | hc
    · rw [at_a] at e
      cases e
      exact n1 _ _ rfl
    · rw [isTab c hc] at e
      cases e
      exact n2 rfl
    · exact n3 hc
  have notSys : ∀ (c : Addr) (o : Obj), s.heap.get? c = some o → (∀ es n, o.data ≠ .dict es n) → c ≠ sysModules := fun c o e n1 z => by
    obtain ⟨o2, es, n, e2, d2⟩ := sys
    rw [z, e2] at e
    cases e
    exact n1 _ _ d2
  have hidNs : ∀ (c : Addr) (m : Str → Option Value), c ≠ sysModules → s.heap.Ns c m → (hidT s.heap H).Ns c m := fun c m nc h => by
    obtain ⟨o, es, ep, e, d, r⟩ := h
    exact ⟨o, es, ep, hidT_get e (hides c o e (fun vs n z => by rw [d] at z; cases z) (fun z => by rw [d] at z; cases z) nc), d, r⟩
  have hidK : K.In (hidT s.heap H) := fun c o e => hidT_get (inK c o e) (Classical.byContradiction fun z => by
    rcases one c z with ⟨h1, h2⟩ | hc | hc
    · rw [h1, h2] at e
      cases e
    · obtain ⟨p, hp, rfl⟩ := List.mem_map.mp hc
      rw [(tabs p hp).2.2] at e
      cases e
    · rw [hc, noSys] at e
      cases e)
  have g1 := hidNs mainGlobals mg (by decide) nsG
  have g2 := hidNs builtinsNs mb (by decide) nsB
  have env : Env0 P w K mg (hidT s.heap H) callerA [] s H := by
    refine ⟨rfl, ⟨hidK, g1, ⟨mb, g2, bb⟩, ?_⟩, fun c o e => of_hidT e, Nat.le_of_eq (hidT_size _ _), trivial, fun c hc => absurd (show c ∈ ([] : List Addr) from hc) List.not_mem_nil, ok, .of_eq ng⟩
    obtain ⟨mc, h1, h2⟩ := nl
    exact ⟨mc, hidNs _ _ (by decide) h1, h2⟩
  have tb : ∀ p ∈ cs, TabB (hidT s.heap H) mg p.1 p.2 := fun p hp => by
    obtain ⟨hd, hT, _⟩ := tabs p hp
    refine ⟨?_, ?_, fun z => ?_⟩
    · obtain ⟨o, vs, file, tf, fl, tg, inF, tx, tt, e1, e2, e3, e4, rest⟩ := hd
      refine ⟨o, vs, file, tf, fl, tg, inF, tx, tt, hidT_get e1 (hides _ o e1 (fun us n z => by rw [e3] at z; cases z) (fun z => ?_) (notSys _ o e1 fun es n z => by rw [e3] at z; cases z)), e2, e3, e4, rest⟩
      rw [e3] at z
      cases z
      simp at e4
    · obtain ⟨m, ob, m1, m2, m3, m4, m5, m6⟩ := bm
      refine ⟨m, ob, m1, m2, fun z => ?_, fun z => ?_, hidT_get m3 (hides _ ob m3 (fun us n z => by rw [m6] at z; cases z) (fun z => by rw [m6] at z; cases z) (notSys _ ob m3 fun es n z => by rw [m6] at z; cases z)), m4, m5, m6⟩
      · obtain ⟨o, es, ep, e, d, _⟩ := nsG
        rw [z, e] at m3
        cases m3
        rw [d] at m6
        cases m6
      · rw [z, hT] at m3
        cases m3
        cases m6
    · obtain ⟨o, es, ep, e, d, _⟩ := nsG
      rw [z, hT] at e
      cases e
      cases d
  refine codeAny_mono ((F _ hidK g1 tb).run callerA [] s H ⟨[.ref a], []⟩ [.ref a] [.ref a] _ _ room rfl env (bind s (.ref a)) (.cons rfl .nil) want) fun r s2 h2 => ?_
  cases r with
  | error e => exact (h2 : False).elim
  | ok fl =>
    cases fl with
    | next => exact (h2 : False).elim
    | brk => exact (h2 : False).elim
    | cont => exact (h2 : False).elim
    | ret u =>
      obtain ⟨v, G, os, bare, un, ok2, rv, hv⟩ := h2
      cases (show v = .bl true from hv)
      cases (show u = Value.bool true from rv)
      have stays : ∀ c o, c ∉ cs.map (·.2) → s.heap.get? c = some o → s2.heap.get? c = some o := fun c o nc e => by
        rcases kinds c with z | z | ⟨ob, xs, z⟩
        · exact un.keep c o e z (fun y => absurd (show c ∈ ([] : List Addr) from y) List.not_mem_nil) (by simp)
        · exact absurd z nc
        · have e1 := (ok c _ z).1
          have e2 := (ok2 c _ (un.frzs c ob _ z)).1
          rw [e] at e1
          cases e1
          exact e2
      have grows : ∀ p ∈ cs, ∃ more : Array Value, s2.heap.get? p.2 = some { cls := .none, data := .fields more } := fun p hp => by
        obtain ⟨more, z⟩ := un.tbls p.2 #[] (hH p hp)
        exact ⟨_, ok2 p.2 _ z⟩
      refine ⟨rfl, ⟨fun c o e => ?_, fun c o e => ?_⟩, os, bare⟩
      · by_cases hc : c ∈ cs.map (·.2)
        · obtain ⟨p, hp, rfl⟩ := List.mem_map.mp hc
          obtain ⟨more, hm⟩ := grows p hp
          rw [isTab _ hc] at e
          cases e
          exact .inr (.inl ⟨((tabs p hp).1.tab (tabs p hp).2.1).isCodeTable, rfl, #[], more, rfl, by rw [Array.empty_append]; exact hm⟩)
        · exact .inl (stays c o hc e)
      · by_cases hc : c ∈ cs.map (·.2)
        · obtain ⟨p, hp, rfl⟩ := List.mem_map.mp hc
          obtain ⟨more, hm⟩ := grows p hp
          exact ⟨_, hm⟩
        · exact ⟨o, stays c o hc e⟩
theorem quiet_callT {P : Program} {w : World} {K : PySem.W.Frag} {mg mb : Str → Option Value} {k : Nat} {fa a : Addr} {cs : List (Addr × Addr)} {fd : FuncData} {x : Str} {sp : Sp} {s : Shared} {us : List Value} {ns : List Int} (inK : K.In s.heap) (nsG : s.heap.Ns mainGlobals mg) (nsB : s.heap.Ns builtinsNs mb)
    (bb : ∀ x : Str, x ≠ "__name__" → mb x = bootBuiltins x) (nl : s.heap.NoLimit) (ng : s.gens = #[]) (at_a : s.heap.get? a = some { cls := .type "list", data := .seq us.toArray }) (nums : IntsAre us ns) (small : ns.length ≤ sizeLine) (room : Room k callerA)
    (tabs : ∀ p ∈ cs, PySem.W.CodeHd s.heap p.1 p.2 ∧ s.heap.get? p.2 = some tabNil ∧ K.lookup p.2 = none)
    (bm : ∃ (m : Addr) (ob : Obj), mg "__builtins__" = some (.ref m) ∧ m ≠ builtinsNs ∧ s.heap.get? m = some ob ∧ ob.cls = .type "module" ∧ ob.dict = some builtinsNs ∧ ob.data = .plain)
    (F : ∀ base : Heap, K.In base → base.Ns mainGlobals mg → (∀ p ∈ cs, TabB base mg p.1 p.2) → FnG P w K mg base k fa fd [x] sp) (bind : ∀ (s : Shared) (u : Value), BindsTo s fd ⟨[u], []⟩ [(x, u)])
    (sys : ∃ o es n, s.heap.get? sysModules = some o ∧ o.data = .dict es n) (noSys : K.lookup sysModules = none)
    (want : ∀ H : Hp, (∀ p ∈ cs, H p.2 = some (.tbl #[])) → Sys H → SqL K H a (ns.map V.int) → sp [.ref a] H (fun v _ => v = .bl true) fun _ _ _ => False) :
    codeAny (model P w) callerA (.call (.ref fa) ⟨[.ref a], []⟩) (fun r s2 => r = .ok (.ret (.bool true)) ∧ OldK s.heap s2.heap ∧ s2.os = s.os ∧ AllBare s2.gens) s := by
  have rel := vals_ints nums
  have isTab : ∀ c ∈ cs.map (·.2), s.heap.get? c = some tabNil := fun c hc => by
    obtain ⟨p, hp, rfl⟩ := List.mem_map.mp hc
    exact (tabs p hp).2.1
  have na : a ∉ cs.map (·.2) := fun z => by
    have q := isTab a z
    rw [at_a] at q
    cases q
  have mem : ∀ p ∈ cs, p.2 ∈ cs.map (·.2) := fun p hp => List.mem_map.mpr ⟨p, hp, rfl⟩
  obtain ⟨so, ses, sn, sg, sd⟩ := id sys
  have ns1 : sysModules ∉ cs.map (·.2) := fun z => by
    have q := isTab _ z
    rw [sg] at q
    cases q
    cases sd
  have ns2 : a ≠ sysModules := fun z => by
    rw [z, sg] at at_a
    cases at_a
    cases sd
  let T : Hp := upd (fun c => if c ∈ cs.map (·.2) then some (.tbl #[]) else none) sysModules (.frz so (.ext fun h => ∃ o, h.get? sysModules = some o))
  have tS : T sysModules = some (.frz so (.ext fun h => ∃ o, h.get? sysModules = some o)) := upd_same
  have tIn : ∀ {c}, c ∈ cs.map (·.2) → T c = some (.tbl #[]) := fun {c} hc => by
    show upd _ _ _ c = _
    rw [upd_ne fun z => ns1 (by rw [← z]; exact hc)]
    exact if_pos hc
  have tOut : ∀ {c}, c ∉ cs.map (·.2) → c ≠ sysModules → T c = none := fun {c} hc hn => by
    show upd _ _ _ c = _
    rw [upd_ne hn]
    exact if_neg hc
  have tKind : ∀ c, T c = none ∨ c ∈ cs.map (·.2) ∨ ∃ o u, T c = some (.frz o u) := fun c => by
    by_cases hc : c ∈ cs.map (·.2)
    · exact .inr (.inl hc)
    · by_cases hs : c = sysModules
      · exact .inr (.inr ⟨_, _, by rw [hs]; exact tS⟩)
      · exact .inl (tOut hc hs)
  have tOk : ∀ (H : Hp) c u, T c = some u → ObjOk P w H s.heap c u := fun H c u z => by
    by_cases hc : c ∈ cs.map (·.2)
    · rw [tIn hc] at z
      cases z
      exact isTab c hc
    · by_cases hs : c = sysModules
      · subst hs
        rw [tS] at z
        cases z
        exact ⟨sg, ⟨so, sg⟩, ⟨so, sg⟩, fun h1 h2 ⟨o, e⟩ k => ⟨o, k o e⟩⟩
      · rw [tOut hc hs] at z
        cases z
  have tOne : ∀ c, T c ≠ none → c ∈ cs.map (·.2) ∨ c = sysModules := fun c z => by
    by_cases hc : c ∈ cs.map (·.2)
    · exact .inl hc
    · by_cases hs : c = sysModules
      · exact .inr hs
      · exact absurd (tOut hc hs) z
  cases hk : K.lookup a with
  | some o =>
    have e := inK a o hk
    rw [at_a] at e
    cases e
    have hS : SqL K T a (ns.map V.int) := .inr ⟨_, us.toArray, _, hk, rfl, rfl, rfl, by rw [List.size_toArray, nums.length]; exact small, rel⟩
    exact quiet_endT (H := T) inK nsG nsB bb nl ng at_a room tabs bm F bind (want T (fun p hp => tIn (mem p hp)) ⟨_, _, tS⟩ hS) sys noSys (fun p hp => tIn (mem p hp)) tKind (fun c u z => tOk T c u z) fun c z => .inr (tOne c z)
  | none =>
    have hS : SqL K (upd T a (.frz { cls := .type "list", data := .seq us.toArray } (.lst (ns.map V.int)))) a (ns.map V.int) := .inl (.inr ⟨_, upd_same⟩)
    have up : ∀ p ∈ cs, upd T a (.frz { cls := .type "list", data := .seq us.toArray } (.lst (ns.map V.int))) p.2 = some (.tbl #[]) := fun p hp => by
      rw [upd_ne fun z => na (by rw [← z]; exact mem p hp)]
      exact tIn (mem p hp)
    refine quiet_endT (H := upd T a (.frz { cls := .type "list", data := .seq us.toArray } (.lst (ns.map V.int)))) inK nsG nsB bb nl ng at_a room tabs bm F bind (want _ up ⟨_, _, by rw [upd_ne ns2.symm]; exact tS⟩ hS) sys noSys up (fun c => ?_) (fun c u z => ?_) fun c z => ?_
    · by_cases hc : c = a
      · exact .inr (.inr ⟨_, _, by rw [hc]; exact upd_same⟩)
      · rw [upd_ne hc]
        exact tKind c
    · by_cases hc : c = a
      · subst hc
        rw [upd_same] at z
        cases z
        exact ⟨at_a, by rw [List.length_map]; exact small, us, _, rel, at_a⟩
      · rw [upd_ne hc] at z
        exact tOk _ c u z
    · by_cases hc : c = a
      · exact .inl ⟨hc, hk⟩
      · rw [upd_ne hc] at z
        exact .inr (tOne c z)
theorem sys_there {h : Heap} (n : h.NoSeer) : ∃ o es ep, h.get? sysModules = some o ∧ o.data = .dict es ep := by
  obtain ⟨mm, ⟨o, es, ep, e, d, _⟩, _⟩ := n.mods
  exact ⟨o, es, ep, e, d⟩
/-- what the head tells of the tables of the defs of q -/
def TabsOf (q : Program) (K : PySem.W.Frag) (h : Heap) : Prop := ∀ (x : Str) (d : DefRec) (c P : Addr), (recsOf q).find? (fun e => e.name == x) = some d → PySem.W.tabIn K x = some (c, P) → PySem.W.CodeHd h c P ∧ h.get? P = some tabNil
theorem walkGT {l : PySem.W.OpenLaw} {n k : Nat} {q : Program} {loose : List Str} {XP : (Str → Option Value) → Heap → Prop} {YP : World → Heap → Prop} {d : DefRec} {K : Params → PySem.W.Frag} {x : Str} (most : l.most = some n) (small : n ≤ sizeLine) (plain : d.params.defaults = []) (room : Room k callerA) (alone : importsNone q = true) (noSys : ∀ w : World, (K w.params).lookup sysModules = none)
    (left : ∀ (w : World) (h : Heap), YP w h → (K w.params).In h)
    (F : ∀ (w : World) (mg : Str → Option Value) (fa : Addr) (h : Heap), (K w.params).In h → h.Ns mainGlobals mg → TabsOf q (K w.params) h → mg d.name = some (.ref fa) → ∃ (fd : FuncData) (cs : List (Addr × Addr)) (sp : Sp), (∀ p ∈ cs, PySem.W.CodeHd h p.1 p.2 ∧ h.get? p.2 = some tabNil ∧ (K w.params).lookup p.2 = none) ∧ (∀ (s : Shared) (u : Value), BindsTo s fd ⟨[u], []⟩ [(x, u)]) ∧
      (∀ (H : Hp) (a : Addr) (ns : List Int), ns.length ≤ n → (∀ p ∈ cs, H p.2 = some (.tbl #[])) → Sys H → SqL (K w.params) H a (ns.map V.int) → sp [.ref a] H (fun v _ => v = .bl true) fun _ _ _ => False) ∧
      ∀ base : Heap, (K w.params).In base → base.Ns mainGlobals mg → (∀ p ∈ cs, TabB base mg p.1 p.2) → FnG l.prog w (K w.params) mg base k fa fd [x] sp) :
    PySem.W.WalkO q loose XP YP l.row.toRowW d [] (fun f vs => PySem.call f vs) := by
  refine Att.attach_call most plain fun w s0 s mg mb fa o pm cd doc a us ns G Y ho hd hcd hmg at_a nums le ng => ?_
  have inK := left w _ Y
  obtain ⟨fd, cs, sp, tabs, bind, want, fn⟩ := F w mg fa _ inK G.T.g (fun x d c P h1 h2 => PySem.W.tab_of G.T inK h1 h2) hmg
  exact quiet_callT inK G.T.g G.T.b G.T.builtins G.T.nolimit ng at_a nums (Nat.le_trans le small) room tabs G.T.bmain fn bind (sys_there (G.T.seer alone)) (noSys w) fun H hH hY hS => want H a ns le hH hY hS
end Gu
namespace Gu
open PySem PySem.Spec PyProof.Rows L2
section
variable {P : Program} {w : World} {K : PySem.W.Frag} {mg : Str → Option Value} {base : Heap}
/-! ### _law_ladle -/
def spLadle : Sp := fun vs H Q _ => ∃ (p : Addr) (m : Int), vs = [.ref p, .int m] ∧ Pot H p ∧ 0 < m ∧ m < 1000000 ∧ ∀ d G, 0 ≤ d → d < m → Ladled p H G → Q (.int d) G
theorem cal_ladle (B : Bi mg) (D : At K mg "_law_ladle" s_law_ladle ps_law_ladle) : Cal P w K mg base 1 "_law_ladle" ps_law_ladle spLadle := by
  refine D.cal sc_law_ladle (fun vs H Q E h => ?_) (fun f cdv A outer s H vs Q E hr h => ?_)
  · obtain ⟨p, m, rfl, _⟩ := h
    rfl
  · obtain ⟨p, m, rfl, ⟨x, y, z, hp⟩, m0, m1, k⟩ := h
    refine ⟨_, (pss_cons (ps_asg (pe_op op_add (pe_ix ix_list (pv 0) pe_int (fun _ _ => rfl)) pe_int) (pg_sub (pv 0) pe_int set_list))
      (pss_cons (ps_if (pt_cmpR op_gt (pe_ix ix_list (pv 0) pe_int (fun _ _ => rfl)) pe_int (nomark _)) (pss_cons (ps_asg (pe_callB call_divmod (by rfl) B.divmod (by decide +kernel) (pa_cons (pe_callTy call_int1 (by rfl) B.int (by decide +kernel) (pa_cons (pe_ix ix_list (pv 0) pe_int (fun _ _ => rfl)) pa_nil)) (pa_cons (pv 1) pa_nil))) (pg_tup rfl (pgs_cons (pg_sub (pv 0) pe_int set_list) (pgs_cons (pg_name (i := 2) sc_law_ladle.nd rfl (.inl rfl)) pgs_nil))))
      (pss_one (ps_ret (pv 2)))) pss_nil)
      (pss_cons (ps_asg (pe_op op_mod (pe_callTy call_int1 (by rfl) B.int (by decide +kernel) (pa_cons (pe_op op_add (pe_op op_add (pe_op op_mul (pe_ix ix_list (pv 0) pe_int (fun _ _ => rfl)) pe_int) (pe_op op_mul (pe_ix ix_list (pv 0) pe_int (fun _ _ => rfl)) pe_int)) (pe_op op_mul (pe_op op_fdiv (pe_ix ix_list (pv 0) pe_int (fun _ _ => rfl)) pe_int) pe_int)) pa_nil)) pe_int) (pg_sub (pv 0) pe_int set_list))
      (pss_one (ps_ret (pe_op op_mod (pe_callTy call_int1 (by rfl) B.int (by decide +kernel) (pa_cons (pe_op op_fdiv (pe_ix ix_list (pv 0) pe_int (fun _ _ => rfl)) pe_int) pa_nil)) (pv 1))))))), ?_⟩
    refine ⟨_, rfl, p, _, _, _, rfl, rfl, .inl (.inl hp), (rfl : atI [V.int x, V.int y, V.int z] 1 = some (V.int y)), _, _, rfl, rfl, _, rfl, p, _, _, 1, rfl, rfl, hp, rfl, ?_⟩
    have h1 : upd H p (.lst ([V.int x, V.int y, V.int z].set 1 (.int (y + 3)))) p = some (.lst [.int x, .int (y + 3), .int z]) := upd_same
    refine ⟨_, rfl, p, _, _, _, rfl, rfl, .inl (.inl h1), (rfl : atI [V.int x, V.int (y + 3), V.int z] 0 = some (V.int x)), _, _, rfl, rfl, _, rfl, ite2 (fun _ => ?_) (fun _ => ?_)⟩
    · refine ⟨_, rfl, p, _, _, _, rfl, rfl, .inl (.inl h1), (rfl : atI [V.int x, V.int (y + 3), V.int z] 0 = some (V.int x)), .inl ⟨_, rfl, _, rfl, _, _, rfl, ⟨m0, by omega⟩, fun q hq => ?_⟩⟩
      have npq : p ≠ q := ne_of_none h1 hq
      refine ⟨q, _, rfl, .inl (.inl upd_same), rfl, _, _, rfl, ⟨_, rfl, p, _, _, 0, rfl, rfl, (by rw [upd_ne npq]; exact h1), rfl, _, _, rfl, rfl, ?_⟩⟩
      refine ⟨_, rfl, ?_⟩
      refine k (x % m) _ (Int.emod_nonneg _ (by omega)) (Int.emod_lt_of_pos _ m0) ⟨⟨_, _, _, upd_same⟩, fun b o e n => ?_⟩
      have hb : upd H p (.lst ([V.int x, V.int y, V.int z].set 1 (.int (y + 3)))) b = some o := by rw [upd_ne n]; exact e
      rw [upd_ne n, upd_ne (ne_of_none hb hq), upd_ne n]
      exact e
    · refine ⟨_, rfl, p, _, _, _, rfl, rfl, .inl (.inl h1), (rfl : atI [V.int x, V.int (y + 3), V.int z] 2 = some (V.int z)), _, _, rfl, rfl, .inr ⟨by decide, by decide⟩, _, rfl, p, _, _, _, rfl, rfl, .inl (.inl h1), (rfl : atI [V.int x, V.int (y + 3), V.int z] 1 = some (V.int (y + 3))), _, _, rfl, rfl, .inr ⟨by decide, by decide⟩, _, _, rfl, rfl, ?_⟩
      refine ⟨_, rfl, p, _, _, _, rfl, rfl, .inl (.inl h1), (rfl : atI [V.int x, V.int (y + 3), V.int z] 2 = some (V.int z)), _, _, rfl, rfl, ⟨by decide, by decide⟩, _, _, rfl, rfl, .inr ⟨by decide, by decide⟩, _, _, rfl, rfl, .inl ⟨_, rfl, _, _, rfl, rfl, (by decide : (0 : Int) < 1999999889), ?_⟩⟩
      refine ⟨_, rfl, p, _, _, 2, rfl, rfl, h1, rfl, ?_⟩
      refine ⟨_, rfl, p, _, _, _, rfl, rfl, .inl (.inl upd_same), rfl, _, _, rfl, rfl, ⟨by decide, by decide⟩, .inl ⟨_, rfl, _, rfl, _, _, rfl, rfl, m0, ?_⟩⟩
      refine k _ _ (Int.emod_nonneg _ (by omega)) (Int.emod_lt_of_pos _ m0) ⟨⟨_, _, _, upd_same⟩, fun b o e n => ?_⟩
      rw [upd_ne n, upd_ne n]
      exact e
/-! ### _law_one_of: of a list or of a text -/
def spOneOf (K : PySem.W.Frag) : Sp := fun vs H Q _ => ∃ (p : Addr), Pot H p ∧
  ((∃ (l : Addr) (xs : List V), vs = [.ref p, .ref l] ∧ SqL K H l xs ∧ l ≠ p ∧ 0 < xs.length ∧ xs.length < 1000 ∧ ∀ v G, v ∈ xs → Ladled p H G → Q v G) ∨
   (∃ (z : Str), vs = [.ref p, .str z] ∧ 0 < z.cps.toList.length ∧ z.cps.toList.length < 1000 ∧ ∀ c G, c ∈ z.cps.toList → Ladled p H G → Q (.str ⟨#[c]⟩) G))
theorem Ladled.seq {K : PySem.W.Frag} {H G : Hp} {p l : Addr} {xs : List V} (a : Ladled p H G) (n : l ≠ p) (h : SqL K H l xs) : SqL K G l xs := by
  rcases h with (h | ⟨o, h⟩) | h
  · exact .inl (.inl (a.keep _ _ h n))
  · exact .inl (.inr ⟨o, a.keep _ _ h n⟩)
  · exact .inr h
theorem at_in {α : Type} {xs : List α} {d : Int} (h0 : 0 ≤ d) (h1 : d < (xs.length : Int)) : ∃ v, v ∈ xs ∧ atI xs d = some v := by
  obtain ⟨j, rfl⟩ := Int.eq_ofNat_of_zero_le h0
  have hj : j < xs.length := by omega
  exact ⟨xs[j], List.getElem_mem hj, atI_nat (List.getElem?_eq_getElem hj)⟩
theorem cal_oneOf (B : Bi mg) (D : At K mg "_law_one_of" s_law_one_of ps_law_one_of) (C_law_ladle : Cal P w K mg base 1 "_law_ladle" ps_law_ladle spLadle) : Cal P w K mg base 2 "_law_one_of" ps_law_one_of (spOneOf K) := by
  refine D.cal sc_law_one_of (fun vs H Q E h => ?_) (fun f cdv A outer s H vs Q E hr h => ?_)
  · obtain ⟨p, _, ⟨l, xs, rfl, _⟩ | ⟨z, rfl, _⟩⟩ := h
    · rfl
    · rfl
  · refine ⟨_, (pss_one (ps_ret (pe_ix ix_seq (pv 1) (pe_own C_law_ladle hr (by decide) (by rfl) (pa_cons (pv 0) (pa_cons (pe_callB call_len (by rfl) B.len (by decide +kernel) (pa_cons (pv 1) pa_nil)) pa_nil))) (fun _ _ => rfl)))), ?_⟩
    obtain ⟨p, hp, ⟨l, xs, rfl, hl, np, l0, l1, k⟩ | ⟨z, rfl, l0, l1, k⟩⟩ := h
    · refine ⟨_, rfl, _, rfl, _, rfl, _, _, rfl, .inl ⟨_, hl, rfl⟩, p, _, rfl, hp, by omega, by omega, fun d G d0 d1 L => ?_⟩
      obtain ⟨v, hv, ha⟩ := at_in (xs := xs) d0 d1
      exact .inl ⟨l, xs, d, v, rfl, rfl, L.seq np hl, ha, k v G hv L⟩
    · have ez : z.length = z.cps.toList.length := rfl
      refine ⟨_, rfl, _, rfl, _, rfl, _, _, rfl, ⟨Nat.le_of_lt (small1000 (by omega)), rfl⟩, p, _, rfl, hp, by omega, by omega, fun d G d0 d1 L => ?_⟩
      obtain ⟨c, hc, ha⟩ := at_in (xs := z.cps.toList) d0 (by omega)
      exact .inr (.inr ⟨z, d, c, rfl, rfl, Nat.le_of_lt (small1000 (by omega)), ha, k c G hc L⟩)
/-! ### _law_pot -/
def spPot (K : PySem.W.Frag) : Sp := fun vs H Q _ => ∃ (a : Addr) (k : Nat) (ns : List Int), vs = [.ref a, .int (k : Int)] ∧ SqL K H a (ns.map V.int) ∧ k < 1000 ∧ ∀ p G, H p = none → Pot G p → Same H G → Q (.ref p) G
theorem cal_pot (B : Bi mg) (D : At K mg "_law_pot" s_law_pot ps_law_pot) : Cal P w K mg base 1 "_law_pot" ps_law_pot (spPot K) := by
  refine D.cal sc_law_pot (fun vs H Q E h => ?_) (fun f cdv A outer s H vs Q E hr h => ?_)
  · obtain ⟨a, k, ns, rfl, _⟩ := h
    rfl
  · obtain ⟨a, k, ns, rfl, hS, hk, q⟩ := h
    refine ⟨_, (pss_cons (ps_set (i := 2) sc_law_pot.nd rfl (.inl rfl) (pe_mid (pe_ifExp (pt_cmpR op_lt (pv 1) (pe_callB call_len_seq (by rfl) B.len (by decide +kernel) (pa_cons (pv 0) pa_nil)) (nomark _)) (pe_callTy call_int1 (by rfl) B.int (by decide +kernel) (pa_cons (pe_ix ix_list (pv 0) (pv 1) (fun _ _ => rfl)) pa_nil)) (pe_op op_add (pe_op op_mul pe_int (pv 1)) pe_int))))
      (pss_cons (ps_set (i := 3) sc_law_pot.nd rfl (.inl rfl) (pe_op op_add pe_int (pe_op op_mul pe_int (pv 1))))
      (pss_cons (ps_for PassesOwn.never rfl (pi_list (pe_slice sl_list (pv 0) po_none (po_some pe_int))) (pg_name (i := 4) sc_law_pot.nd rfl (.inl rfl))
      (pss_one (ps_set (i := 3) sc_law_pot.nd rfl (.inl rfl) (pe_op op_mod (pe_callTy call_int1 (by rfl) B.int (by decide +kernel) (pa_cons (pe_op op_add (pe_op op_mul (pv 3) pe_int) (pe_op op_mod (pe_callTy call_int1 (by rfl) B.int (by decide +kernel) (pa_cons (pv 4) pa_nil)) pe_int)) pa_nil)) pe_int))))
      (pss_one (ps_ret (pe_lst (pa_cons (pe_mid (pe_ifExp (PW.pt (pw_or (pt_cmpR op_lt (pv 2) pe_int (nomark _)) (pw_or1 (pt_cmpR op_ge (pv 2) (pe_op op_pow pe_int pe_int) (nomark _))))) (pe_callB call_abs (by rfl) B.abs (by decide +kernel) (pa_cons (pv 2) pa_nil)) pe_int)) (pa_cons pe_int (pa_cons (pe_op op_mod (pe_callTy call_int1 (by rfl) B.int (by decide +kernel) (pa_cons (pe_op op_add (pe_op op_mul (pv 3) pe_int) (pe_op op_mod (pv 2) pe_int)) pa_nil)) pe_int) pa_nil))))))))), ?_⟩
    refine ⟨fun v G => (∃ i : Int, v = .int i) ∧ G = H, ?_, ?_⟩
    · refine ⟨_, rfl, _, rfl, a, _, rfl, .inl hS, _, _, rfl, rfl, _, rfl, ite2 (fun e => ?_) (fun _ => ?_)⟩
      · have hlt := of_decide_eq_true e
        have hj : k < ns.length := by
          rw [List.length_map] at hlt
          omega
        refine ⟨_, rfl, _, rfl, a, _, _, _, rfl, rfl, hS, atI_nat (j := k) (v := .int ns[k]) (by rw [List.getElem?_map, List.getElem?_eq_getElem hj]; rfl), .inl ⟨_, rfl, ⟨_, rfl⟩, rfl⟩⟩
      · refine ⟨_, rfl, _, _, rfl, rfl, .inl ⟨by decide, by decide⟩, _, _, rfl, rfl, ⟨_, rfl⟩, rfl⟩
    · rintro _ H0 ⟨⟨own, rfl⟩, eH⟩
      subst eH
      refine ⟨_, rfl, _, _, rfl, rfl, .inl ⟨by decide, by decide⟩, _, _, rfl, rfl, ?_⟩
      refine ⟨_, rfl, 14, rfl, a, _, rfl, hS, fun c nc => ?_⟩
      have sc : Same H0 (upd H0 c (.lst (cutV (ns.map V.int) none (some 14)))) := same_new nc
      have hC : cutV (ns.map V.int) none (some 14) = (ns.take 14).map V.int := by
        unfold cutV
        rw [HT.sIx_none, show HT.sIx (ns.map V.int).length (ns.map V.int).length (some 14) = min 14 (ns.map V.int).length from HT.sIx_nat _ _ 14, List.drop_zero, Nat.sub_zero, List.map_take, List.take_eq_take_iff]
        omega
      refine ⟨c, rfl, ⟨_, .inl (.inl upd_same)⟩, for_list (K := K) (a := c) (xs := (ns.take 14).map V.int) (fun i σ J => ∃ (mx : Int) (u : Option V), σ = [some (.ref a), some (.int (k : Int)), some (.int own), some (.int mx), u] ∧ Same H0 J ∧ J c = some (.lst ((ns.take 14).map V.int)))
        ⟨_, none, rfl, sc, by rw [upd_same, hC]⟩ (fun i σ J _ ⟨_, _, _, _, e⟩ => .inl (.inl e)) ?_ ?_⟩
      · rintro i v σ J hi ⟨mx, u, rfl, sJ, eJ⟩
        obtain ⟨t, rfl⟩ : ∃ t, v = V.int t := by
          rw [List.getElem?_map] at hi
          cases e : (ns.take 14)[i]? with
          | none =>
            rw [e] at hi
            cases hi
          | some t =>
            rw [e] at hi
            exact ⟨t, (Option.some.inj hi).symm⟩
        refine ⟨_, rfl, _, _, rfl, rfl, .inr ⟨by decide, by decide⟩, _, rfl, .inl ⟨_, rfl, _, _, rfl, rfl, (by decide : (0 : Int) < 1999999889), _, _, rfl, rfl, .inl ⟨_, rfl, _, _, rfl, rfl, (by decide : (0 : Int) < 1999999889), ?_⟩⟩⟩
        exact ⟨_, _, rfl, sJ, eJ⟩
      · rintro σ J ⟨mx, u, rfl, sJ, eJ⟩
        refine ⟨fun v J1 => (∃ i : Int, v = .int i) ∧ J1 = J, ?_, ?_⟩
        · refine ⟨_, rfl, _, _, rfl, rfl, _, rfl, ite2 (fun _ => ?_) (fun _ => ?_)⟩
          · refine iteT ⟨_, rfl, _, rfl, ⟨_, rfl⟩, rfl⟩
          · refine ⟨_, rfl, _, _, rfl, rfl, ⟨by decide, by decide, by decide⟩, _, _, rfl, rfl, _, rfl, ite2 (fun _ => ⟨_, rfl, _, rfl, ⟨_, rfl⟩, rfl⟩) (fun _ => ⟨⟨_, rfl⟩, rfl⟩)⟩
        · rintro _ _ ⟨⟨x, rfl⟩, rfl⟩
          refine ⟨_, rfl, _, _, rfl, rfl, .inr ⟨by decide, by decide⟩, _, rfl, _, _, rfl, rfl, (by decide : (0 : Int) < 1999999889), _, _, rfl, rfl, .inl ⟨_, rfl, _, _, rfl, rfl, (by decide : (0 : Int) < 1999999889), ?_⟩⟩
          refine ⟨by show 3 ≤ sizeLine; decide, fun p np => ?_⟩
          exact q p _ (sJ.free np) ⟨_, _, _, upd_same⟩ (sJ.trans (same_new np))
end
end Gu
namespace Gu
open PySem PySem.Spec PyProof.Rows L2
/-! ### _law_told -/
def marks : List Str := ["", "~", "..", "...", "a.b", "~"]
/-- four things as they are drawn -/
structure Four (l h t : Int) (z : Str) : Prop where
  l0 : 0 ≤ l
  l1 : l ≤ 40
  h0 : 0 ≤ h
  h1 : h ≤ 40
  t0 : 0 ≤ t
  t1 : t ≤ 40
  z : z ∈ marks
theorem marks_len {z : Str} (h : z ∈ marks) : z.cps.toList.length ≤ 3 := by
  have a : ∀ y ∈ marks, y.cps.toList.length ≤ 3 := by decide +kernel
  exact a z h
end Gu
namespace Gu
open PySem PySem.Spec PyProof.Rows L2
/-! ### _law_tolds -/
structure Rec where
  l : Int
  h : Int
  t : Int
  z : Str
def Rec.vs (r : Rec) : List V := [.int r.l, .int r.h, .int r.t, .str r.z]
def Rec.ok (r : Rec) : Prop := Four r.l r.h r.t r.z
theorem Pot.ne {H : Hp} {p q : Addr} (h : Pot H p) (n : H q = none) : q ≠ p := fun e => by
  subst e
  obtain ⟨o, ho⟩ := h.some
  rw [n] at ho
  cases ho
theorem yes {σ : L2.St} {H : Hp} {Q : Bool → Hp → Prop} (h : Q true H) : tYes σ H Q := h
section
variable {P : Program} {w : World} {K : PySem.W.Frag} {mg : Str → Option Value} {base : Heap}
/-- told tuples: a list of them at D -/
structure ToldsAt (G : Hp) (D : Addr) (ps : List (Addr × Rec)) : Prop where
  ls : G D = some (.lst (ps.map fun q => V.ref q.1))
  tp : ∀ q ∈ ps, G q.1 = some (.tup q.2.vs) ∧ q.2.ok
end
end Gu
namespace Gu
open PySem PySem.Spec PyProof.Rows L2
/-! ### is_integer, is_text -/
/-- isinstance(x, T) is b -/
def Isa (K : PySem.W.Frag) (H : Hp) (x : V) (T : String) (b : Bool) : Prop := ∃ t, TyX K H x t ∧ PySem.W.kitOne K t (.type T) = some b
def signs : Str := ".0123456789abcdefghijklmnopqrstuvwxyz~"
def isTxt (z : Str) (m : Int) : Bool := decide ((z.length : Int) ≤ m) && z.cps.toList.all fun c => decide (c ∈ signs.cps.toList)
section
variable {P : Program} {w : World} {K : PySem.W.Frag} {mg : Str → Option Value} {base : Heap}
theorem Isa.int_int {H : Hp} {i : Int} : Isa K H (.int i) "int" true := ⟨_, .base (.int i), kit_ty (by decide +kernel)⟩
theorem Isa.int_bool {H : Hp} {i : Int} : Isa K H (.int i) "bool" false := ⟨_, .base (.int i), kit_ty (by decide +kernel)⟩
theorem Isa.str_str {H : Hp} {z : Str} : Isa K H (.str z) "str" true := ⟨_, .base (.str z), kit_ty (by decide +kernel)⟩
def spIsInteger (K : PySem.W.Frag) : Sp := fun vs H Q _ => ∃ (x : V) (a b : Int), vs = [x, .int a, .int b] ∧
  ((∃ v, x = .int v ∧ Q (.bl (decide (a ≤ v ∧ v ≤ b))) H) ∨ (Isa K H x "int" false ∧ Q (.bl false) H) ∨ (Isa K H x "int" true ∧ Isa K H x "bool" true ∧ Q (.bl false) H))
theorem cal_isInteger (B : Bi mg) (D : At K mg "is_integer" s_is_integer ps_is_integer) : Cal P w K mg base 1 "is_integer" ps_is_integer (spIsInteger K) := by
  refine D.cal sc_is_integer (fun vs H Q E h => ?_) (fun f cdv A outer s H vs Q E hr h => ?_)
  · obtain ⟨x, a, b, rfl, _⟩ := h
    rfl
  · obtain ⟨x, a, b, rfl, h⟩ := h
    refine ⟨_, (pss_cons (ps_if (PW.pt (pw_or (pt_not (pt_val (pe_callB call_isi (by rfl) B.isinstance (by decide +kernel) (pa_cons (pv 0) (pa_cons (pe_bltn (v := .ty "int") (by rfl) B.int (by decide +kernel) rfl) pa_nil))))) (pw_or1 (pt_val (pe_callB call_isi (by rfl) B.isinstance (by decide +kernel) (pa_cons (pv 0) (pa_cons (pe_bltn (v := .ty "bool") (by rfl) B.bool (by decide +kernel) rfl) pa_nil))))))) (pss_one (ps_ret pe_bl)) pss_nil)
      (pss_one (ps_ret (pe_chain op_le op_le (pv 1) (pv 0) (pv 2))))), ?_⟩
    rcases h with ⟨v, rfl, k⟩ | ⟨⟨t, i1, i2⟩, k⟩ | ⟨⟨t, i1, i2⟩, ⟨t', j1, j2⟩, k⟩
    · obtain ⟨t, i1, i2⟩ := Isa.int_int (K := K) (H := H) (i := v)
      obtain ⟨t', j1, j2⟩ := Isa.int_bool (K := K) (H := H) (i := v)
      refine ⟨_, rfl, _, _, t, _, true, rfl, .ty _, i1, i2, _, rfl, iteF ⟨_, rfl, _, _, t', _, false, rfl, .ty _, j1, j2, _, rfl, iteF ?_⟩⟩
      refine ⟨_, rfl, _, rfl, _, _, rfl, rfl, _, rfl, ?_⟩
      by_cases e1 : a ≤ v
      · rw [decide_eq_true e1]
        refine iteT ⟨_, rfl, _, _, rfl, rfl, ?_⟩
        have e : decide (a ≤ v ∧ v ≤ b) = decide (v ≤ b) := by simp only [e1, true_and]
        rw [e] at k
        exact k
      · rw [decide_eq_false e1]
        refine iteF ?_
        have e : decide (a ≤ v ∧ v ≤ b) = false := by simp only [e1, false_and, decide_false]
        rw [e] at k
        exact k
    · refine ⟨_, rfl, _, _, t, _, false, rfl, .ty _, i1, i2, _, rfl, iteT (iteT k)⟩
    · refine ⟨_, rfl, _, _, t, _, true, rfl, .ty _, i1, i2, _, rfl, iteF ⟨_, rfl, _, _, t', _, true, rfl, .ty _, j1, j2, _, rfl, iteT k⟩⟩
def spIsText (K : PySem.W.Frag) : Sp := fun vs H Q _ => ∃ (x : V) (m : Int), vs = [x, .int m] ∧
  ((∃ z : Str, x = .str z ∧ z.length ≤ 1000 ∧ ∀ G, Same H G → Q (.bl (isTxt z m)) G) ∨ (Isa K H x "str" false ∧ Q (.bl false) H))
theorem cal_isText (B : Bi mg) (D : At K mg "is_text" s_is_text ps_is_text) : Cal P w K mg base 1 "is_text" ps_is_text (spIsText K) := by
  refine D.cal sc_is_text (fun vs H Q E h => ?_) (fun f cdv A outer s H vs Q E hr h => ?_)
  · obtain ⟨x, m, rfl, _⟩ := h
    rfl
  · obtain ⟨x, m, rfl, h⟩ := h
    refine ⟨_, (pss_cons (ps_if (PW.pt (pw_or (pt_not (pt_val (pe_callB call_isi (by rfl) B.isinstance (by decide +kernel) (pa_cons (pv 0) (pa_cons (pe_bltn (v := .ty "str") (by rfl) B.str (by decide +kernel) rfl) pa_nil))))) (pw_or1 (pt_cmpR op_gt (pe_callB call_len (by rfl) B.len (by decide +kernel) (pa_cons (pv 0) pa_nil)) (pv 1) (nomark _))))) (pss_one (ps_ret pe_bl)) pss_nil)
      (pss_one (ps_ret (pe_callB (cr_all rfl) (by rfl) B.all (by decide +kernel) (pa_cons (pe_lc (own := [("character", 2)]) (by rfl) sc_is_text.nd (pi_str (pv 0)) (blkOk_by (own := [("character", 2)]) (N := ["value", "most", "character"]) (sc := defScope s_is_text) (by decide +kernel)) (fun _ _ _ _ _ => pg_name (i := 2) sc_is_text.nd rfl (.inl rfl)) (fun _ _ _ _ _ => pts_nil) (fun _ _ _ _ _ => (pe_cmpR op_in_sign (pv 2) (pe_cst B.SIGNS (by rfl)) (by rfl)))) pa_nil))))), ?_⟩
    rcases h with ⟨z, rfl, zl, k⟩ | ⟨⟨t, i1, i2⟩, k⟩
    · obtain ⟨t, i1, i2⟩ := Isa.str_str (K := K) (H := H) (z := z)
      refine ⟨_, rfl, _, _, t, _, true, rfl, .ty _, i1, i2, _, rfl, iteF ⟨_, rfl, _, _, rfl, ⟨Nat.le_of_lt (small1000 zl), rfl⟩, _, rfl, _, _, rfl, rfl, _, rfl, ite2 (fun e => ?_) (fun e => ?_)⟩⟩
      · have e1 : ¬ (z.length : Int) ≤ m := by
          have := of_decide_eq_true e
          omega
        have e2 : isTxt z m = false := by
          unfold isTxt
          rw [decide_eq_false e1, Bool.false_and]
        rw [e2] at k
        exact k H (Same.refl H)
      · have e1 : (z.length : Int) ≤ m := by
          have h2 : ¬ m < (z.length : Int) := fun h3 => e (decide_eq_true h3)
          omega
        refine ⟨_, rfl, z, rfl, fun D nD => lc_it walk_str (fun i J => Same H J ∧ J D = some (.lst (((z.cps.toList.take i).map fun c => decide (c ∈ signs.cps.toList)).map V.bl)))
          ⟨same_new nD, by rw [upd_same]; rfl⟩ (fun _ _ _ _ => trivial) ?_ ?_⟩
        · rintro i v J _ hi ⟨sJ, eJ⟩ ⟨rfl, c, hc, rfl⟩
          refine ⟨rfl, yes (iteT ?_)⟩
          refine ⟨_, rfl, c, signs, rfl, rfl, _, eJ, small1000 ?_, ?_, ?_⟩
          · rw [List.length_map, List.length_map, List.length_take]
            have : z.length = z.cps.toList.length := rfl
            omega
          · exact fun b o e => by
              rw [upd_ne (ne_of_none e nD)]
              exact sJ b o e
          · rw [upd_same]
            have hc' : z.cps.toList[i]? = some c := by
              rw [← Array.getElem?_toList] at hc
              exact hc
            rw [List.take_add_one, hc', List.map_append, List.map_append]
            rfl
        · rintro J ⟨sJ, eJ⟩
          refine ⟨D, ((z.cps.toList.take z.cps.size).map fun c => decide (c ∈ signs.cps.toList)), rfl, .inl (.inl eJ), ?_⟩
          have e2 : ((z.cps.toList.take z.cps.size).map fun c => decide (c ∈ signs.cps.toList)).all id = isTxt z m := by
            unfold isTxt
            rw [decide_eq_true e1, Bool.true_and, List.take_of_length_le (show z.cps.toList.length ≤ z.cps.size from Nat.le_refl _), List.all_map]
            rfl
          rw [e2]
          exact k J sJ
    · refine ⟨_, rfl, _, _, t, _, false, rfl, .ty _, i1, i2, _, rfl, iteT (iteT k)⟩
end
end Gu
namespace Gu
open PySem PySem.Spec PyProof.Rows L2
/-! ### is_tuple -/
theorem isaTupP {K : PySem.W.Frag} {H : Hp} {l : Addr} {xs : List V} (h : SqT K H l xs) : Isa K H (.ref l) "tuple" true := by
  rcases h with (h | ⟨o, h⟩) | ⟨o, its, n, e, c, _⟩
  · exact ⟨_, .base (.tup h), kit_ty (by decide +kernel)⟩
  · exact ⟨_, .fTuple h, kit_ty (by decide +kernel)⟩
  · exact ⟨_, .kTuple e c, kit_ty (by decide +kernel)⟩
section
variable {P : Program} {w : World} {K : PySem.W.Frag} {mg : Str → Option Value} {base : Heap} {C : Addr}
def spIsTuple (K : PySem.W.Frag) : Sp := fun vs H Q _ => ∃ (x : V) (a b : Int), vs = [x, .int a, .int b] ∧
  ((∃ (l : Addr) (xs : List V), x = .ref l ∧ SqT K H l xs ∧ Q (.bl (decide (a ≤ (xs.length : Int) ∧ (xs.length : Int) ≤ b))) H) ∨ (Isa K H x "tuple" false ∧ Q (.bl false) H))
theorem cal_isTuple (B : Bi mg) (D : At K mg "is_tuple" s_is_tuple ps_is_tuple) : Cal P w K mg base 1 "is_tuple" ps_is_tuple (spIsTuple K) := by
  refine D.cal sc_is_tuple (fun vs H Q E h => ?_) (fun f cdv A outer s H vs Q E hr h => ?_)
  · obtain ⟨x, a, b, rfl, _⟩ := h
    rfl
  · obtain ⟨x, a, b, rfl, h⟩ := h
    refine ⟨_, (pss_one (ps_ret (pe_and (pe_callB call_isi (by rfl) B.isinstance (by decide +kernel) (pa_cons (pv 0) (pa_cons (pe_bltn (v := .ty "tuple") (by rfl) B.tuple (by decide +kernel) rfl) pa_nil))) (pe_one (pe_chain op_le op_le (pv 1) (pe_callB call_len (by rfl) B.len (by decide +kernel) (pa_cons (pv 0) pa_nil)) (pv 2)))))), ?_⟩
    rcases h with ⟨l, xs, rfl, hT, k⟩ | ⟨⟨t, i1, i2⟩, k⟩
    · obtain ⟨t, i1, i2⟩ := isaTupP hT
      refine ⟨_, rfl, _, _, t, _, true, rfl, .ty _, i1, i2, _, rfl, iteT ?_⟩
      refine ⟨_, rfl, _, rfl, _, _, rfl, .inr ⟨_, hT, rfl⟩, _, _, rfl, rfl, _, rfl, ?_⟩
      by_cases e1 : a ≤ (xs.length : Int)
      · rw [decide_eq_true e1]
        refine iteT ⟨_, rfl, _, _, rfl, rfl, ?_⟩
        have e : decide (a ≤ (xs.length : Int) ∧ (xs.length : Int) ≤ b) = decide ((xs.length : Int) ≤ b) := by simp only [e1, true_and]
        rw [e] at k
        exact k
      · rw [decide_eq_false e1]
        refine iteF ?_
        have e : decide (a ≤ (xs.length : Int) ∧ (xs.length : Int) ≤ b) = false := by simp only [e1, false_and, decide_false]
        rw [e] at k
        exact k
    · exact ⟨_, rfl, _, _, t, _, false, rfl, .ty _, i1, i2, _, rfl, iteF k⟩
end
end Gu
namespace Gu
open PySem PySem.Spec PyProof.Rows L2
/-! ### the class Shortener, its __init__ -/
def flds (r : Rec) (b : Addr) : List (Str × V) := putF "told" (.ref b) (putF "mark" (.str r.z) (putF "tail" (.int r.t) (putF "head" (.int r.h) (putF "limit" (.int r.l) []))))
theorem flds_limit (r : Rec) (b : Addr) : (flds r b).lookup ("limit" : Str) = some (.int r.l) := by
  unfold flds
  rw [lookup_putF, if_neg (by decide +kernel), lookup_putF, if_neg (by decide +kernel), lookup_putF, if_neg (by decide +kernel), lookup_putF, if_neg (by decide +kernel), lookup_putF, if_pos rfl]
theorem flds_head (r : Rec) (b : Addr) : (flds r b).lookup ("head" : Str) = some (.int r.h) := by
  unfold flds
  rw [lookup_putF, if_neg (by decide +kernel), lookup_putF, if_neg (by decide +kernel), lookup_putF, if_neg (by decide +kernel), lookup_putF, if_pos rfl]
theorem flds_tail (r : Rec) (b : Addr) : (flds r b).lookup ("tail" : Str) = some (.int r.t) := by
  unfold flds
  rw [lookup_putF, if_neg (by decide +kernel), lookup_putF, if_neg (by decide +kernel), lookup_putF, if_pos rfl]
theorem flds_mark (r : Rec) (b : Addr) : (flds r b).lookup ("mark" : Str) = some (.str r.z) := by
  unfold flds
  rw [lookup_putF, if_neg (by decide +kernel), lookup_putF, if_pos rfl]
theorem flds_told (r : Rec) (b : Addr) : (flds r b).lookup ("told" : Str) = some (.ref b) := by
  unfold flds
  rw [lookup_putF, if_pos rfl]
/-- what a Shortener may be made of -/
structure Rec.fit (r : Rec) : Prop where
  l : 0 ≤ r.l ∧ r.l ≤ 40
  h : 0 ≤ r.h ∧ r.h ≤ 40
  t : 0 ≤ r.t ∧ r.t ≤ 40
  z : isTxt r.z 3 = true
theorem isTxt_len {z : Str} {m : Int} (h : isTxt z m = true) : (z.length : Int) ≤ m := by
  unfold isTxt at h
  rw [Bool.and_eq_true] at h
  exact of_decide_eq_true h.1
theorem Rec.ok.fit {r : Rec} (o : r.ok) : r.fit := by
  have a : ∀ y ∈ marks, isTxt y 3 = true := by decide +kernel
  exact ⟨⟨o.l0, o.l1⟩, ⟨o.h0, o.h1⟩, ⟨o.t0, o.t1⟩, a _ o.z⟩
/-- the class as the top has left it -/
structure ShC (K : PySem.W.Frag) (mg : Str → Option Value) (C : Addr) : Prop where
  cl : Cls K C
  nL : NoAttr K C "limit"
  nH : NoAttr K C "head"
  nT : NoAttr K C "tail"
  nM : NoAttr K C "mark"
  nD : NoAttr K C "told"
  g : mg "Shortener" = some (.ref C)
  ha : PySem.W.findIn K (.ref C) "__class__" = some (some (.builtin "object.__class__"))
  hn : PySem.W.specialIn K (.builtin "object.__class__") "__get__" = some (some (.builtin "getset_descriptor.__get__"))
  ht : PySem.W.takesIn K (.builtin "object.__class__") = some true
  hm : PySem.W.mroIn K C (.type "object") = some true
  kk : PySem.W.kitOne K (.ref C) (.ref C) = some true
structure InitAt (K : PySem.W.Frag) (C : Addr) : Prop where
  ex : ∃ (f : Addr) (fd : FuncData), Mk K C f ∧ Fun K "__init__" "Shortener.__init__" s_Shortener_init f fd ∧ Binds K fd ps_Shortener_init []
structure Mak (P : Program) (w : World) (K : PySem.W.Frag) (mg : Str → Option Value) (base : Heap) (k : Nat) (x : Str) (C : Addr) (sp : Sp) : Prop where
  ex : ∃ (f : Addr) (fd : FuncData) (ps : List Str), Mk K C f ∧ FnOk P w K mg base CX0 k f fd ps sp ∧ mg x = some (.ref C) ∧ Binds K fd ps []
section
variable {X : Cx} {k j : Nat} {x : Str} {C : Addr} {sp : Sp} {p pos : Pos} {e : Expr} {es : List Expr} {t : TA}
theorem pe_new (c : Mak X.prog X.w X.K X.mg X.base k x C sp) (hr : Room j X.A) (hk : k + 1 ≤ j) (hg : Gl X x) (ha : PA X (e :: es) t)
    (hdb : (x == ("__debug__" : Str)) = false := by decide) (he : starEach (e :: es) X.env = (false, eval e X.env) :: starEach es X.env := by rfl) (hpl : (backTo pos (starEach es X.env)).any (·.1) = false := by rfl) :
    PE X (.Call (.Name x p) (e :: es) [] pos) (tMake C sp [] E0 t) := by
  obtain ⟨f, fd, ps, M, F, hm, b⟩ := c.ex
  exact pe_make M F (hr.mono hk) hg hm b .nil pass0 ha hdb he hpl
end
section
variable {P : Program} {w : World} {K : PySem.W.Frag} {mg : Str → Option Value} {base : Heap} {C : Addr}
def spCheckMark : Sp := fun vs H Q _ => ∃ (z : Str), vs = [.str z] ∧ isTxt z 3 = true ∧ ∀ G, Same H G → Q .non G
theorem cal_checkMark (B : Bi mg) (D : At K mg "check_mark" s_check_mark ps_check_mark) (C_is_text : Cal P w K mg base 1 "is_text" ps_is_text (spIsText K)) : Cal P w K mg base 2 "check_mark" ps_check_mark spCheckMark := by
  refine D.cal sc_check_mark (fun vs H Q E h => ?_) (fun f cdv A outer s H vs Q E hr h => ?_)
  · obtain ⟨z, rfl, _⟩ := h
    rfl
  · obtain ⟨z, rfl, hz, k⟩ := h
    have zl := isTxt_len hz
    refine ⟨_, (pss_one (ps_if (pt_not (pt_val (pe_own C_is_text hr (by decide) (by rfl) (pa_cons (pv 0) (pa_cons (pe_cst B.MOST_MARK (by rfl)) pa_nil))))) pss_never pss_nil)), ?_⟩
    refine ⟨_, rfl, _, _, rfl, .inl ⟨z, rfl, by omega, fun G sG => ⟨_, rfl, ?_⟩⟩⟩
    rw [hz]
    exact iteF (k G sG)
def spInit (C : Addr) : Sp := fun vs H Q _ => ∃ (x dx : Addr) (r : Rec), vs = [.ref x, .int r.l, .int r.h, .int r.t, .str r.z] ∧ H x = some (.ins C dx []) ∧ r.fit ∧
  ∀ (b : Addr) (G : Hp), H b = none → G x = some (.ins C dx (flds r b)) → G b = some (.tup r.vs) → (∀ c o, H c = some o → c ≠ x → G c = some o) → Q .non G
theorem ok_init {f : Addr} {fd : FuncData} (B : Bi mg) (S : ShC K mg C) (F : Fun K "__init__" "Shortener.__init__" s_Shortener_init f fd) (C_is_integer : Cal P w K mg base 1 "is_integer" ps_is_integer (spIsInteger K)) (C_check_mark : Cal P w K mg base 2 "check_mark" ps_check_mark spCheckMark) : FnOk P w K mg base CX0 3 f fd ps_Shortener_init (spInit C) := by
  refine F.ok sc_Shortener_init (fun vs H Q E h => ?_) (fun cdv A outer s H vs Q E hr h => ?_)
  · obtain ⟨x, dx, r, rfl, _⟩ := h
    rfl
  · obtain ⟨x, dx, r, rfl, hx, fit, k⟩ := h
    refine ⟨_, (pss_cons (ps_for PassesOwn.never rfl (pi_tup (pe_tup (pa_cons (pv 1) (pa_cons (pv 2) (pa_cons (pv 3) pa_nil))))) (pg_name (i := 5) sc_Shortener_init.nd rfl (.inl rfl))
      (pss_one (ps_if (pt_not (pt_val (pe_own C_is_integer hr (by decide) (by rfl) (pa_cons (pv 5) (pa_cons pe_int (pa_cons (pe_cst B.MOST_SIGNS (by rfl)) pa_nil)))))) pss_never pss_nil)))
      (pss_cons (ps_expr (pe_own C_check_mark hr (by decide) (by rfl) (pa_cons (pv 4) pa_nil)))
      (pss_cons (ps_fld (pv 0) (pv 1) rfl)
      (pss_cons (ps_fld (pv 0) (pv 2) rfl)
      (pss_cons (ps_fld (pv 0) (pv 3) rfl)
      (pss_cons (ps_fld (pv 0) (pv 4) rfl)
      (pss_one (ps_fld (pv 0) (pe_tup (pa_cons (pv 1) (pa_cons (pv 2) (pa_cons (pv 3) (pa_cons (pv 4) pa_nil))))) rfl)))))))), ?_⟩
    refine ⟨_, rfl, _, rfl, _, rfl, by show 3 ≤ sizeLine; decide, fun T nT => ?_⟩
    have nxT : x ≠ T := ne_of_none hx nT
    have hxT : upd H T (.tup [.int r.l, .int r.h, .int r.t]) x = some (.ins C dx []) := by rw [upd_ne nxT]; exact hx
    refine ⟨T, rfl, ⟨_, .inl (.inl upd_same)⟩, for_tup (K := K) (a := T) (xs := [.int r.l, .int r.h, .int r.t]) (fun i σ J => ∃ u, σ = [some (.ref x), some (.int r.l), some (.int r.h), some (.int r.t), some (.str r.z), u] ∧ J = upd H T (.tup [.int r.l, .int r.h, .int r.t]))
      ⟨none, rfl, rfl⟩ (fun i σ J _ ⟨_, _, e⟩ => by rw [e]; exact .inl (.inl upd_same)) ?_ ?_⟩
    · rintro i v σ J hi ⟨u, rfl, rfl⟩
      obtain ⟨n, n0, n1, rfl⟩ : ∃ n : Int, 0 ≤ n ∧ n ≤ 40 ∧ v = .int n := by
        have hv := List.mem_of_getElem? hi
        simp only [List.mem_cons, List.not_mem_nil, or_false] at hv
        rcases hv with rfl | rfl | rfl
        · exact ⟨_, fit.l.1, fit.l.2, rfl⟩
        · exact ⟨_, fit.h.1, fit.h.2, rfl⟩
        · exact ⟨_, fit.t.1, fit.t.2, rfl⟩
      refine ⟨_, rfl, _, _, _, rfl, .inl ⟨_, rfl, _, rfl, ?_⟩⟩
      rw [decide_eq_true ⟨n0, n1⟩]
      exact iteF ⟨_, rfl, rfl⟩
    · rintro σ J ⟨u, rfl, rfl⟩
      refine ⟨_, rfl, _, rfl, fit.z, fun G sG => ?_⟩
      have g0 : G x = some (.ins C dx []) := sG _ _ hxT
      refine ⟨_, rfl, _, rfl, x, C, dx, [], rfl, g0, S.cl, S.nL, by decide, ?_⟩
      refine ⟨_, rfl, _, rfl, x, C, dx, _, rfl, upd_same, S.cl, S.nH, by exact Nat.lt_of_le_of_lt (length_putF _ _ _) (by decide), ?_⟩
      rw [upd_upd]
      refine ⟨_, rfl, _, rfl, x, C, dx, _, rfl, upd_same, S.cl, S.nT, by exact Nat.lt_of_le_of_lt (length_putF _ _ _) (Nat.lt_of_le_of_lt (Nat.succ_le_succ (length_putF _ _ _)) (by decide)), ?_⟩
      rw [upd_upd]
      refine ⟨_, rfl, _, rfl, x, C, dx, _, rfl, upd_same, S.cl, S.nM, by exact Nat.lt_of_le_of_lt (length_putF _ _ _) (Nat.lt_of_le_of_lt (Nat.succ_le_succ (Nat.le_trans (length_putF _ _ _) (Nat.succ_le_succ (length_putF _ _ _)))) (by decide)), ?_⟩
      rw [upd_upd]
      refine ⟨_, rfl, _, rfl, _, rfl, _, rfl, by show 4 ≤ sizeLine; decide, fun b nb => ?_⟩
      have nxb : x ≠ b := ne_of_none upd_same nb
      refine ⟨_, rfl, x, C, dx, _, rfl, (by rw [upd_ne nxb, upd_same]), S.cl, S.nD, by exact Nat.lt_of_le_of_lt (length_putF _ _ _) (Nat.lt_of_le_of_lt (Nat.succ_le_succ (Nat.le_trans (length_putF _ _ _) (Nat.succ_le_succ (Nat.le_trans (length_putF _ _ _) (Nat.succ_le_succ (length_putF _ _ _)))))) (by decide)), ?_⟩
      have nb1 : G b = none := by rw [upd_ne nxb.symm] at nb; exact nb
      have nb0 : H b = none := (same_new nT).free (sG.free nb1)
      refine k b _ nb0 upd_same (by rw [upd_ne nxb.symm, upd_same]; rfl) fun c o e nc => ?_
      rw [upd_ne nc, upd_ne (ne_of_none e nb0), upd_ne nc]
      exact sG _ _ (same_new nT _ _ e)
theorem mak_sh (B : Bi mg) (S : ShC K mg C) (D : InitAt K C) (C_is_integer : Cal P w K mg base 1 "is_integer" ps_is_integer (spIsInteger K)) (C_check_mark : Cal P w K mg base 2 "check_mark" ps_check_mark spCheckMark) : Mak P w K mg base 3 "Shortener" C (spInit C) := by
  obtain ⟨f, fd, M, F, b⟩ := D.ex
  exact ⟨f, fd, ps_Shortener_init, M, ok_init B S F C_is_integer C_check_mark, S.g, b⟩
end
end Gu
namespace PySem
open Sem (wp)
open AutoSeq1 (wpAny_loadPart')
theorem gu_new_enum (a : Addr) (vs : Array Value) (n : Nat) (dt : Option Addr) (sl : Array (Option Value)) : Meets (Builtin.«enumerate.__new__» ⟨[.type "enumerate", .ref a], []⟩) (fun _ R s =>
    s.heap.get? a = some ⟨.type "tuple", dt, .seq vs n, sl⟩ ∧ R (.ok (.ret (.ref (s.heap.push { cls := .type "tuple_iterator", data := .fields #[.ref a, .int 0 0] }).objs.size))) { s with heap := (s.heap.push { cls := .type "tuple_iterator", data := .fields #[.ref a, .int 0 0] }).push { cls := .type "enumerate", data := .fields #[.none, .bool false, .ref s.heap.objs.size, rawInt 0, .none, .none] } }) :=
  .of_wp fun prog w A R s h => by
    obtain ⟨s1, s2, s3, s4, s5⟩ := s
    obtain ⟨ha, h⟩ := h
    have sb := sub_enumerate
    have hT : Heap.IsTuple (Shared.heap ⟨s1, s2, s3, s4, s5⟩) a vs := ⟨_, ha, rfl, n, rfl⟩
    wp_walk using wpAny_loadPart' ha
    refine wpAny_stack_any fun fr => wpAny_pure ?_
    split
    · next c _ _ _ _ _ =>
      cases (c == Value.type "enumerate") <;> (wp_walk using wpAny_loadPart' ha, wpAny_pyIter_tuple hT; exact ⟨_, rfl, h⟩)
    · wp_walk using wpAny_loadPart' ha, wpAny_pyIter_tuple hT
      exact ⟨_, rfl, h⟩
section
variable {prog : Program} {w : World} {A : Around} {E : Value → Shared → Prop} {s : Shared}
theorem gu_call_enum {a : Addr} {vs : Array Value} {Q : Value → Shared → Prop} (hT : s.heap.IsTuple a vs)
    (h : ∀ g, IsEnum g (s.heap.objs.size + 1) s.heap.objs.size 0 .none → g.IsTupleIter s.heap.objs.size a 0 → (∀ b o, s.heap.get? b = some o → g.get? b = some o) → Q (.ref (s.heap.objs.size + 1)) { s with heap := g }) :
    wpAny (model prog w) A (call (.type "enumerate") [.ref a]) Q E s := by
  obtain ⟨⟨oc, od, dd, sl⟩, ha, hc, n, hd⟩ := hT
  cases (show oc = .type "tuple" from hc)
  cases (show dd = .seq vs n from hd)
  refine callType_new F.called_enumerate (by decide) (F.typeCall_enumerate_1 _) (F.newCall_enumerate_1 _) (fun o => F.args_object_init_2 o _) F.entry_enumerate_new (gu_new_enum a vs n od sl) ⟨ha, ?_⟩
  have z1 : (s.heap.push { cls := .type "tuple_iterator", data := .fields #[.ref a, .int 0 0] }).objs.size = s.heap.objs.size + 1 := Heap.size_push ..
  show _ ∧ _
  rw [z1]
  have en : IsEnum ((s.heap.push { cls := .type "tuple_iterator", data := .fields #[.ref a, .int 0 0] }).push { cls := .type "enumerate", data := .fields #[.none, .bool false, .ref s.heap.objs.size, rawInt 0, .none, .none] }) (s.heap.objs.size + 1) s.heap.objs.size 0 .none := by
    have q := Heap.get?_push_size (s.heap.push { cls := .type "tuple_iterator", data := .fields #[.ref a, .int 0 0] }) (o := { cls := .type "enumerate", data := .fields #[.none, .bool false, .ref s.heap.objs.size, rawInt 0, .none, .none] }) rfl
    rw [z1] at q
    exact q
  exact ⟨⟨_, en, rfl⟩, h _ en ⟨_, Heap.get?_push_of_some _ (Heap.get?_push_size _ rfl), rfl, rfl⟩ fun b o x => Heap.get?_push_of_some _ (Heap.get?_push_of_some _ x)⟩
end
end PySem
namespace Gu
open PySem PySem.Spec PyProof.Rows L2
/-- the tuple at a, each item in a new pair with its place -/
def EnT (K : PySem.W.Frag) (a : Addr) : It where
  go := fun i H => ∃ (xs : List V) (x : V), SqT K H a xs ∧ xs[i]? = some x
  yld := fun i H v G => ∃ T x, v = .ref T ∧ H T = none ∧ G = upd H T (.tup [.int (i : Nat), x]) ∧ ∀ xs, SqT K H a xs → xs[i]? = some x
  stop := fun i H => ∃ xs : List V, SqT K H a xs ∧ xs.length = i
theorem turn_enT {P : Program} {w : World} {K : PySem.W.Frag} {es : List Expr} {kk : Nat} {tp : Pos} (a e it : Addr) :
    Turn P w K (.Tuple es kk tp) (EnT K a) [e, it] e (fun i h => (∃ old, IsEnum h e it ((i : Nat) : Int) old) ∧ h.IsTupleIter it a i ∧ e ≠ it) where
  mem := List.mem_cons_self ..
  obj := fun i h st b hb => by
    obtain ⟨⟨old, he⟩, ⟨o, ho, hc, hd⟩, _⟩ := st
    simp only [List.mem_cons, List.not_mem_nil, or_false] at hb
    rcases hb with rfl | rfl
    · exact ⟨_, he, fun v q => nomatch q⟩
    · exact ⟨o, ho, fun v q => by rw [hd] at q; cases q⟩
  keep := fun i h g st k => by
    obtain ⟨⟨old, he⟩, hi, ne⟩ := st
    exact ⟨⟨old, k e (by simp) _ he⟩, hi.at fun o q => k it (by simp) o q, ne⟩
  item := by
    intro X hP hw hK hc i pins s σ H E I hf st hg
    subst hP hw hK
    obtain ⟨⟨old, he⟩, hit, ne⟩ := st
    obtain ⟨xs, x, hq, hx⟩ := hg
    obtain ⟨its, rv, tp, hz⟩ := I.tuple hq
    obtain ⟨u, hu, ru⟩ := rv.get hx
    have el : e < s.heap.objs.size := Heap.lt_size he
    have il : it < s.heap.objs.size := by
      obtain ⟨_, q, _⟩ := hit
      exact Heap.lt_size q
    have tp' : s.heap.IsTuple a its.toArray := tp
    have nai : a ≠ it := fun z => by
      obtain ⟨o1, g1, c1, _⟩ := tp'
      obtain ⟨o2, g2, c2, _⟩ := hit
      rw [z] at g1
      cases g1.symm.trans g2
      exact absurd (Value.type.inj (c1.symm.trans c2)) (by decide)
    have nea : e ≠ a := fun z => by
      obtain ⟨o1, g1, c1, _⟩ := tp'
      have g2 := he
      rw [z] at g2
      cases g1.symm.trans g2
      exact absurd (Value.type.inj c1) (by decide)
    have hd : X.A.in1.handled = none := I.ok.hd hc
    refine wpAny_pyNext_enum_itemD (Draws.tuple hd it a nai its.toArray) he ⟨hit, tp'⟩ (i := i) (by
      have := (List.getElem?_eq_some_iff.mp hu).1
      simpa using this) ne (by simp [ne, nea]) fun y g tk hy ho st' hT hsz hk => ?_
    have ey : y = u := by
      have : its[i]? = some y := by simpa using hy
      rw [hu] at this
      exact (Option.some.inj this).symm
    subst ey
    refine ⟨_, rfl, wpAny_letOwnedTupleGo_enum (s := { s with heap := g, toks := tk + 1 }) ho fun g2 he' sb => ?_⟩
    have hT2 : g2.get? s.heap.objs.size = some { cls := .type "tuple", data := .seq #[.int i tk, y] } := (sb.2 _ (Nat.ne_of_gt el)).trans hT
    have nw : ObjOk X.prog X.w (upd H s.heap.objs.size (.tup [.int (i : Nat), x])) g2 s.heap.objs.size (.tup [.int (i : Nat), x]) := ⟨by show 2 ≤ sizeLine; decide, [.int i tk, y], .cons ⟨_, rfl⟩ (.cons ru .nil), ⟨_, hT2, rfl, _, rfl⟩⟩
    have I1 : Inv X pins σ (upd H s.heap.objs.size (.tup [.int (i : Nat), x])) { s with heap := g2, toks := tk + 1 } :=
      I.turnedNew (ch := [e, it]) (fun b ob hb q => (sb.2 b (fun z => hb (by simp [z]))).trans (hk b ob (fun z => hb (by simp [z])) (fun z => hb (by simp [z])) q)) hf (Nat.le_refl _) nw
    refine ⟨.ref s.heap.objs.size, _, I1, rfl, ⟨_, x, rfl, I.hok.fresh (Nat.le_refl _), rfl, fun ys hy => by rw [I.tuple_inj hy hq]; exact hx⟩, ⟨⟨y, ?_⟩, st'.1.at fun o q => (sb.2 it (Ne.symm ne)).trans q, ne⟩, fun b hb => ?_⟩
    · rw [show ((i + 1 : Nat) : Int) = (i : Int) + 1 by omega]
      exact he'
    · have hb' : b < s.heap.objs.size := by
        simp only [List.mem_cons, List.not_mem_nil, or_false] at hb
        rcases hb with rfl | rfl
        · exact el
        · exact il
      rw [upd_ne (Nat.ne_of_lt hb')]
      exact (hf b hb).1
  done := by
    intro X hP hw hK hc i pins s σ H E I hf st hg
    subst hP hw hK
    obtain ⟨⟨old, he⟩, hit, ne⟩ := st
    obtain ⟨xs, hq, hx⟩ := hg
    obtain ⟨its, rv, tp, hz⟩ := I.tuple hq
    have tp' : s.heap.IsTuple a its.toArray := tp
    have nai : a ≠ it := fun z => by
      obtain ⟨o1, g1, c1, _⟩ := tp'
      obtain ⟨o2, g2, c2, _⟩ := hit
      rw [z] at g1
      cases g1.symm.trans g2
      exact absurd (Value.type.inj (c1.symm.trans c2)) (by decide)
    have hd : X.A.in1.handled = none := I.ok.hd hc
    have en : its.toArray.size = i := by
      have := rv.length
      simp only [List.size_toArray]
      omega
    obtain ⟨f0, f1, f2, f3, f4, f5⟩ := hf it (by simp)
    exact wpAny_pyNext_enum_endD (Draws.tuple hd it a nai its.toArray) he ⟨by rw [en]; exact hit, tp'⟩ fun g eb => ⟨rfl, I.turned (t' := s.toks) (fun b o hb q => eb b o hb q) f0 f1 f3 f4 f5⟩
  self := fun A i s Q E st h => by
    obtain ⟨⟨_, he⟩, _⟩ := st
    exact wpAny_pyIter_enum he h
def iEnT (K : PySem.W.Frag) (ta : TA) : TI := fun σ H R => ta σ H fun vs G => ∃ a xs, vs = [.ref a] ∧ SqT K G a xs ∧ R (EnT K a) G
theorem pi_enT {X : Cx} {e : Expr} {ta : TA} {p pos tp : Pos} {es : List Expr} {kk : Nat} (hg : Gl X "enumerate") (hm : X.mg "enumerate" = none) (ha : PA X [e] ta) (hs : starEach [e] X.env = [(false, eval e X.env)] := by rfl) :
    PI X (.Tuple es kk tp) (.Call (.Name "enumerate" p) [e] [] pos) (iEnT X.K ta) := by
  refine ⟨fun pins s σ H R I h => ?_⟩
  refine Call_ (ld_blt I hg hm boot_enumerate (PyProof.Rows.callWith_type1 (thn (ha.run pos pins s σ H _ I h) fun us s1 ⟨vs, G, I1, r1, q1⟩ => ?_) hs rfl))
  obtain ⟨a, xs, ex, hq, q⟩ := q1
  subst ex
  cases r1 with
  | cons r rr =>
    cases rr
    cases r
    obtain ⟨its, rv, tq, hz⟩ := I1.tuple hq
    refine gu_call_enum (show s1.heap.IsTuple a its.toArray from tq) fun g he hit hk => wpAny_pyIter_enum he ?_
    have I2 : Inv X pins σ G { s1 with heap := g } := I1.kept (t' := s1.toks) hk
    refine ⟨s1.heap.objs.size + 1, [s1.heap.objs.size + 1, s1.heap.objs.size], _, _, G, rfl, I2, turn_enT a (s1.heap.objs.size + 1) s1.heap.objs.size, ⟨⟨.none, he⟩, hit, Nat.succ_ne_self _⟩, fun b hb => ?_, q⟩
    have le : s1.heap.objs.size ≤ b := by
      simp only [List.mem_cons, List.not_mem_nil, or_false] at hb
      rcases hb with rfl | rfl
      · exact Nat.le_add_right _ _
      · exact Nat.le_refl _
    exact I1.fpOk le (I1.hok.fresh le)
/-- the walk of such a loop: a new pair each turn -/
theorem walk_enT {K : PySem.W.Frag} {a : Addr} {xs : List V} : Walk (EnT K a) xs.length (fun H => SqT K H a xs) (fun i H v G => ∃ T x, xs[i]? = some x ∧ v = .ref T ∧ H T = none ∧ G = upd H T (.tup [.int (i : Nat), x])) where
  goes := fun i H hi h => ⟨xs, xs[i], h, List.getElem?_eq_getElem hi⟩
  stops := fun H h => ⟨xs, h, rfl⟩
  yields := fun i H v G hi h ⟨T, x, e1, e2, e3, e4⟩ => ⟨T, x, e4 xs h, e1, e2, e3⟩
end Gu
namespace Gu
open PySem PySem.Spec PyProof.Rows L2
/-! ### what is cut, as lists -/
def cut {α : Type} (l h t : Nat) (m xs : List α) : List α := if xs.length ≤ l then xs else xs.take h ++ m ++ xs.drop (xs.length - t)
theorem cut_front {α : Type} (xs : List α) {h : Int} (h0 : 0 ≤ h) : (xs.drop (HT.sIx xs.length 0 none)).take (HT.sIx xs.length xs.length (some h) - HT.sIx xs.length 0 none) = xs.take h.toNat := by
  obtain ⟨k, rfl⟩ := Int.eq_ofNat_of_zero_le h0
  rw [HT.sIx_none, HT.sIx_nat, List.drop_zero, Nat.sub_zero, Int.toNat_natCast, List.take_eq_take_iff]
  omega
theorem cut_back {α : Type} (xs : List α) {h : Int} (h0 : 0 ≤ h) : (xs.drop (HT.sIx xs.length 0 (some h))).take (HT.sIx xs.length xs.length none - HT.sIx xs.length 0 (some h)) = xs.drop h.toNat := by
  obtain ⟨k, rfl⟩ := Int.eq_ofNat_of_zero_le h0
  rw [HT.sIx_none, HT.sIx_nat, Int.toNat_natCast]
  rw [List.take_of_length_le (by rw [List.length_drop]; omega)]
  by_cases e : k ≤ xs.length
  · rw [Nat.min_eq_left e]
  · rw [Nat.min_eq_right (by omega), List.drop_length, List.drop_eq_nil_of_le (by omega)]
theorem cut_length {α : Type} {l h t : Nat} {m xs : List α} : (cut l h t m xs).length ≤ max xs.length (h + m.length + t) := by
  unfold cut
  split
  · omega
  · rw [List.length_append, List.length_append, List.length_take, List.length_drop]
    omega
theorem app_cps (a b : Str) : (a ++ b).cps.toList = a.cps.toList ++ b.cps.toList := by
  show (a.cps ++ b.cps).toList = _
  rw [Array.toList_append]
def Rec.cut (r : Rec) (xs : List Nat) : List Nat := Gu.cut r.l.toNat r.h.toNat r.t.toNat r.z.cps.toList xs
def cuts (rs : List Rec) (xs : List Nat) : List Nat := rs.foldl (fun acc r => r.cut acc) xs
theorem Rec.fit.zl {r : Rec} (f : r.fit) : r.z.cps.toList.length ≤ 3 := by
  have h := isTxt_len f.z
  have e : r.z.length = r.z.cps.toList.length := rfl
  omega
theorem Rec.fit.cut_len {r : Rec} (f : r.fit) {xs : List Nat} (h : xs.length ≤ 200) : (r.cut xs).length ≤ 200 := by
  have a : (r.cut xs).length ≤ _ := cut_length
  have b := f.zl
  have c := f.h
  have d := f.t
  omega
/-! ### shorteners and rows in the heap -/
def ShAt (C : Addr) (H : Hp) (x : Addr) (r : Rec) : Prop := ∃ dx b, H x = some (.ins C dx (flds r b)) ∧ H b = some (.tup r.vs)
structure RowAt (C : Addr) (H : Hp) (a : Addr) (rs : List (Addr × Rec)) : Prop where
  tp : H a = some (.tup (rs.map fun q => V.ref q.1))
  sh : ∀ q ∈ rs, ShAt C H q.1 q.2 ∧ q.2.fit
theorem ShAt.same {C : Addr} {H G : Hp} {x : Addr} {r : Rec} (s : Same H G) (h : ShAt C H x r) : ShAt C G x r := by
  obtain ⟨dx, b, h1, h2⟩ := h
  exact ⟨dx, b, s _ _ h1, s _ _ h2⟩
theorem RowAt.same {C : Addr} {H G : Hp} {a : Addr} {rs : List (Addr × Rec)} (s : Same H G) (h : RowAt C H a rs) : RowAt C G a rs := ⟨s _ _ h.tp, fun q hq => ⟨(h.sh q hq).1.same s, (h.sh q hq).2⟩⟩
section
variable {P : Program} {w : World} {K : PySem.W.Frag} {mg : Str → Option Value} {base : Heap} {C : Addr}
/-! ### check_row, check_text -/
def spCheckRow (C : Addr) : Sp := fun vs H Q _ => ∃ (a : Addr) (rs : List (Addr × Rec)), vs = [.ref a] ∧ RowAt C H a rs ∧ 1 ≤ rs.length ∧ rs.length ≤ 4 ∧ ∀ G, Same H G → Q .non G
theorem cal_checkRow (B : Bi mg) (S : ShC K mg C) (D : At K mg "check_row" s_check_row ps_check_row) (C_is_tuple : Cal P w K mg base 1 "is_tuple" ps_is_tuple (spIsTuple K)) : Cal P w K mg base 2 "check_row" ps_check_row (spCheckRow C) := by
  refine D.cal sc_check_row (fun vs H Q E h => ?_) (fun f cdv A outer s H vs Q E hr h => ?_)
  · obtain ⟨a, rs, rfl, _⟩ := h
    rfl
  · obtain ⟨a, rs, rfl, hR, l1, l4, k⟩ := h
    refine ⟨_, (pss_cons (ps_if (pt_not (pt_val (pe_own C_is_tuple hr (by decide) (by rfl) (pa_cons (pv 0) (pa_cons pe_int (pa_cons (pe_cst B.MOST_ROW (by rfl)) pa_nil)))))) pss_never pss_nil)
      (pss_one (ps_for PassesOwn.never rfl (pi_enT (by rfl) B.enumerate (pa_cons (pv 0) pa_nil)) (pg_tup rfl (pgs_cons (pg_name (i := 1) sc_check_row.nd rfl (.inl rfl)) (pgs_cons (pg_name (i := 2) sc_check_row.nd rfl (.inl rfl)) pgs_nil)))
      (pss_one (ps_if (pt_not (pt_val (pe_callB call_isi (by rfl) B.isinstance (by decide +kernel) (pa_cons (pv 2) (pa_cons (pe_glob (v := .ref C) (by rfl) S.g rfl) pa_nil))))) pss_never pss_nil))))), ?_⟩
    refine ⟨_, rfl, _, _, _, rfl, .inl ⟨a, _, rfl, .inl (.inl hR.tp), _, rfl, ?_⟩⟩
    rw [decide_eq_true (show (1 : Int) ≤ ((rs.map fun q => V.ref q.1).length : Int) ∧ ((rs.map fun q => V.ref q.1).length : Int) ≤ 4 by rw [List.length_map]; omega)]
    refine iteF ⟨_, rfl, a, _, rfl, .inl (.inl hR.tp), for_it walk_enT (fun i σ J => ∃ u v, σ = [some (.ref a), u, v] ∧ Same H J) ⟨none, none, rfl, Same.refl H⟩ (fun i σ J _ ⟨_, _, _, sJ⟩ => .inl (.inl (sJ _ _ hR.tp))) ?_ ?_⟩
    · rintro i v σ J J1 hi ⟨u, v2, rfl, sJ⟩ ⟨T, x, hx, rfl, nT, rfl⟩
      obtain ⟨q, hq, rfl⟩ : ∃ q ∈ rs, x = .ref q.1 := by
        obtain ⟨q, h1, h2⟩ := List.mem_map.mp (List.mem_of_getElem? hx)
        exact ⟨q, h1, h2.symm⟩
      have sT : Same H (upd J T (.tup [.int (i : Nat), .ref q.1])) := sJ.trans (same_new nT)
      obtain ⟨dx, b, e1, _⟩ := ((hR.sh q hq).1).same sT
      refine ⟨T, _, rfl, .inl (.inl upd_same), rfl, _, _, rfl, _, _, rfl, rfl, ?_⟩
      refine ⟨_, rfl, _, _, _, _, true, rfl, .own C, .base (.ins e1 S.cl S.ha S.hn S.ht S.hm), S.kk, _, rfl, iteF ⟨_, _, rfl, sT⟩⟩
    · rintro σ J ⟨u, v, rfl, sJ⟩
      exact k J sJ
def spCheckText : Sp := fun vs H Q _ => ∃ (z : Str), vs = [.str z] ∧ isTxt z 200 = true ∧ ∀ G, Same H G → Q .non G
theorem cal_checkText (B : Bi mg) (D : At K mg "check_text" s_check_text ps_check_text) (C_is_text : Cal P w K mg base 1 "is_text" ps_is_text (spIsText K)) : Cal P w K mg base 2 "check_text" ps_check_text spCheckText := by
  refine D.cal sc_check_text (fun vs H Q E h => ?_) (fun f cdv A outer s H vs Q E hr h => ?_)
  · obtain ⟨z, rfl, _⟩ := h
    rfl
  · obtain ⟨z, rfl, hz, k⟩ := h
    have zl := isTxt_len hz
    refine ⟨_, (pss_one (ps_if (pt_not (pt_val (pe_own C_is_text hr (by decide) (by rfl) (pa_cons (pv 0) (pa_cons (pe_cst B.MOST_TEXT (by rfl)) pa_nil))))) pss_never pss_nil)), ?_⟩
    refine ⟨_, rfl, _, _, rfl, .inl ⟨z, rfl, by omega, fun G sG => ⟨_, rfl, ?_⟩⟩⟩
    rw [hz]
    exact iteF (k G sG)
/-! ### shortened: of a text -/
def spShortS (C : Addr) : Sp := fun vs H Q _ => ∃ (x : Addr) (r : Rec) (z : Str), vs = [.ref x, .str z, .str r.z] ∧ ShAt C H x r ∧ r.fit ∧ z.length ≤ 1000 ∧ ∀ y : Str, y.cps.toList = r.cut z.cps.toList → Q (.str y) H
theorem cal_shortS (B : Bi mg) (S : ShC K mg C) (D : At K mg "shortened" s_shortened ps_shortened) : Cal P w K mg base 1 "shortened" ps_shortened (spShortS C) := by
  refine D.cal sc_shortened (fun vs H Q E h => ?_) (fun f cdv A outer s H vs Q E hr h => ?_)
  · obtain ⟨x, r, z, rfl, _⟩ := h
    rfl
  · obtain ⟨x, r, z, rfl, ⟨dx, b, hx, _⟩, fit, zl, k⟩ := h
    have ez : z.length = z.cps.toList.length := rfl
    have zs : z.length ≤ sizeLine := Nat.le_of_lt (small1000 zl)
    have f1 := fit.l
    have f2 := fit.h
    have f3 := fit.t
    have f4 := fit.zl
    refine ⟨_, (pss_cons (ps_if (pt_cmpR op_le (pe_callB call_len (by rfl) B.len (by decide +kernel) (pa_cons (pv 1) pa_nil)) (pe_fld (pv 0) rfl) (nomark _)) (pss_one (ps_ret (pv 1))) pss_nil)
      (pss_cons (ps_set (i := 3) sc_shortened.nd rfl (.inl rfl) (pe_callB (call_max2 rfl) (by rfl) B.max (by decide +kernel) (pa_cons pe_int (pa_cons (pe_op op_sub (pe_callB call_len (by rfl) B.len (by decide +kernel) (pa_cons (pv 1) pa_nil)) (pe_fld (pv 0) rfl)) pa_nil))))
      (pss_one (ps_ret (pe_op op_add_str (pe_op op_add_str (pe_slice sl_str (pv 1) po_none (po_some (pe_fld (pv 0) rfl))) (pv 2)) (pe_slice sl_str (pv 1) (po_some (pv 3)) po_none)))))), ?_⟩
    refine ⟨_, rfl, _, _, rfl, ⟨zs, rfl⟩, _, rfl, x, C, dx, _, _, rfl, hx, S.cl, S.nL, flds_limit _ _, _, _, rfl, rfl, _, rfl, ite2 (fun e => ?_) (fun e => ?_)⟩
    · have e1 := of_decide_eq_true e
      refine ⟨_, rfl, k z ?_⟩
      unfold Rec.cut cut
      rw [if_pos (by omega)]
    · have e1 : ¬ (z.length : Int) ≤ r.l := fun h => e (decide_eq_true h)
      refine ⟨_, rfl, _, _, rfl, ⟨zs, rfl⟩, _, rfl, x, C, dx, _, _, rfl, hx, S.cl, S.nT, flds_tail _ _, _, _, rfl, rfl, _, _, rfl, ?_⟩
      refine ⟨_, rfl, _, rfl, x, C, dx, _, _, rfl, hx, S.cl, S.nH, flds_head _ _, _, rfl, z, rfl, zs, _, rfl, _, _, rfl, rfl, ?_, _, rfl, _, rfl, _, rfl, z, rfl, zs, _, _, rfl, rfl, ?_, k _ ?_⟩
      · have a := cutS_length z none (some r.h)
        have b : r.z.length = r.z.cps.toList.length := rfl
        exact Nat.le_of_lt (Nat.lt_of_le_of_lt (show _ ≤ 2000 by omega) (by decide))
      · have a := cutS_length z none (some r.h)
        have b : r.z.length = r.z.cps.toList.length := rfl
        have c := cutS_length z (some (if (z.length : Int) - r.t > 0 then (z.length : Int) - r.t else 0)) none
        have d : (cutS z none (some r.h) ++ r.z).length = (cutS z none (some r.h)).length + r.z.length := by
          show (cutS z none (some r.h) ++ r.z).cps.toList.length = _
          rw [app_cps, List.length_append]
          rfl
        exact Nat.le_of_lt (Nat.lt_of_le_of_lt (show _ ≤ 4000 by omega) (by decide))
      · rw [app_cps, app_cps]
        have a : (cutS z none (some r.h)).cps.toList = z.cps.toList.take r.h.toNat := by
          show ((z.cps.toList.drop _).take _).toArray.toList = _
          rw [List.toList_toArray]
          exact cut_front z.cps.toList f2.1
        have c : (cutS z (some (if (z.length : Int) - r.t > 0 then (z.length : Int) - r.t else 0)) none).cps.toList = z.cps.toList.drop (z.cps.toList.length - r.t.toNat) := by
          show ((z.cps.toList.drop _).take _).toArray.toList = _
          rw [List.toList_toArray]
          have q := cut_back z.cps.toList (h := if (z.length : Int) - r.t > 0 then (z.length : Int) - r.t else 0) (by split <;> omega)
          have n : (if (z.length : Int) - r.t > 0 then (z.length : Int) - r.t else 0).toNat = z.cps.toList.length - r.t.toNat := by split <;> omega
          rw [n] at q
          exact q
        rw [a, c]
        unfold Rec.cut cut
        rw [if_neg (show ¬ z.cps.toList.length ≤ r.l.toNat by omega)]
/-! ### shown_by, show -/
theorem Rec.fit.cut_lenW {r : Rec} (f : r.fit) {xs : List Nat} (h : xs.length ≤ 600) : (r.cut xs).length ≤ 600 := by
  have a : (r.cut xs).length ≤ _ := cut_length
  have b := f.zl
  have c := f.h
  have d := f.t
  omega
def spShownBy (C : Addr) : Sp := fun vs H Q _ => ∃ (a : Addr) (rs : List (Addr × Rec)) (z : Str), vs = [.ref a, .str z] ∧ RowAt C H a rs ∧ z.cps.toList.length ≤ 600 ∧ ∀ (y : Str), y.cps.toList = cuts (rs.map (·.2)) z.cps.toList → Q (.str y) H
theorem cal_shownBy (B : Bi mg) (S : ShC K mg C) (D : At K mg "shown_by" s_shown_by ps_shown_by) (C_shortened : Cal P w K mg base 1 "shortened" ps_shortened (spShortS C)) : Cal P w K mg base 2 "shown_by" ps_shown_by (spShownBy C) := by
  refine D.cal sc_shown_by (fun vs H Q E h => ?_) (fun f cdv A outer s H vs Q E hr h => ?_)
  · obtain ⟨a, rs, z, rfl, _⟩ := h
    rfl
  · obtain ⟨a, rs, z, rfl, R2, zl, k⟩ := h
    refine ⟨_, (pss_cons (ps_set (i := 2) sc_shown_by.nd rfl (.inl rfl) (pv 1))
      (pss_cons (ps_for PassesOwn.never rfl (pi_tup (pv 0)) (pg_name (i := 3) sc_shown_by.nd rfl (.inl rfl))
      (pss_one (ps_set (i := 2) sc_shown_by.nd rfl (.inl rfl) (pe_own C_shortened hr (by decide) (by rfl) (pa_cons (pv 3) (pa_cons (pv 2) (pa_cons (pe_fld (pv 3) rfl) pa_nil)))))))
      (pss_one (ps_ret (pv 2))))), ?_⟩
    refine ⟨_, rfl, _, rfl, a, rfl, ⟨_, .inl (.inl R2.tp)⟩, for_tup (K := K) (a := a) (xs := rs.map fun q => V.ref q.1) (fun i σ J => ∃ (y : Str) (u : Option V), σ = [some (.ref a), some (.str z), some (.str y), u] ∧ J = H ∧ y.cps.toList = cuts ((rs.take i).map (·.2)) z.cps.toList ∧ y.cps.toList.length ≤ 600)
      ⟨z, none, rfl, rfl, rfl, zl⟩ (fun i σ J _ ⟨_, _, _, e, _⟩ => by rw [e]; exact .inl (.inl R2.tp)) ?_ ?_⟩
    · rintro i v σ J hi ⟨y, u, rfl, rfl, ey, ly⟩
      rw [List.getElem?_map] at hi
      cases hq : rs[i]? with
      | none =>
        rw [hq] at hi
        cases hi
      | some q =>
        rw [hq] at hi
        cases hi
        have mq : q ∈ rs := List.mem_of_getElem? hq
        obtain ⟨sq, fq⟩ := R2.sh q mq
        obtain ⟨dx, b, e1, e2⟩ := id sq
        have lz : y.length = y.cps.toList.length := rfl
        refine ⟨_, rfl, _, rfl, _, rfl, q.1, C, dx, _, _, rfl, e1, S.cl, S.nM, flds_mark _ _, q.1, q.2, y, rfl, sq, fq, by omega, fun y2 h2 => ⟨y2, _, rfl, rfl, ?_, ?_⟩⟩
        · rw [h2, ey, List.take_add_one, hq]
          unfold cuts
          rw [List.map_append, List.foldl_append]
          rfl
        · rw [h2]
          exact fq.cut_lenW ly
    · rintro σ J ⟨y, u, rfl, rfl, ey, ly⟩
      rw [List.length_map, List.take_length] at ey
      exact ⟨_, rfl, k y ey⟩
def spShow (C : Addr) : Sp := fun vs H Q _ => ∃ (a : Addr) (rs : List (Addr × Rec)) (z : Str), vs = [.ref a, .str z] ∧ RowAt C H a rs ∧ 1 ≤ rs.length ∧ rs.length ≤ 4 ∧ isTxt z 200 = true ∧ ∀ (y : Str) (G : Hp), Same H G → y.cps.toList = cuts (rs.map (·.2)) z.cps.toList → Q (.str y) G
end
end Gu
namespace Gu
open PySem PySem.Spec PyProof.Rows L2
/-! ### texts of single signs -/
def one (c : Nat) : Str := ⟨#[c]⟩
def ones (cs : List Nat) : List V := cs.map fun c => V.str (one c)
theorem join_ones : ∀ cs : List Nat, (Str.join ⟨#[]⟩ (cs.map one)).cps.toList = cs
  | [] => rfl
  | c :: r => by
    rw [List.map_cons, join_nil_cons, app_cps, join_ones r]
    rfl
theorem tjoin_ones (cs : List Nat) : (Txt.join "" (cs.map one)).cps.toList = cs := by
  have e : (("" : String) : Str) = ⟨#[]⟩ := by decide +kernel
  show (Builtin.Str.glued _ _).cps.toList = cs
  rw [e, StrLaws.glued_eq_join]
  exact join_ones cs
theorem ones_len (cs : List Nat) : ((cs.map one).map (·.length)).sum = cs.length := by
  induction cs with
  | nil => rfl
  | cons c r ih =>
    rw [List.map_cons, List.map_cons, List.sum_cons, ih]
    show 1 + r.length = r.length + 1
    omega
theorem ones_map (cs : List Nat) : ones cs = (cs.map one).map V.str := by
  unfold ones
  rw [List.map_map]
  rfl
def cutsV (rs : List Rec) (xs : List V) : List V := rs.foldl (fun acc r => cut r.l.toNat r.h.toNat r.t.toNat (ones r.z.cps.toList) acc) xs
theorem cut_map {α β : Type} (f : α → β) (l h t : Nat) (m xs : List α) : cut l h t (m.map f) (xs.map f) = (cut l h t m xs).map f := by
  unfold cut
  rw [List.length_map]
  split
  · rfl
  · rw [List.map_append, List.map_append, List.map_take, List.map_drop]
theorem cutsV_ones : ∀ (rs : List Rec) (cs : List Nat), cutsV rs (ones cs) = ones (cuts rs cs)
  | [], _ => rfl
  | r :: rs, cs => by
    show cutsV rs (cut r.l.toNat r.h.toNat r.t.toNat (ones r.z.cps.toList) (ones cs)) = ones (cuts rs (r.cut cs))
    unfold ones
    rw [cut_map]
    exact cutsV_ones rs (r.cut cs)
theorem cuts_len : ∀ (rs : List Rec) {xs : List Nat}, (∀ r ∈ rs, r.fit) → xs.length ≤ 200 → (cuts rs xs).length ≤ 200
  | [], _, _, h => h
  | r :: rs, xs, hf, h => cuts_len rs (xs := r.cut xs) (fun q hq => hf q (List.mem_cons_of_mem _ hq)) ((hf r (List.mem_cons_self ..)).cut_len h)
theorem ShAt.list {C : Addr} {H : Hp} {x M : Addr} {r : Rec} {acc ys : List V} (h : ShAt C H x r) (e : H M = some (.lst acc)) : ShAt C (upd H M (.lst ys)) x r := by
  obtain ⟨dx, b, h1, h2⟩ := h
  exact ⟨dx, b, by rw [upd_ne (ne_of h1 e (by intro z; cases z))]; exact h1, by rw [upd_ne (ne_of h2 e (by intro z; cases z))]; exact h2⟩
theorem ToldsAt.same {H G : Hp} {D : Addr} {ps : List (Addr × Rec)} (s : Same H G) (h : ToldsAt H D ps) : ToldsAt G D ps := ⟨s _ _ h.ls, fun q hq => ⟨s _ _ (h.tp q hq).1, (h.tp q hq).2⟩⟩
section
variable {P : Program} {w : World} {K : PySem.W.Frag} {mg : Str → Option Value} {base : Heap} {C : Addr}
/-! ### _law_made -/
def spMade (C : Addr) : Sp := fun vs H Q _ => ∃ (D : Addr) (ps : List (Addr × Rec)), vs = [.ref D] ∧ ToldsAt H D ps ∧ ps.length ≤ 4 ∧ ∀ (a : Addr) (G : Hp) (rs : List (Addr × Rec)), H a = none → RowAt C G a rs → rs.map (·.2) = ps.map (·.2) → Same H G → Q (.ref a) G
/-! ### _law_cut -/
theorem neg_back {α : Type} (xs : List α) {h : Int} (h0 : 0 < h) : (xs.drop (HT.sIx xs.length 0 (some (-h)))).take (HT.sIx xs.length xs.length none - HT.sIx xs.length 0 (some (-h))) = xs.drop (xs.length - h.toNat) := by
  have e : HT.sIx xs.length 0 (some (-h)) = xs.length - h.toNat := by
    show (if -h < 0 then (-h + (xs.length : Int)).toNat else min (-h).toNat xs.length) = _
    rw [if_pos (by omega)]
    omega
  rw [e, HT.sIx_none, List.take_of_length_le (by rw [List.length_drop]; omega)]
theorem cutsV_snoc (ps : List (Addr × Rec)) {i : Nat} {q : Addr × Rec} (h : ps[i]? = some q) (xs : List V) :
    cutsV ((ps.take (i + 1)).map (·.2)) xs = cut q.2.l.toNat q.2.h.toNat q.2.t.toNat (ones q.2.z.cps.toList) (cutsV ((ps.take i).map (·.2)) xs) := by
  rw [List.take_add_one, h, List.map_append]
  unfold cutsV
  rw [List.foldl_append]
  rfl
def spCut : Sp := fun vs H Q _ => ∃ (D T : Addr) (ps : List (Addr × Rec)) (xs : List V), vs = [.ref D, .ref T] ∧ ToldsAt H D ps ∧ H T = some (.lst xs) ∧ xs.length ≤ 600 ∧ ∀ (U : Addr) (G : Hp), Same H G → G U = some (.lst (cutsV (ps.map (·.2)) xs)) → Q (.ref U) G
end
end Gu
namespace Gu
open PySem PySem.Spec PyProof.Rows L2
/-! ### calls by keywords alone -/
structure CalK (P : Program) (w : World) (K : PySem.W.Frag) (mg : Str → Option Value) (base : Heap) (k : Nat) (x : Str) (ks : List Str) (gV : List V → List V) (sp : Sp) : Prop where
  ex : ∃ (f : Addr) (fd : FuncData) (ps : List Str) (g : List Value → List Value), FnOk P w K mg base CX0 k f fd ps sp ∧ mg x = some (.ref f) ∧ PySem.W.keepIn K (.ref f) = true ∧ KBn K fd ps 0 ks (fun _ ws => g ws) (fun _ zs => gV zs)
theorem Cal.kw {P : Program} {w : World} {K : PySem.W.Frag} {mg : Str → Option Value} {base : Heap} {k : Nat} {x : Str} {st : Stmt} {ps ks : List Str} {sp : Sp} (g : {α : Type} → List α → List α) (c : Cal P w K mg base k x ps sp) (D : At K mg x st ps)
    (hv : ∀ {zs : List V} {ws : List Value}, Vals zs ws → Vals (g zs) (g ws))
    (hb : ∀ (kV doc pm : Value) (an : Option Addr) (cdv ct : Value) (ws : List Value), ws.length = ks.length → bindArgs (PySem.W.fnOf x x (defArgs st) (defBody st) (defScope st) .none kV doc pm an cdv ct) ⟨[], ks.zip ws⟩ = pure (ps.zip (g ws))) : CalK P w K mg base k x ks g sp := by
  obtain ⟨f, fd, F, hm, kp, b, oc, od, sl, lk⟩ := c.ex
  obtain ⟨f2, fd2, F2, b2, hm2⟩ := D.ex
  cases hm.symm.trans hm2
  obtain ⟨oc2, od2, kV, doc, pm, an, cdv, ct, sl2, e, lk2, hcd⟩ := F2.ex
  cases lk.symm.trans lk2
  refine ⟨f, fd, ps, g, F, hm, kp, ⟨fun s us ws I l1 l2 => ?_, fun _ r => hv r⟩⟩
  cases us with
  | nil =>
    rw [e]
    exact BindsTo.of_eq (hb kV doc pm an cdv ct ws l2)
  | cons u r => cases l1
def tKw (m : Nat) (gV : List V → List V) (sp : Sp) (tk : TA) : TE := fun σ H Q => tk σ H fun zs G => zs.length = m ∧ sp (gV zs) G Q E0
section
variable {X : Cx} {k j : Nat} {x : Str} {ks : List Str} {gV : List V → List V} {sp : Sp} {p pos : Pos} {kws : List Keyword} {tk : TA}
theorem pe_kw (c : CalK X.prog X.w X.K X.mg X.base k x ks gV sp) (hr : Room j X.A) (hk : k ≤ j) (hg : Gl X x) (hkw : PK X kws tk) (hall : (backToKw pos (keywordEach kws X.env)).all (·.1.isSome) = true := by rfl)
    (hks : (backToKw pos (keywordEach kws X.env)).filterMap (·.1) = ks := by rfl) (hdb : (x == ("__debug__" : Str)) = false := by decide)
    (hpl : ((backTo pos (starEach [] X.env)).any (·.1) || (backToKw pos (keywordEach kws X.env)).any (·.1.isNone)) = false := by rfl) : PE X (.Call (.Name x p) [] kws pos) (tKw ks.length gV sp tk) := by
  obtain ⟨f, fd, ps, g, F, hm, kp, b⟩ := c.ex
  refine ⟨fun pins s σ H Q I h => ?_⟩
  refine wpAny_Call_Name_kw (ld_glob I hg hm ?_ hdb)
  refine PySem.W.callWith_KW0 (h₀ := X.base) I.ok.mod.kin kp hall ?_ hpl
  refine thn (hkw.run pos pins s σ H _ I h) fun ws s2 ⟨zs, G, I2, rz, l2, q2⟩ => ⟨I2.kIn, ?_⟩
  rw [hks]
  exact run_fnN (us := []) (vs := []) F (hr.mono hk) b pass0 I2 .nil rz rfl l2 q2
end
def swap2 {α : Type} : List α → List α
  | [a, b] => [b, a]
  | l => l
theorem swap2_vals {zs : List V} {ws : List Value} (r : Vals zs ws) : Vals (swap2 zs) (swap2 ws) := by
  cases r with
  | nil => exact .nil
  | cons a r =>
    cases r with
    | nil => exact .cons a .nil
    | cons b r =>
      cases r with
      | nil => exact .cons b (.cons a .nil)
      | cons c r => exact .cons a (.cons b (.cons c r))
theorem str_ext {a b : Str} (h : a.cps.toList = b.cps.toList) : a = b := by
  cases a
  cases b
  exact congrArg Str.mk (Array.ext' h)
end Gu
namespace Gu
open PySem PySem.Spec PyProof.Rows L2
section
variable {P : Program} {w : World} {K : PySem.W.Frag} {mg : Str → Option Value} {base : Heap} {C : Addr}
theorem Ladled.row {C : Addr} {H G : Hp} {p a : Addr} {rs : List (Addr × Rec)} (L : Ladled p H G) (hp : Pot H p) (h : RowAt C H a rs) : RowAt C G a rs := by
  obtain ⟨x, y, z, e⟩ := hp
  refine ⟨L.keep _ _ h.tp (ne_of h.tp e (by intro z; cases z)), fun q hq => ⟨?_, (h.sh q hq).2⟩⟩
  obtain ⟨dx, b, h1, h2⟩ := (h.sh q hq).1
  exact ⟨dx, b, L.keep _ _ h1 (ne_of h1 e (by intro z; cases z)), L.keep _ _ h2 (ne_of h2 e (by intro z; cases z))⟩
theorem Ladled.tolds {H G : Hp} {p D : Addr} {ps : List (Addr × Rec)} (L : Ladled p H G) (n : D ≠ p) (nq : ∀ q ∈ ps, q.1 ≠ p) (h : ToldsAt H D ps) : ToldsAt G D ps := ⟨L.keep _ _ h.ls n, fun q hq => ⟨L.keep _ _ (h.tp q hq).1 (nq q hq), (h.tp q hq).2⟩⟩
/-! ### signs stay signs -/
def Signs (xs : List Nat) : Prop := ∀ c ∈ xs, c ∈ signs.cps.toList
theorem isTxt_signs {z : Str} {m : Int} (h : isTxt z m = true) : Signs z.cps.toList := by
  unfold isTxt at h
  rw [Bool.and_eq_true, List.all_eq_true] at h
  exact fun c hc => of_decide_eq_true (h.2 c hc)
theorem cut_signs {l h t : Nat} {m xs : List Nat} (hm : Signs m) (hx : Signs xs) : Signs (cut l h t m xs) := by
  unfold cut
  split
  · exact hx
  · intro c hc
    rcases List.mem_append.mp hc with hc | hc
    · rcases List.mem_append.mp hc with hc | hc
      · exact hx c (List.mem_of_mem_take hc)
      · exact hm c hc
    · exact hx c (List.mem_of_mem_drop hc)
theorem cuts_signs : ∀ (rs : List Rec) {xs : List Nat}, (∀ r ∈ rs, r.fit) → Signs xs → Signs (cuts rs xs)
  | [], _, _, h => h
  | r :: rs, xs, hf, h => cuts_signs rs (xs := r.cut xs) (fun q hq => hf q (List.mem_cons_of_mem _ hq)) (cut_signs (isTxt_signs (hf r (List.mem_cons_self ..)).z) h)
theorem signs_ok {y : Str} (h : Signs y.cps.toList) : (PyData.str y).canLay0 = true := by
  have a : ∀ c ∈ signs.cps.toList, c < 0x110000 := by decide +kernel
  show y.cps.all _ = true
  rw [← Array.all_toList, List.all_eq_true]
  exact fun c hc => decide_eq_true (a c (h c hc))
theorem shaped_two {y z : Str} (hy : Signs y.cps.toList) (hz : Signs z.cps.toList) : SeqAt.shaped (.list [.str y, .str z]) = true := by
  have a := signs_ok hy
  have b := signs_ok hz
  show ((PyData.str y).canLay0 && ((PyData.str z).canLay0 && true) && true) = true
  rw [a, b]
  rfl
end
end Gu
namespace Gu
open PySem PySem.Spec PyProof.Rows L2
/-! ### tuples: cut, joined, made of a text -/
section
variable {K : PySem.W.Frag} {H : Hp} {a b : Addr} {xs ys : List V} {Q : VK}
theorem cat_ok (ha : H a = some (.tup xs)) (hb : H b = some (.tup ys)) (hl : xs.length + ys.length ≤ sizeLine) (q : ∀ U G, Same H G → G U = some (.tup (xs ++ ys)) → Q (.ref U) G) : rCatA K (.ref a) (.ref b) H Q := by
  refine ⟨a, b, xs, ys, rfl, rfl, .inl (.inl ha), .inl (.inl hb), hl, fun e => q b H (Same.refl H) ?_, fun _ e => q a H (Same.refl H) ?_, fun _ _ p np => q p _ (same_new np) upd_same⟩
  · rw [e]
    exact hb
  · rw [e, List.append_nil]
    exact ha
theorem sl_ok {lo hi : Option Int} (ha : H a = some (.tup xs)) (q : ∀ U G, Same H G → G U = some (.tup (cutV xs lo hi)) → Q (.ref U) G) : rSlA K (.ref a) lo hi H Q := by
  refine ⟨a, xs, rfl, .inl (.inl ha), fun ⟨e1, e2⟩ => q a H (Same.refl H) ?_, fun _ p np => q p _ (same_new np) upd_same⟩
  unfold cutV
  rw [e1, e2, List.drop_zero, Nat.sub_zero, List.take_length]
  exact ha
end
theorem noPart {σ : L2.St} {H : Hp} {Q : Option Int → Hp → Prop} (h : Q none H) : tNoPart σ H Q := h
theorem call_tupS {X : Cx} (hc : X.calm = true) : CallR X (.type "tuple") (fun vs H Q => ∃ z : Str, vs = [.str z] ∧ z.cps.toList.length ≤ 1000 ∧ ∀ q, H q = none → Q (.ref q) (upd H q (.tup (ones z.cps.toList)))) := by
  intro pins s σ H vs us Q I r h
  obtain ⟨z, rfl, hz, q⟩ := h
  cases r with
  | cons r rr =>
    cases rr
    obtain ⟨t, rfl⟩ := r
    have zs : z.cps.size ≤ sizeLine := Nat.le_of_lt (small1000 hz)
    refine call_tuple_str (I.ok.hd hc) z t (fun g tk acc keep its => ?_) zs
    have I2 : Inv X pins σ H { s with heap := g, toks := tk } := I.kept keep
    have rel : Vals (ones z.cps.toList) acc.toList := by
      have el : acc.toList.length = z.cps.toList.length := its.1
      have e : ones z.cps.toList = (List.range acc.toList.length).map fun j => V.str (one (z.cps.toList.getD j 0)) := by
        unfold ones
        rw [el]
        refine List.ext_getElem? fun j => ?_
        rw [List.getElem?_map, List.getElem?_map]
        by_cases hj : j < z.cps.toList.length
        · rw [List.getElem?_eq_getElem hj, List.getElem?_range hj]
          show some (V.str (one z.cps.toList[j])) = some (V.str (one (z.cps.toList.getD j 0)))
          rw [List.getD_eq_getElem?_getD, List.getElem?_eq_getElem hj]
          rfl
        · rw [List.getElem?_eq_none (by omega), List.getElem?_eq_none (by rw [List.length_range]; omega)]
          rfl
      rw [e]
      refine vals_of_get acc.toList _ fun j u hj => ?_
      obtain ⟨c, tt, hc1, rfl⟩ := its.2 j u (by rw [← hj, Array.getElem?_toList])
      refine ⟨tt, ?_⟩
      rw [List.getD_eq_getElem?_getD, Array.getElem?_toList, hc1]
      rfl
    refine ⟨.ref g.objs.size, upd H g.objs.size (.tup (ones z.cps.toList)), I2.laid (t' := tk) (fun c o e => Heap.get?_push_of_some _ e) (Nat.le_refl _) (show ObjOk X.prog X.w _ _ _ (.tup (ones z.cps.toList)) from ⟨?_, acc.toList, rel, ?_⟩), rfl, q _ (I2.hok.fresh (Nat.le_refl _))⟩
    · unfold ones
      rw [List.length_map]
      exact zs
    · rw [Array.toArray_toList]
      exact IsTup.new _ _
def rLenK (K : PySem.W.Frag) : List V → Hp → VK → Prop := fun xs H Q => ∃ (x : V) (n : Nat), xs = [x] ∧ LenV K x H n ∧ Q (.int n) H
/-! ### lengths of what is cut -/
def Rec.len (r : Rec) (n : Nat) : Nat := if n ≤ r.l.toNat then n else min r.h.toNat n + r.z.cps.toList.length + min r.t.toNat n
def lens (rs : List Rec) (n : Nat) : Nat := rs.foldl (fun n r => r.len n) n
theorem cut_len (r : Rec) (xs : List V) : (cut r.l.toNat r.h.toNat r.t.toNat (ones r.z.cps.toList) xs).length = r.len xs.length := by
  unfold cut Rec.len
  split
  · rfl
  · rw [List.length_append, List.length_append, List.length_take, List.length_drop]
    unfold ones
    rw [List.length_map]
    omega
theorem cutsV_length : ∀ (rs : List Rec) (xs : List V), (cutsV rs xs).length = lens rs xs.length
  | [], _ => rfl
  | r :: rs, xs => by
    show (cutsV rs (cut r.l.toNat r.h.toNat r.t.toNat (ones r.z.cps.toList) xs)).length = lens rs (r.len xs.length)
    rw [cutsV_length rs, cut_len]
theorem Rec.fit.len_le {r : Rec} (f : r.fit) {n : Nat} (h : n ≤ 500) : r.len n ≤ 500 := by
  have a := f.zl
  have b := f.h
  have c := f.t
  unfold Rec.len
  split <;> omega
theorem lens_le : ∀ (rs : List Rec) {n : Nat}, (∀ r ∈ rs, r.fit) → n ≤ 500 → lens rs n ≤ 500
  | [], _, _, h => h
  | r :: rs, n, hf, h => lens_le rs (n := r.len n) (fun q hq => hf q (List.mem_cons_of_mem _ hq)) ((hf r (List.mem_cons_self ..)).len_le h)
/-- from 41 signs on all is as for 41 -/
theorem lens_far {rs : List Rec} (hf : ∀ r ∈ rs, r.fit) (h1 : 1 ≤ rs.length) {n : Nat} (h : 41 ≤ n) : lens rs n = lens rs 41 := by
  cases rs with
  | nil => cases h1
  | cons r rs =>
    have f := hf r (List.mem_cons_self ..)
    have a := f.l
    have b := f.h
    have c := f.t
    have e : r.len n = r.len 41 := by
      unfold Rec.len
      rw [if_neg (by omega), if_neg (by omega)]
      omega
    show lens rs (r.len n) = lens rs (r.len 41)
    rw [e]
section
variable {P : Program} {w : World} {K : PySem.W.Frag} {mg : Str → Option Value} {base : Heap} {C : Addr}
/-! ### shortened: of a tuple -/
def spShortT (C : Addr) : Sp := fun vs H Q _ => ∃ (x W M : Addr) (r : Rec) (xs : List V), vs = [.ref x, .ref W, .ref M] ∧ ShAt C H x r ∧ r.fit ∧ H W = some (.tup xs) ∧ xs.length ≤ 1000 ∧ H M = some (.tup (ones r.z.cps.toList)) ∧
  ∀ U G, Same H G → G U = some (.tup (cut r.l.toNat r.h.toNat r.t.toNat (ones r.z.cps.toList) xs)) → Q (.ref U) G
theorem cal_shortT (B : Bi mg) (S : ShC K mg C) (D : At K mg "shortened" s_shortened ps_shortened) : Cal P w K mg base 1 "shortened" ps_shortened (spShortT C) := by
  refine D.cal sc_shortened (fun vs H Q E h => ?_) (fun f cdv A outer s H vs Q E hr h => ?_)
  · obtain ⟨x, W, M, r, xs, rfl, _⟩ := h
    rfl
  · obtain ⟨x, W, M, r, xs, rfl, ⟨dx, b, hx, _⟩, fit, hW, xl, hM, k⟩ := h
    have f1 := fit.l
    have f2 := fit.h
    have f3 := fit.t
    have f4 := fit.zl
    have ol : (ones r.z.cps.toList).length = r.z.cps.toList.length := by
      unfold ones
      rw [List.length_map]
    refine ⟨_, (pss_cons (ps_if (pt_cmpR op_le (pe_callB call_len (by rfl) B.len (by decide +kernel) (pa_cons (pv 1) pa_nil)) (pe_fld (pv 0) rfl) (nomark _)) (pss_one (ps_ret (pv 1))) pss_nil)
      (pss_cons (ps_set (i := 3) sc_shortened.nd rfl (.inl rfl) (pe_callB (call_max2 rfl) (by rfl) B.max (by decide +kernel) (pa_cons pe_int (pa_cons (pe_op op_sub (pe_callB call_len (by rfl) B.len (by decide +kernel) (pa_cons (pv 1) pa_nil)) (pe_fld (pv 0) rfl)) pa_nil))))
      (pss_one (ps_ret (pe_op op_catA (pe_op op_catA (pe_slice sl_tupA (pv 1) po_none (po_some (pe_fld (pv 0) rfl))) (pv 2)) (pe_slice sl_tupA (pv 1) (po_some (pv 3)) po_none)))))), ?_⟩
    refine ⟨_, rfl, _, _, rfl, .inr ⟨_, .inl (.inl hW), rfl⟩, _, rfl, x, C, dx, _, _, rfl, hx, S.cl, S.nL, flds_limit _ _, _, _, rfl, rfl, _, rfl, ite2 (fun e => ?_) (fun e => ?_)⟩
    · have e1 := of_decide_eq_true e
      refine ⟨_, rfl, k W H (Same.refl H) ?_⟩
      unfold cut
      rw [if_pos (by omega)]
      exact hW
    · have e1 : ¬ (xs.length : Int) ≤ r.l := fun h => e (decide_eq_true h)
      refine ⟨_, rfl, _, _, rfl, .inr ⟨_, .inl (.inl hW), rfl⟩, _, rfl, x, C, dx, _, _, rfl, hx, S.cl, S.nT, flds_tail _ _, _, _, rfl, rfl, _, _, rfl, ?_⟩
      refine ⟨_, rfl, _, rfl, x, C, dx, _, _, rfl, hx, S.cl, S.nH, flds_head _ _, _, rfl, sl_ok hW fun U1 G1 s1 e1 => ?_⟩
      have c1 : cutV xs none (some r.h) = xs.take r.h.toNat := cut_front xs f2.1
      rw [c1] at e1
      refine ⟨_, rfl, cat_ok e1 (s1 _ _ hM) (Nat.le_of_lt (Nat.lt_of_le_of_lt (show _ ≤ 2000 by rw [List.length_take]; omega) (by decide))) fun U2 G2 s2 e2 => ?_⟩
      refine ⟨_, rfl, _, rfl, _, rfl, ?_⟩
      refine noPart ?_
      refine sl_ok (s2 _ _ (s1 _ _ hW)) fun U3 G3 s3 e3 => ?_
      have c3 : cutV xs (some (if (xs.length : Int) - r.t > 0 then (xs.length : Int) - r.t else 0)) none = xs.drop (xs.length - r.t.toNat) := by
        have q := cut_back xs (h := if (xs.length : Int) - r.t > 0 then (xs.length : Int) - r.t else 0) (by split <;> omega)
        have n : (if (xs.length : Int) - r.t > 0 then (xs.length : Int) - r.t else 0).toNat = xs.length - r.t.toNat := by split <;> omega
        rw [n] at q
        exact q
      rw [c3] at e3
      refine cat_ok (s3 _ _ e2) e3 (Nat.le_of_lt (Nat.lt_of_le_of_lt (show _ ≤ 4000 by rw [List.length_append, List.length_take, List.length_drop]; omega) (by decide))) fun U4 G4 s4 e4 => k U4 G4 (s1.trans (s2.trans (s3.trans s4))) ?_
      rw [e4]
      unfold cut
      rw [if_neg (show ¬ xs.length ≤ r.l.toNat by omega)]
/-! ### planned, check_length, plan, widest -/
theorem cutsV_snoc' (rs : List (Addr × Rec)) {i : Nat} {q : Addr × Rec} (h : rs[i]? = some q) (xs : List V) :
    cutsV ((rs.take (i + 1)).map (·.2)) xs = cut q.2.l.toNat q.2.h.toNat q.2.t.toNat (ones q.2.z.cps.toList) (cutsV ((rs.take i).map (·.2)) xs) := cutsV_snoc rs h xs
def spPlanned (C : Addr) : Sp := fun vs H Q _ => ∃ (a : Addr) (n : Nat) (rs : List (Addr × Rec)), vs = [.ref a, .int (n : Int)] ∧ RowAt C H a rs ∧ n ≤ 500 ∧ ∀ U G, Same H G → G U = some (.tup (cutsV (rs.map (·.2)) (rgV 0 n))) → Q (.ref U) G
theorem cal_planned (B : Bi mg) (S : ShC K mg C) (D : At K mg "planned" s_planned ps_planned) (C_shortened : Cal P w K mg base 1 "shortened" ps_shortened (spShortT C)) : Cal P w K mg base 2 "planned" ps_planned (spPlanned C) := by
  refine D.cal sc_planned (fun vs H Q E h => ?_) (fun f cdv A outer s H vs Q E hr h => ?_)
  · obtain ⟨a, n, rs, rfl, _⟩ := h
    rfl
  · obtain ⟨a, n, rs, rfl, hR, hn, k⟩ := h
    refine ⟨_, (pss_cons (ps_set (i := 2) sc_planned.nd rfl (.inl rfl) (pe_tupRg (by rfl) (by rfl) B.tuple (prg_1 (by rfl) B.range (pv 1))))
      (pss_cons (ps_for PassesOwn.never rfl (pi_tup (pv 0)) (pg_name (i := 3) sc_planned.nd rfl (.inl rfl))
      (pss_one (ps_set (i := 2) sc_planned.nd rfl (.inl rfl) (pe_own C_shortened hr (by decide) (by rfl) (pa_cons (pv 3) (pa_cons (pv 2) (pa_cons (pe_callTy (call_tupS rfl) (by rfl) B.tuple (by decide +kernel) (pa_cons (pe_fld (pv 3) rfl) pa_nil)) pa_nil)))))))
      (pss_one (ps_ret (pv 2))))), ?_⟩
    refine ⟨_, rfl, _, rfl, RgOk.of_le (by omega) (by omega) (by omega) (by omega), fun T nT => ?_⟩
    have s0 : Same H (upd H T (.tup (rgV 0 n))) := same_new nT
    have R0 := hR.same s0
    refine ⟨_, rfl, a, rfl, ⟨_, .inl (.inl R0.tp)⟩, for_tup (K := K) (a := a) (xs := rs.map fun q => V.ref q.1) (fun i σ J => ∃ (U : Addr) (u : Option V), σ = [some (.ref a), some (.int (n : Int)), some (.ref U), u] ∧ Same H J ∧ J U = some (.tup (cutsV ((rs.take i).map (·.2)) (rgV 0 n))))
      ⟨T, none, rfl, s0, upd_same⟩ (fun i σ J _ ⟨_, _, _, sJ, _⟩ => .inl (.inl (sJ _ _ hR.tp))) ?_ ?_⟩
    · rintro i v σ J hi ⟨U, u, rfl, sJ, eU⟩
      rw [List.getElem?_map] at hi
      cases hq : rs[i]? with
      | none =>
        rw [hq] at hi
        cases hi
      | some q =>
        rw [hq] at hi
        cases hi
        obtain ⟨sq, fq⟩ := (hR.same sJ).sh q (List.mem_of_getElem? hq)
        obtain ⟨dx, b, e1, e2⟩ := id sq
        refine ⟨_, rfl, _, rfl, _, rfl, q.1, C, dx, _, _, rfl, e1, S.cl, S.nM, flds_mark _ _, q.2.z, rfl, by have := fq.zl; omega, fun M nM => ?_⟩
        have s1 : Same J (upd J M (.tup (ones q.2.z.cps.toList))) := same_new nM
        refine ⟨q.1, U, M, q.2, _, rfl, sq.same s1, fq, s1 _ _ eU, ?_, upd_same, fun U2 G s2 e3 => ⟨U2, _, rfl, sJ.trans (s1.trans s2), ?_⟩⟩
        · rw [cutsV_length]
          have := lens_le ((rs.take i).map (·.2)) (n := (rgV 0 n).length) (fun r hr => by
            obtain ⟨p, hp, rfl⟩ := List.mem_map.mp hr
            exact (hR.sh p (List.mem_of_mem_take hp)).2) (by rw [rgV_length]; omega)
          omega
        · rw [e3, cutsV_snoc' rs hq]
    · rintro σ J ⟨U, u, rfl, sJ, eU⟩
      rw [List.length_map, List.take_length] at eU
      exact ⟨_, rfl, k U J sJ eU⟩
def spCheckLength : Sp := fun vs H Q _ => ∃ (n : Nat), vs = [.int (n : Int)] ∧ n ≤ 500 ∧ Q .non H
theorem cal_checkLength (B : Bi mg) (D : At K mg "check_length" s_check_length ps_check_length) (C_is_integer : Cal P w K mg base 1 "is_integer" ps_is_integer (spIsInteger K)) : Cal P w K mg base 2 "check_length" ps_check_length spCheckLength := by
  refine D.cal sc_check_length (fun vs H Q E h => ?_) (fun f cdv A outer s H vs Q E hr h => ?_)
  · obtain ⟨n, rfl, _⟩ := h
    rfl
  · obtain ⟨n, rfl, hn, k⟩ := h
    refine ⟨_, (pss_one (ps_if (pt_not (pt_val (pe_own C_is_integer hr (by decide) (by rfl) (pa_cons (pv 0) (pa_cons pe_int (pa_cons (pe_cst B.MOST_LENGTH (by rfl)) pa_nil)))))) pss_never pss_nil)), ?_⟩
    refine ⟨_, rfl, _, _, _, rfl, .inl ⟨_, rfl, _, rfl, ?_⟩⟩
    rw [decide_eq_true (show (0 : Int) ≤ (n : Int) ∧ (n : Int) ≤ 500 by omega)]
    exact iteF k
def spPlan (C : Addr) : Sp := fun vs H Q _ => ∃ (a : Addr) (n : Nat) (rs : List (Addr × Rec)), vs = [.ref a, .int (n : Int)] ∧ RowAt C H a rs ∧ 1 ≤ rs.length ∧ rs.length ≤ 4 ∧ n ≤ 500 ∧ ∀ U G, Same H G → G U = some (.tup (cutsV (rs.map (·.2)) (rgV 0 n))) → Q (.ref U) G
def wides (rs : List Rec) (n : Nat) : List Int := (List.range n).map fun i => (lens rs i : Int)
def Top (m : Int) (ns : List Int) : Prop := m ∈ ns ∧ ∀ y ∈ ns, y ≤ m
theorem Top.one {m k : Int} {ns : List Int} (a : Top m ns) (b : Top k ns) : m = k := Int.le_antisymm (b.2 m a.1) (a.2 k b.1)
theorem wides_top {rs : List Rec} (hf : ∀ r ∈ rs, r.fit) (h1 : 1 ≤ rs.length) {m : Int} {n : Nat} (hn : 42 ≤ n) (h : Top m (wides rs 42)) : Top m (wides rs n) := by
  obtain ⟨a, b⟩ := h
  unfold wides at a b ⊢
  obtain ⟨i, hi, rfl⟩ := List.mem_map.mp a
  refine ⟨List.mem_map.mpr ⟨i, List.mem_range.mpr (by have := List.mem_range.mp hi; omega), rfl⟩, fun y hy => ?_⟩
  obtain ⟨j, hj, rfl⟩ := List.mem_map.mp hy
  by_cases hj2 : j < 42
  · exact b _ (List.mem_map.mpr ⟨j, List.mem_range.mpr hj2, rfl⟩)
  · rw [lens_far hf h1 (show 41 ≤ j by omega)]
    exact b _ (List.mem_map.mpr ⟨41, List.mem_range.mpr (by decide), rfl⟩)
def spWidest (C : Addr) : Sp := fun vs H Q _ => ∃ (a : Addr) (rs : List (Addr × Rec)), vs = [.ref a] ∧ RowAt C H a rs ∧ 1 ≤ rs.length ∧ rs.length ≤ 4 ∧ ∀ m G, Same H G → Top m (wides (rs.map (·.2)) 42) → Q (.int m) G
end
end Gu
namespace Gu
open PySem PySem.Spec PyProof.Rows L2 LamX
/-! ### heaps with tables -/
/-- all but tables stands -/
def SameN (H G : Hp) : Prop := ∀ c o, H c = some o → (∀ ps, o ≠ .tbl ps) → G c = some o
theorem SameN.refl (H : Hp) : SameN H H := fun _ _ e _ => e
theorem SameN.trans {H G J : Hp} (a : SameN H G) (b : SameN G J) : SameN H J := fun c o e n => b c o (a c o e n) n
theorem Same.n {H G : Hp} (a : Same H G) : SameN H G := fun c o e _ => a c o e
theorem SameN.lst {H G : Hp} (s : SameN H G) {a : Addr} {xs : List V} (h : H a = some (.lst xs)) : G a = some (.lst xs) := s _ _ h fun _ z => by cases z
theorem SameN.tup {H G : Hp} (s : SameN H G) {a : Addr} {xs : List V} (h : H a = some (.tup xs)) : G a = some (.tup xs) := s _ _ h fun _ z => by cases z
theorem SameN.xd {H G : Hp} (s : SameN H G) {a : Addr} {xs : List (Str × V)} (h : H a = some (.xd xs)) : G a = some (.xd xs) := s _ _ h fun _ z => by cases z
theorem SameN.ins {H G : Hp} (s : SameN H G) {a C dx : Addr} {fs : List (Str × V)} (h : H a = some (.ins C dx fs)) : G a = some (.ins C dx fs) := s _ _ h fun _ z => by cases z
theorem SameN.sys {H G : Hp} (s : SameN H G) (h : Sys H) : Sys G := by
  obtain ⟨o, u, e⟩ := h
  exact ⟨o, u, s _ _ e fun _ z => by cases z⟩
theorem SameN.sqT {K : PySem.W.Frag} {H G : Hp} {a : Addr} {xs : List V} (s : SameN H G) (h : SqT K H a xs) : SqT K G a xs := by
  rcases h with (h | ⟨o, h⟩) | h
  · exact .inl (.inl (s.tup h))
  · exact .inl (.inr ⟨o, s _ _ h fun _ z => by cases z⟩)
  · exact .inr h
theorem SameN.sqL {K : PySem.W.Frag} {H G : Hp} {a : Addr} {xs : List V} (s : SameN H G) (h : SqL K H a xs) : SqL K G a xs := by
  rcases h with (h | ⟨o, h⟩) | h
  · exact .inl (.inl (s.lst h))
  · exact .inl (.inr ⟨o, s _ _ h fun _ z => by cases z⟩)
  · exact .inr h
mutual
theorem DpE.sameN {K : PySem.W.Frag} {H G : Hp} (s : SameN H G) : ∀ {v : V} {d : PyData}, DpE K H v d → DpE K G v d
  | _, _, .non => .non
  | _, _, .bl b => .bl b
  | _, _, .int i => .int i
  | _, _, .str x => .str x
  | _, _, .lst h a => .lst (s.lst h) (DpEs.sameN s a)
  | _, _, .tup h a => .tup (s.sqT h) (DpEs.sameN s a)
  | _, _, .dict h => .dict (s _ _ h fun _ z => by cases z)
theorem DpEs.sameN {K : PySem.W.Frag} {H G : Hp} (s : SameN H G) : ∀ {vs : List V} {ds : List PyData}, DpEs K H vs ds → DpEs K G vs ds
  | _, _, .nil => .nil
  | _, _, .cons a b => .cons (DpE.sameN s a) (DpEs.sameN s b)
end
/-- from H to G the pot at p may have changed and tables may have grown, the rest stands -/
structure LadT (T : List (Addr × Str)) (p : Addr) (H G : Hp) : Prop where
  pot : Pot G p
  keep : ∀ c o, H c = some o → c ≠ p → (∀ ps, o ≠ .tbl ps) → G c = some o
  tabs : Tabs T G
  sys : Sys G
/-! ### defs that make lambdas -/
structure AtC (K : PySem.W.Frag) (mg : Str → Option Value) (x : Str) (st : Stmt) (ps : List Str) (c : Addr) : Prop where
  ex : ∃ (f : Addr) (fd : FuncData), Fun K x x st f fd ∧ Binds K fd ps [] ∧ mg x = some (.ref f) ∧ fd.code = .ref c
section
variable {P : Program} {w : World} {K : PySem.W.Frag} {mg : Str → Option Value} {base : Heap}
theorem okGT {x qual : Str} {st : Stmt} {f c : Addr} {fd : FuncData} {N ps : List Str} {k : Nat} {sp : Sp} (F : Fun K x qual st f fd) (hc : fd.code = .ref c) (S : FnScope N ps (defScope st)) (len : ∀ vs H Q E, sp vs H Q E → vs.length = ps.length)
    (body : ∀ (A : Around) (outer : List Env) (s : Shared) (H : Hp) (vs : List V) (Q : VK) (E : XK), Room k (A.deeper (envOfC qual (defScope st) s.heap.objs.size f (.ref c))) → A.guards = some [] → sp vs H Q E →
      ∃ t, PSs (cxOf CX0 P w K mg base N qual (defScope st) f (.ref c) A outer s H E).nox (defBody st) t ∧ t { nx := fun _ G => Q .non G, rt := Q } (start N vs) H) : FnG P w K mg base (k + 1) f fd ps sp := by
  obtain ⟨oc, od, kV, doc, pm, an, cdv, ct, osl, rfl, lk, hcd⟩ := F.ex
  obtain rfl : cdv = .ref c := hc
  refine ⟨len, fun A outer s H args us vs Q E room quiet env binds rel want => ?_⟩
  have stays : ∀ b o, base.get? b = some o → s.heap.get? b = some o := fun b o e => (env.bs b o e).1
  have inK : K.In s.heap := env.mod.kin.keeps stays
  have free : s.heap.NoLimit := env.mod.nolimit.keeps stays
  refine codeAny_call_function room.depth (inK _ _ lk) rfl S.co S.gen rfl (PySem.W.codeRec_of inK hcd) (binds _ _ _ _ ?_)
  refine wpAny_newFunctionEnv_cells S.kind (fun ⟨n, v⟩ hy => (S.par n (List.of_mem_zip hy).1).imp id fun q => ⟨q, PySem.W.cellsFrom_some _ _ _ (.inl q)⟩) fun env1 e1 s1 c1 => ?_
  subst e1
  refine ⟨free.keeps c1.toInCall.keep, codeAny_func ?_⟩
  obtain ⟨t, d, q⟩ := body A outer s H vs Q E (room.deeper _) quiet want
  refine wpAny_mono (d.nox.run [] s1 (start N vs) H _ (inv_start S room.hd env (len _ _ _ _ want) rel c1) q) (fun fl s2 h2 => ?_) fun e s2 h2 => h2
  cases fl with
  | ret u =>
    obtain ⟨v, σ2, G, J, rv, r⟩ := h2
    exact ⟨v, G, J.os, J.bare, J.base, J.hok, rv, r⟩
  | next =>
    obtain ⟨σ2, G, J, r⟩ := h2
    exact ⟨V.non, G, J.os, J.bare, J.base, J.hok, rfl, r⟩
  | brk => exact (h2.choose_spec.choose_spec.2 : False).elim
  | cont => exact (h2.choose_spec.choose_spec.2 : False).elim
theorem AtC.calG {x : Str} {st : Stmt} {N ps : List Str} {k : Nat} {sp : Sp} {c : Addr} (D : AtC K mg x st ps c) (S : FnScope N ps (defScope st)) (len : ∀ vs H Q E, sp vs H Q E → vs.length = ps.length)
    (body : ∀ (f : Addr) (A : Around) (outer : List Env) (s : Shared) (H : Hp) (vs : List V) (Q : VK) (E : XK), Room k (A.deeper (envOfC x (defScope st) s.heap.objs.size f (.ref c))) → A.guards = some [] → sp vs H Q E →
      ∃ t, PSs (cxOf CX0 P w K mg base N x (defScope st) f (.ref c) A outer s H E).nox (defBody st) t ∧ t { nx := fun _ G => Q .non G, rt := Q } (start N vs) H) : CalG P w K mg base (k + 1) x ps sp := by
  obtain ⟨f, fd, F, b, g, hc⟩ := D.ex
  exact ⟨f, fd, okGT F hc S len (body f), g, F.kp, b⟩
/-! ### defs that may raise -/
structure CalX (P : Program) (w : World) (K : PySem.W.Frag) (mg : Str → Option Value) (base : Heap) (k : Nat) (x : Str) (ps : List Str) (sp : Sp) : Prop where
  ex : ∃ (f : Addr) (fd : FuncData), FnOk P w K mg base (L2.CX P w) k f fd ps sp ∧ mg x = some (.ref f) ∧ PySem.W.keepIn K (.ref f) = true ∧ Binds K fd ps [] ∧ ∃ oc od sl, K.lookup f = some ⟨oc, od, .func fd, sl⟩
theorem At.calX {x : Str} {st : Stmt} {N ps : List Str} {k : Nat} {sp : Sp} (D : At K mg x st ps) (S : FnScope N ps (defScope st)) (len : ∀ vs H Q E, sp vs H Q E → vs.length = ps.length)
    (body : ∀ (f : Addr) (cdv : Value) (A : Around) (outer : List Env) (s : Shared) (H : Hp) (vs : List V) (Q : VK) (E : XK), Room k (A.deeper (envOfC x (defScope st) s.heap.objs.size f cdv)) → sp vs H Q E →
      ∃ t, PSs (cxOf (L2.CX P w) P w K mg base N x (defScope st) f cdv A outer s H E) (defBody st) t ∧ t { nx := fun _ G => Q .non G, rt := Q } (start N vs) H) : CalX P w K mg base (k + 1) x ps sp := by
  obtain ⟨f, fd, F, b, g⟩ := D.ex
  obtain ⟨oc, od, kV, doc, pm, an, cdv, ct, osl, e, lk, hcd⟩ := F.ex
  exact ⟨f, fd, F.okX S len (body f), g, F.kp, b, oc, od, osl, lk⟩
structure MakX (P : Program) (w : World) (K : PySem.W.Frag) (mg : Str → Option Value) (base : Heap) (k : Nat) (x : Str) (C : Addr) (sp : Sp) : Prop where
  ex : ∃ (f : Addr) (fd : FuncData) (ps : List Str), Mk K C f ∧ FnOk P w K mg base (L2.CX P w) k f fd ps sp ∧ mg x = some (.ref C) ∧ Binds K fd ps []
end
section
variable {X : Cx} {k j : Nat} {x : Str} {ps : List Str} {sp : Sp} {p pos : Pos} {e : Expr} {es : List Expr} {t : TA} {E : XK} {W : WX} {C : Addr}
theorem pe_ownX (c : CalX X.prog X.w X.K X.mg X.base k x ps sp) (hr : Room j X.A) (hk : k ≤ j) (tk : Takes X W) (hW : ∀ cls d σ H, E cls d H → W cls d σ H) (hg : Gl X x) (ha : PA X (e :: es) t)
    (hdb : (x == ("__debug__" : Str)) = false := by decide) (he : starEach (e :: es) X.env = (false, eval e X.env) :: starEach es X.env := by rfl) (hpl : (backTo pos (starEach es X.env)).any (·.1) = false := by rfl) :
    PE X (.Call (.Name x p) (e :: es) [] pos) (tCall sp [] E t) := by
  obtain ⟨f, fd, F, hm, kp, b, _⟩ := c.ex
  exact pe_call F (hr.mono hk) hg hm kp b .nil (passes_call tk hW) ha hdb he hpl
theorem pe_newX (c : MakX X.prog X.w X.K X.mg X.base k x C sp) (hr : Room j X.A) (hk : k + 1 ≤ j) (tk : Takes X W) (hW : ∀ cls d σ H, E cls d H → W cls d σ H) (hg : Gl X x) (ha : PA X (e :: es) t)
    (hdb : (x == ("__debug__" : Str)) = false := by decide) (he : starEach (e :: es) X.env = (false, eval e X.env) :: starEach es X.env := by rfl) (hpl : (backTo pos (starEach es X.env)).any (·.1) = false := by rfl) :
    PE X (.Call (.Name x p) (e :: es) [] pos) (tMake C sp [] E t) := by
  obtain ⟨f, fd, ps, M, F, hm, b⟩ := c.ex
  exact pe_make M F (hr.mono hk) hg hm b .nil (passes_call tk hW) ha hdb he hpl
end
/-! ### x(lambda: body) -/
section
variable {X : Cx}
theorem pe_lamE {T : List (Addr × Str)} {TT : (XK → Hp → VK → Prop) → Hp → VK → Prop} {x a : Str} {c P : Addr} {k j : Nat} {st : Stmt} {Ng : List Str} {params : Arguments} {body : Expr} {scope : Scope} {t : XK → TE} {p lpos pos : Pos} (D : At X.K X.mg x st [a]) (S : FnScope Ng [a] (defScope st))
    (hG : ∀ (g : Addr) (cdv : Value), GivesTo X Ng x (defScope st) g cdv (defBody st) a (X.env.qual ++ "<lambda>") TT) (TB : TabB X.base X.mg c P) (hr : Room j X.A) (hk : k + 2 ≤ j) (hg : Gl X x) (hNg : Ng[0]? = some a) (hva : Vis (defScope st) a) (hcode : X.env.code = .ref c) (hmT : (P, X.env.qual ++ "<lambda>") ∈ T) (hu : ∀ p ∈ T, p.1 = P → p.2 = X.env.qual ++ "<lambda>") (L : LamS X.env.scope scope) (hdef : defaultsOf params X.env = ([], []))
    (hbind : ∀ (q : Str) (cl : List (Str × Addr)) (pm cv ctv : Value), bindArgs (PySem.W.kla_fn "<lambda>" q params body scope cl pm cv ctv) ⟨[], []⟩ = pure [])
    (hbody : ∀ (A : Around) (outer : List Env) (s : Shared) (H : Hp) (E : XK) (f c' : Addr), Room k (A.deeper (lamEnv X scope s.heap.objs.size f c')) → PE (lamCx X A outer s H E scope f c') body (t E))
    (hdb : (x == ("__debug__" : Str)) = false := by decide) (hd : (a == ("__debug__" : Str)) = false := by decide) (hcd : (a == ("__classdict__" : Str)) = false := by decide) :
    PE X (.Call (.Name x p) [.Lambda params body scope lpos] [] pos) (tLam T TT t) := by
  obtain ⟨g, fd, F, b, hm⟩ := D.ex
  obtain ⟨oc, od, kV, doc, pm, an, cdv, ct, osl, rfl, lk, hcg⟩ := F.ex
  exact pe_lamcall (k := k) hg hm F.kp lk hcg b S hNg hva (hG g cdv) TB hcode hmT hu (hr.mono hk) L hdef hbind hbody hdb hd hcd
end
end Gu
namespace Gu
open PySem PySem.Spec PyProof.Rows L2 LamX
/-- what _law_ended makes of what it is handed -/
def Ended (hs : List (Str × Str × Addr)) (Q : VK) : XK := fun cls d G => ∃ (N Fl : Str) (C dd : Addr) (v : V), (N, Fl, C) ∈ hs ∧ cls = .ref C ∧ d = some dd ∧ G dd = some (.xd [(Fl, v)]) ∧ ∀ p J, Same G J → J p = some (.lst [.str N, v, .bl true]) → Q (.ref p) J
def TEnd (hs : List (Str × Str × Addr)) : (XK → Hp → VK → Prop) → Hp → VK → Prop := fun tl H Q => ∃ (E1 : XK) (Q1 : VK), tl E1 H Q1 ∧ (∀ cls d G, E1 cls d G → Ended hs Q cls d G) ∧ ∀ v G, Q1 v G → ∀ p J, Same G J → J p = some (.lst [.str "given", v]) → Q (.ref p) J
set_option maxHeartbeats 4000000 in
theorem ended_gives {X : Cx} {q : Str} {g U C0 C1 C2 C3 : Addr} {cdg : Value} (B : Bi X.mg) (UI : UpK X.K X.mg bVE "InputError" U) (T0 : ErrK X.K X.mg bVE U "InvalidLength" C0) (S0 : ErrF X.K "InvalidLength" "value" C0) (T1 : ErrK X.K X.mg bVE U "InvalidRow" C1) (S1 : ErrF X.K "InvalidRow" "index" C1) (T2 : ErrK X.K X.mg bVE U "InvalidText" C2) (S2 : ErrF X.K "InvalidText" "value" C2) (T3 : ErrK X.K X.mg bVE U "InvalidViews" C3) (S3 : ErrF X.K "InvalidViews" "index" C3) :
    GivesTo X ["_law_ask", "_law_given", "e"] "_law_ended" (defScope s_law_ended) g cdg (defBody s_law_ended) "_law_ask" q (TEnd [("InvalidLength", "value", C0), ("InvalidRow", "index", C1), ("InvalidText", "value", C2), ("InvalidViews", "index", C3)]) := by
  intro f c' s H Q tl act hc h
  refine ⟨_, pss_cons (ps_try_manyA (i := 2) (tb := fun W D σ H => ∃ Ech : XK, (∀ cls d σ1 G, Ech cls d G → W cls d σ1 G) ∧ σ[0]? = some (some (.ref f)) ∧ H c' = some (CodeO c' q) ∧ ∃ Q1 : VK, tl Ech H Q1 ∧ ∀ v G, Q1 v G → D.nx (σ.set 1 (some v)) G) (Wout := fun _ _ _ _ => False) rfl rfl sc_law_ended.nd rfl rfl L2.takes0
      (fun W pn xe tk _ => ⟨fun pins s1 σ G D I h1 => by
        obtain ⟨Ech, hW, h2, h3, Q1, h4, h5⟩ := h1
        exact (pss_one (ps_set (i := 1) sc_law_ended.nd rfl (.inl rfl) (pe_mid (act W pn xe Ech _ _ tk hW)))).run pins s1 σ G D I ⟨Q1, ⟨h2, h3, h4⟩, h5⟩⟩)
      (.cons (htest_name ⟨rfl, by decide, .inl T0.g⟩) (fun a oe cls d pn hz hf => (pss_one (ps_ret (pe_lst (pa_cons pe_str (pa_cons (pe_xfE T0 S0 (List.mem_cons_self ..) hz hf (pv 2) rfl) (pa_cons (pe_and (pe_callB (id := "isinstance") (r := rIsX X.K C0 a cls d) (by exact call_isX T0 (List.mem_cons_self ..) hz hf) (by rfl) B.isinstance (by decide +kernel) (pa_cons (pv 2) (pa_cons (pe_glob (v := .ref U) (by rfl) UI.g rfl) pa_nil))) (pe_one (pe_callB (id := "isinstance") (r := rIsX X.K C0 a cls d) (by exact call_isX T0 (List.mem_cons_self ..) hz hf) (by rfl) B.isinstance (by decide +kernel) (pa_cons (pv 2) (pa_cons (pe_bltn (v := .ty "ValueError") (by rfl) B.ValueError (by decide +kernel) rfl) pa_nil))))) pa_nil))))))) (.cons (htest_name ⟨rfl, by decide, .inl T1.g⟩) (fun a oe cls d pn hz hf => (pss_one (ps_ret (pe_lst (pa_cons pe_str (pa_cons (pe_xfE T1 S1 (List.mem_cons_self ..) hz hf (pv 2) rfl) (pa_cons (pe_and (pe_callB (id := "isinstance") (r := rIsX X.K C1 a cls d) (by exact call_isX T1 (List.mem_cons_self ..) hz hf) (by rfl) B.isinstance (by decide +kernel) (pa_cons (pv 2) (pa_cons (pe_glob (v := .ref U) (by rfl) UI.g rfl) pa_nil))) (pe_one (pe_callB (id := "isinstance") (r := rIsX X.K C1 a cls d) (by exact call_isX T1 (List.mem_cons_self ..) hz hf) (by rfl) B.isinstance (by decide +kernel) (pa_cons (pv 2) (pa_cons (pe_bltn (v := .ty "ValueError") (by rfl) B.ValueError (by decide +kernel) rfl) pa_nil))))) pa_nil))))))) (.cons (htest_name ⟨rfl, by decide, .inl T2.g⟩) (fun a oe cls d pn hz hf => (pss_one (ps_ret (pe_lst (pa_cons pe_str (pa_cons (pe_xfE T2 S2 (List.mem_cons_self ..) hz hf (pv 2) rfl) (pa_cons (pe_and (pe_callB (id := "isinstance") (r := rIsX X.K C2 a cls d) (by exact call_isX T2 (List.mem_cons_self ..) hz hf) (by rfl) B.isinstance (by decide +kernel) (pa_cons (pv 2) (pa_cons (pe_glob (v := .ref U) (by rfl) UI.g rfl) pa_nil))) (pe_one (pe_callB (id := "isinstance") (r := rIsX X.K C2 a cls d) (by exact call_isX T2 (List.mem_cons_self ..) hz hf) (by rfl) B.isinstance (by decide +kernel) (pa_cons (pv 2) (pa_cons (pe_bltn (v := .ty "ValueError") (by rfl) B.ValueError (by decide +kernel) rfl) pa_nil))))) pa_nil))))))) (.cons (htest_name ⟨rfl, by decide, .inl T3.g⟩) (fun a oe cls d pn hz hf => (pss_one (ps_ret (pe_lst (pa_cons pe_str (pa_cons (pe_xfE T3 S3 (List.mem_cons_self ..) hz hf (pv 2) rfl) (pa_cons (pe_and (pe_callB (id := "isinstance") (r := rIsX X.K C3 a cls d) (by exact call_isX T3 (List.mem_cons_self ..) hz hf) (by rfl) B.isinstance (by decide +kernel) (pa_cons (pv 2) (pa_cons (pe_glob (v := .ref U) (by rfl) UI.g rfl) pa_nil))) (pe_one (pe_callB (id := "isinstance") (r := rIsX X.K C3 a cls d) (by exact call_isX T3 (List.mem_cons_self ..) hz hf) (by rfl) B.isinstance (by decide +kernel) (pa_cons (pv 2) (pa_cons (pe_bltn (v := .ty "ValueError") (by rfl) B.ValueError (by decide +kernel) rfl) pa_nil))))) pa_nil))))))) .nil)))))
    (pss_one (ps_ret (pe_lst (pa_cons pe_str (pa_cons (pv 1) pa_nil))))), ?_⟩
  obtain ⟨E1, Q1, h1, hE, hQ⟩ := h
  refine ⟨E1, fun cls d σ1 G he => ?_, rfl, hc, Q1, h1, fun v G hv => ?_⟩
  · obtain ⟨N, Fl, C, dd, v, mem, e1, e2, e3, k⟩ := hE cls d G he
    subst e1 e2
    simp only [List.mem_cons, List.not_mem_nil, or_false, Prod.mk.injEq] at mem
    have lk : ∀ Fl : Str, List.lookup Fl [(Fl, v)] = some v := fun Fl => by simp [List.lookup]
    rcases mem with mem | mem | mem | mem
    · obtain ⟨rfl, rfl, rfl⟩ := mem
      refine ⟨_, T0.exm T0 (UI.ne T0 (by decide +kernel)), fun _ a na len => ?_, fun z => absurd (decide_eq_true (rfl : ("InvalidLength" : Str) = "InvalidLength")) (by rw [z]; decide)⟩
      have here : (σ1.set 2 (some (V.ref a)))[2]? = some (some (V.ref a)) := List.getElem?_set_self len
      refine ⟨.ref a, here, rfl, rfl, dd, _, v, rfl, e3, lk _, .ref a, here, _, .ref U, true, rfl, rfl, fun u hu => hu, T0.kitU UI, fun d2 e => ⟨_, by cases e; exact e3⟩, ?_⟩
      exact ⟨_, rfl, iteT ⟨.ref a, here, _, .type "ValueError", true, rfl, rfl, fun u hu => hu, T0.kitV (by decide +kernel), fun d2 e => ⟨_, by cases e; exact e3⟩, by show 3 ≤ sizeLine; decide, fun p np => k p _ (same_new np) upd_same⟩⟩
    · obtain ⟨rfl, rfl, rfl⟩ := mem
      refine ⟨_, T1.exm T0 (UI.ne T0 (by decide +kernel)), fun z => absurd (of_decide_eq_true z) (by decide +kernel), fun _ => ?_⟩
      refine ⟨_, T1.exm T1 (UI.ne T1 (by decide +kernel)), fun _ a na len => ?_, fun z => absurd (decide_eq_true (rfl : ("InvalidRow" : Str) = "InvalidRow")) (by rw [z]; decide)⟩
      have here : (σ1.set 2 (some (V.ref a)))[2]? = some (some (V.ref a)) := List.getElem?_set_self len
      refine ⟨.ref a, here, rfl, rfl, dd, _, v, rfl, e3, lk _, .ref a, here, _, .ref U, true, rfl, rfl, fun u hu => hu, T1.kitU UI, fun d2 e => ⟨_, by cases e; exact e3⟩, ?_⟩
      exact ⟨_, rfl, iteT ⟨.ref a, here, _, .type "ValueError", true, rfl, rfl, fun u hu => hu, T1.kitV (by decide +kernel), fun d2 e => ⟨_, by cases e; exact e3⟩, by show 3 ≤ sizeLine; decide, fun p np => k p _ (same_new np) upd_same⟩⟩
    · obtain ⟨rfl, rfl, rfl⟩ := mem
      refine ⟨_, T2.exm T0 (UI.ne T0 (by decide +kernel)), fun z => absurd (of_decide_eq_true z) (by decide +kernel), fun _ => ?_⟩
      refine ⟨_, T2.exm T1 (UI.ne T1 (by decide +kernel)), fun z => absurd (of_decide_eq_true z) (by decide +kernel), fun _ => ?_⟩
      refine ⟨_, T2.exm T2 (UI.ne T2 (by decide +kernel)), fun _ a na len => ?_, fun z => absurd (decide_eq_true (rfl : ("InvalidText" : Str) = "InvalidText")) (by rw [z]; decide)⟩
      have here : (σ1.set 2 (some (V.ref a)))[2]? = some (some (V.ref a)) := List.getElem?_set_self len
      refine ⟨.ref a, here, rfl, rfl, dd, _, v, rfl, e3, lk _, .ref a, here, _, .ref U, true, rfl, rfl, fun u hu => hu, T2.kitU UI, fun d2 e => ⟨_, by cases e; exact e3⟩, ?_⟩
      exact ⟨_, rfl, iteT ⟨.ref a, here, _, .type "ValueError", true, rfl, rfl, fun u hu => hu, T2.kitV (by decide +kernel), fun d2 e => ⟨_, by cases e; exact e3⟩, by show 3 ≤ sizeLine; decide, fun p np => k p _ (same_new np) upd_same⟩⟩
    · obtain ⟨rfl, rfl, rfl⟩ := mem
      refine ⟨_, T3.exm T0 (UI.ne T0 (by decide +kernel)), fun z => absurd (of_decide_eq_true z) (by decide +kernel), fun _ => ?_⟩
      refine ⟨_, T3.exm T1 (UI.ne T1 (by decide +kernel)), fun z => absurd (of_decide_eq_true z) (by decide +kernel), fun _ => ?_⟩
      refine ⟨_, T3.exm T2 (UI.ne T2 (by decide +kernel)), fun z => absurd (of_decide_eq_true z) (by decide +kernel), fun _ => ?_⟩
      refine ⟨_, T3.exm T3 (UI.ne T3 (by decide +kernel)), fun _ a na len => ?_, fun z => absurd (decide_eq_true (rfl : ("InvalidViews" : Str) = "InvalidViews")) (by rw [z]; decide)⟩
      have here : (σ1.set 2 (some (V.ref a)))[2]? = some (some (V.ref a)) := List.getElem?_set_self len
      refine ⟨.ref a, here, rfl, rfl, dd, _, v, rfl, e3, lk _, .ref a, here, _, .ref U, true, rfl, rfl, fun u hu => hu, T3.kitU UI, fun d2 e => ⟨_, by cases e; exact e3⟩, ?_⟩
      exact ⟨_, rfl, iteT ⟨.ref a, here, _, .type "ValueError", true, rfl, rfl, fun u hu => hu, T3.kitV (by decide +kernel), fun d2 e => ⟨_, by cases e; exact e3⟩, by show 3 ≤ sizeLine; decide, fun p np => k p _ (same_new np) upd_same⟩⟩
  · exact ⟨_, rfl, by show 2 ≤ sizeLine; decide, fun p np => hQ v G hv p _ (same_new np) upd_same⟩
end Gu
namespace Gu
open PySem PySem.Spec PyProof.Rows L2
/-! ### Shorteners refused -/
section
variable {P : Program} {w : World} {K : PySem.W.Frag} {mg : Str → Option Value} {base : Heap} {C U CM CN : Addr}
def OkNum (v : V) : Prop := ∃ i : Int, v = .int i ∧ 0 ≤ i ∧ i ≤ 40
/-- no whole number from 0 to m -/
def NoNum (K : PySem.W.Frag) (H : Hp) (m : Int) (v : V) : Prop := (∃ i : Int, v = .int i ∧ ¬ (0 ≤ i ∧ i ≤ m)) ∨ Isa K H v "int" false ∨ (Isa K H v "int" true ∧ Isa K H v "bool" true)
/-- no text of at most m signs -/
def NoTxt (K : PySem.W.Frag) (H : Hp) (m : Int) (v : V) : Prop := Isa K H v "str" false ∨ ∃ z : Str, v = .str z ∧ z.length ≤ 1000 ∧ isTxt z m = false
theorem TyX.same {H G : Hp} (s : Same H G) {v : V} {t : Value} (h : TyX K H v t) : TyX K G v t := by
  cases h with
  | base b =>
    refine .base ?_
    cases b with
    | non => exact .non
    | bl x => exact .bl x
    | int i => exact .int i
    | str x => exact .str x
    | flt x => exact .flt x
    | lst e => exact .lst (s _ _ e)
    | frz e => exact .frz (s _ _ e)
    | tup e => exact .tup (s _ _ e)
    | dK e => exact .dK (s _ _ e)
    | dT e => exact .dT (s _ _ e)
    | ins e a b c d f => exact .ins (s _ _ e) a b c d f
  | byt b => exact .byt b
  | set e => exact .set (s _ _ e)
  | kList e c => exact .kList e c
  | kTuple e c => exact .kTuple e c
  | kDict e c => exact .kDict e c
  | fTuple e => exact .fTuple (s _ _ e)
  | fDict e => exact .fDict (s _ _ e)
theorem Isa.same {H G : Hp} (s : Same H G) {v : V} {T : String} {b : Bool} (h : Isa K H v T b) : Isa K G v T b := by
  obtain ⟨t, a, c⟩ := h
  exact ⟨t, TyX.same s a, c⟩
theorem NoNum.same {H G : Hp} (s : Same H G) {m : Int} {v : V} (h : NoNum K H m v) : NoNum K G m v := h.imp id (Or.imp (Isa.same s) fun ⟨a, b⟩ => ⟨a.same s, b.same s⟩)
theorem NoTxt.same {H G : Hp} (s : Same H G) {m : Int} {v : V} (h : NoTxt K H m v) : NoTxt K G m v := h.imp (Isa.same s) id
theorem Cal.imp {k : Nat} {x : Str} {ps : List Str} {s1 s2 : Sp} (c : Cal P w K mg base k x ps s1) (h : ∀ vs H Q E, s2 vs H Q E → s1 vs H Q E) : Cal P w K mg base k x ps s2 := by
  obtain ⟨f, fd, F, r⟩ := c.ex
  exact ⟨f, fd, ⟨fun vs H Q E z => F.len vs H Q E (h vs H Q E z), fun A outer s H args us vs Q E a b c d z => F.run A outer s H args us vs Q E a b c d (h vs H Q E z)⟩, r⟩
/-- a whole number from 0 to m, or none -/
def spNum (K : PySem.W.Frag) : Sp := fun vs H Q _ => ∃ (v : V) (m : Int), vs = [v, .int 0, .int m] ∧ ((∃ i : Int, v = .int i ∧ 0 ≤ i ∧ i ≤ m ∧ Q (.bl true) H) ∨ (NoNum K H m v ∧ Q (.bl false) H))
theorem num_of (c : Cal P w K mg base 1 "is_integer" ps_is_integer (spIsInteger K)) : Cal P w K mg base 1 "is_integer" ps_is_integer (spNum K) := c.imp fun vs H Q E ⟨v, m, e, h⟩ => by
  refine ⟨v, 0, m, e, ?_⟩
  rcases h with ⟨i, rfl, h0, h1, q⟩ | ⟨⟨i, rfl, h⟩ | h | ⟨h, k⟩, q⟩
  · exact .inl ⟨i, rfl, by rw [decide_eq_true ⟨h0, h1⟩]; exact q⟩
  · exact .inl ⟨i, rfl, by rw [decide_eq_false h]; exact q⟩
  · exact .inr (.inl ⟨h, q⟩)
  · exact .inr (.inr ⟨h, k, q⟩)
/-- a text of at most m signs, or none -/
def spTxt (K : PySem.W.Frag) : Sp := fun vs H Q _ => ∃ (v : V) (m : Int), vs = [v, .int m] ∧ ((∃ z : Str, v = .str z ∧ z.length ≤ 1000 ∧ isTxt z m = true ∧ ∀ G, Same H G → Q (.bl true) G) ∨ (NoTxt K H m v ∧ ∀ G, Same H G → Q (.bl false) G))
theorem txt_of (c : Cal P w K mg base 1 "is_text" ps_is_text (spIsText K)) : Cal P w K mg base 1 "is_text" ps_is_text (spTxt K) := c.imp fun vs H Q E ⟨v, m, e, h⟩ => by
  refine ⟨v, m, e, ?_⟩
  rcases h with ⟨z, rfl, l, h, q⟩ | ⟨h | ⟨z, rfl, l, h⟩, q⟩
  · exact .inl ⟨z, rfl, l, fun G s => by rw [h]; exact q G s⟩
  · exact .inr ⟨h, q H (Same.refl H)⟩
  · exact .inl ⟨z, rfl, l, fun G s => by rw [h]; exact q G s⟩
/-- an error of the class at C is raised that holds v -/
def Raised (C : Addr) (Fl : Str) (v : V) (H : Hp) (E : XK) : Prop := ∀ (d : Addr) (G : Hp), Same H G → G d = some (.xd [(Fl, v)]) → E (.ref C) (some d) G
theorem Raised.same {Fl : Str} {v : V} {H G : Hp} {E : XK} (s : Same H G) (h : Raised C Fl v H E) : Raised C Fl v G E := fun d J sJ e => h d J (s.trans sJ) e
def spMarkX (K : PySem.W.Frag) (CM : Addr) : Sp := fun vs H _ E => ∃ v : V, vs = [v] ∧ NoTxt K H 3 v ∧ Raised CM "value" v H E
theorem cal_markX (B : Bi mg) (D : At K mg "check_mark" s_check_mark ps_check_mark) (T_InvalidMark : ErrK K mg bVE U "InvalidMark" CM) (S_InvalidMark : ErrF K "InvalidMark" "value" CM) (C_is_text : Cal P w K mg base 1 "is_text" ps_is_text (spTxt K)) : CalX P w K mg base 2 "check_mark" ps_check_mark (spMarkX K CM) := by
  refine D.calX sc_check_mark (fun vs H Q E h => ?_) (fun f cdv A outer s H vs Q E hr h => ?_)
  · obtain ⟨v, rfl, _⟩ := h
    rfl
  · obtain ⟨v, rfl, no, k⟩ := h
    refine ⟨_, (pss_one (ps_if (pt_not (pt_val (pe_own C_is_text hr (by decide) (by rfl) (pa_cons (pv 0) (pa_cons (pe_cst B.MOST_MARK (by rfl)) pa_nil))))) (pss_one (ps_raiseE T_InvalidMark S_InvalidMark rfl hr (takes_of rfl rfl rfl rfl) (pa_cons (pv 0) pa_nil) (by rfl))) pss_nil)), ?_⟩
    refine ⟨_, rfl, v, 3, rfl, .inr ⟨no, fun G s => ⟨_, rfl, iteT ?_⟩⟩⟩
    exact ⟨_, rfl, v, rfl, fun d nd => k d _ (s.trans (same_new nd)) upd_same⟩
def spInitX (K : PySem.W.Frag) (C CN CM : Addr) : Sp := fun vs H _ E => ∃ (x dx : Addr) (l h t m : V), vs = [.ref x, l, h, t, m] ∧ H x = some (.ins C dx []) ∧
  ((∃ v, ((NoNum K H 40 l ∧ v = l) ∨ (OkNum l ∧ NoNum K H 40 h ∧ v = h) ∨ (OkNum l ∧ OkNum h ∧ NoNum K H 40 t ∧ v = t)) ∧ Raised CN "value" v H E) ∨ (OkNum l ∧ OkNum h ∧ OkNum t ∧ NoTxt K H 3 m ∧ Raised CM "value" m H E))
theorem ok_initX {f : Addr} {fd : FuncData} (B : Bi mg) (F : Fun K "__init__" "Shortener.__init__" s_Shortener_init f fd) (T_InvalidNumber : ErrK K mg bVE U "InvalidNumber" CN) (S_InvalidNumber : ErrF K "InvalidNumber" "value" CN) (C_is_integer : Cal P w K mg base 1 "is_integer" ps_is_integer (spNum K)) (CX_check_mark : CalX P w K mg base 2 "check_mark" ps_check_mark (spMarkX K CM)) : FnOk P w K mg base (L2.CX P w) 3 f fd ps_Shortener_init (spInitX K C CN CM) := by
  refine F.okX sc_Shortener_init (fun vs H Q E h => ?_) (fun cdv A outer s H vs Q E hr h => ?_)
  · obtain ⟨x, dx, l, h, t, m, rfl, _⟩ := h
    rfl
  · obtain ⟨x, dx, l, h, t, m, rfl, hx, way⟩ := h
    refine ⟨_, (pss_cons (ps_for (passes_of rfl) rfl (pi_tup (pe_tup (pa_cons (pv 1) (pa_cons (pv 2) (pa_cons (pv 3) pa_nil))))) (pg_name (i := 5) sc_Shortener_init.nd rfl (.inl rfl))
      (pss_one (ps_if (pt_not (pt_val (pe_own C_is_integer hr (by decide) (by rfl) (pa_cons (pv 5) (pa_cons pe_int (pa_cons (pe_cst B.MOST_SIGNS (by rfl)) pa_nil)))))) (pss_one (ps_raiseE T_InvalidNumber S_InvalidNumber rfl hr (takes_of rfl rfl rfl rfl) (pa_cons (pv 5) pa_nil) (by rfl))) pss_nil)))
      (pss_cons (ps_expr (pe_ownX CX_check_mark hr (by decide) (takes_of rfl rfl rfl rfl) (fun _ _ _ _ h => h) (by rfl) (pa_cons (pv 4) pa_nil)))
      (pss_cons (ps_fld (pv 0) (pv 1) rfl)
      (pss_cons (ps_fld (pv 0) (pv 2) rfl)
      (pss_cons (ps_fld (pv 0) (pv 3) rfl)
      (pss_cons (ps_fld (pv 0) (pv 4) rfl)
      (pss_one (ps_fld (pv 0) (pe_tup (pa_cons (pv 1) (pa_cons (pv 2) (pa_cons (pv 3) (pa_cons (pv 4) pa_nil))))) rfl)))))))), ?_⟩
    refine ⟨_, rfl, _, rfl, _, rfl, by show 3 ≤ sizeLine; decide, fun T nT => ?_⟩
    have sT : Same H (upd H T (.tup [l, h, t])) := same_new nT
    have eT : upd H T (.tup [l, h, t]) T = some (.tup [l, h, t]) := upd_same
    generalize upd H T (.tup [l, h, t]) = H1 at sT eT
    -- the numbers up to the first bad one
    have way1 : ∃ j : Nat, (∀ i u, i < j → [l, h, t][i]? = some u → OkNum u) ∧ ((j < 3 ∧ ∃ v, [l, h, t][j]? = some v ∧ NoNum K H1 40 v ∧ Raised CN "value" v H1 E) ∨ (j = 3 ∧ NoTxt K H1 3 m ∧ Raised CM "value" m H1 E)) := by
      have one : ∀ {u v : V}, OkNum v → some v = some u → OkNum u := fun o e => by
        cases e
        exact o
      rcases way with ⟨v, ⟨n, rfl⟩ | ⟨o, n, rfl⟩ | ⟨o, o2, n, rfl⟩, r⟩ | ⟨o, o2, o3, n, r⟩
      · exact ⟨0, fun i u hi => absurd hi (Nat.not_lt_zero i), .inl ⟨by decide, v, rfl, n.same sT, r.same sT⟩⟩
      · exact ⟨1, fun i u hi e => match i, hi, e with | 0, _, e => one o e, .inl ⟨by decide, v, rfl, n.same sT, r.same sT⟩⟩
      · exact ⟨2, fun i u hi e => match i, hi, e with | 0, _, e => one o e | 1, _, e => one o2 e, .inl ⟨by decide, v, rfl, n.same sT, r.same sT⟩⟩
      · exact ⟨3, fun i u _ e => match i, e with | 0, e => one o e | 1, e => one o2 e | 2, e => one o3 e, .inr ⟨rfl, n.same sT, r.same sT⟩⟩
    obtain ⟨j, fine, last⟩ := way1
    refine ⟨T, rfl, ⟨_, .inl (.inl eT)⟩, for_tup (K := K) (a := T) (xs := [l, h, t]) (fun i σ J => (∃ u, σ = [some (.ref x), some l, some h, some t, some m, u]) ∧ J = H1 ∧ i ≤ j)
      ⟨⟨none, rfl⟩, rfl, Nat.zero_le _⟩ (fun i σ J _ ⟨_, e, _⟩ => by rw [e]; exact .inl (.inl eT)) ?_ ?_⟩
    · rintro i v σ J hi ⟨⟨u, rfl⟩, rfl, ij⟩
      rcases Nat.lt_or_ge i j with lt | ge
      · obtain ⟨n, rfl, n0, n1⟩ := fine i v lt hi
        exact ⟨_, rfl, _, 40, rfl, .inl ⟨n, rfl, n0, n1, _, rfl, iteF ⟨⟨_, rfl⟩, rfl, lt⟩⟩⟩
      · have ej : j = i := by omega
        subst ej
        rcases last with ⟨_, v', e, n, r⟩ | ⟨e, _⟩
        · rw [e] at hi
          cases hi
          exact ⟨_, rfl, _, 40, rfl, .inr ⟨n, _, rfl, iteT ⟨_, rfl, v, rfl, fun d nd => r d _ (same_new nd) upd_same⟩⟩⟩
        · rw [e] at hi
          cases hi
    · rintro σ J ⟨⟨u, rfl⟩, rfl, ij⟩
      rcases last with ⟨lt, _⟩ | ⟨_, n, r⟩
      · exact absurd ij (Nat.not_le.mpr lt)
      · exact ⟨_, rfl, m, rfl, n, r⟩
theorem mak_shX (B : Bi mg) (S : ShC K mg C) (D : InitAt K C) (T_InvalidNumber : ErrK K mg bVE U "InvalidNumber" CN) (S_InvalidNumber : ErrF K "InvalidNumber" "value" CN) (C_is_integer : Cal P w K mg base 1 "is_integer" ps_is_integer (spNum K)) (CX_check_mark : CalX P w K mg base 2 "check_mark" ps_check_mark (spMarkX K CM)) : MakX P w K mg base 3 "Shortener" C (spInitX K C CN CM) := by
  obtain ⟨f, fd, M, F, b⟩ := D.ex
  exact ⟨f, fd, ps_Shortener_init, M, ok_initX B F T_InvalidNumber S_InvalidNumber C_is_integer CX_check_mark, S.g, b⟩
end
end Gu
namespace Gu
open PySem PySem.Spec PyProof.Rows L2 LamX
/-! ### what stands while the pot is used and tables grow -/
def KeepP (p : Addr) (H G : Hp) : Prop := ∀ c o, H c = some o → c ≠ p → (∀ ps, o ≠ .tbl ps) → G c = some o
theorem KeepP.refl (p : Addr) (H : Hp) : KeepP p H H := fun _ _ e _ _ => e
theorem KeepP.trans {p : Addr} {H G J : Hp} (a : KeepP p H G) (b : KeepP p G J) : KeepP p H J := fun c o e n t => b c o (a c o e n t) n t
theorem KeepP.ofSame {p : Addr} {H G : Hp} (a : Same H G) : KeepP p H G := fun c o e _ _ => a c o e
theorem KeepP.ofN {p : Addr} {H G : Hp} (a : SameN H G) : KeepP p H G := fun c o e _ t => a c o e t
theorem KeepP.ofL {p : Addr} {H G : Hp} (a : Ladled p H G) : KeepP p H G := fun c o e n _ => a.keep c o e n
theorem KeepP.tup {p : Addr} {H G : Hp} (k : KeepP p H G) (hp : Pot H p) {a : Addr} {xs : List V} (h : H a = some (.tup xs)) : G a = some (.tup xs) := k _ _ h (fun z => by
  obtain ⟨x, y, w, e⟩ := hp
  rw [← z, h] at e
  cases e) fun _ z => by cases z
theorem KeepP.dict {p : Addr} {H G : Hp} (k : KeepP p H G) (hp : Pot H p) {a : Addr} (h : H a = some (.dK [])) : G a = some (.dK []) := k _ _ h (fun z => by
  obtain ⟨x, y, w, e⟩ := hp
  rw [← z, h] at e
  cases e) fun _ z => by cases z
theorem KeepP.lst {p : Addr} {H G : Hp} (k : KeepP p H G) {a : Addr} (n : a ≠ p) {xs : List V} (h : H a = some (.lst xs)) : G a = some (.lst xs) := k _ _ h n fun _ z => by cases z
theorem KeepP.ins {p : Addr} {H G : Hp} (k : KeepP p H G) (hp : Pot H p) {a C dx : Addr} {fs : List (Str × V)} (h : H a = some (.ins C dx fs)) : G a = some (.ins C dx fs) := k _ _ h (fun z => by
  obtain ⟨x, y, w, e⟩ := hp
  rw [← z, h] at e
  cases e) fun _ z => by cases z
theorem KeepP.lst0 {p : Addr} {H G : Hp} (k : KeepP p H G) (hp : Pot H p) {a : Addr} {xs : List V} (h : H a = some (.lst xs)) (l : xs.length ≠ 3) : G a = some (.lst xs) := k _ _ h (fun z => by
  obtain ⟨x, y, w, e⟩ := hp
  rw [← z, h] at e
  cases e
  exact l rfl) fun _ z => by cases z
theorem TabS.of {H G : Hp} {P p : Addr} {q : Str} (t : TabS H P q) (hp : Pot H p) (e : ∀ b o, H b = some o → b ≠ p → G b = some o) : TabS G P q := by
  obtain ⟨x, y, z, ep⟩ := hp
  obtain ⟨ps, h1, h2, h3⟩ := t
  refine ⟨ps, e _ _ h1 fun q => ?_, h2, fun pos cv hc => ?_⟩
  · rw [q, ep] at h1
    cases h1
  · obtain ⟨c, e1, e2⟩ := h3 pos cv hc
    refine ⟨c, e1, e _ _ e2 fun q => ?_⟩
    rw [q, ep] at e2
    have z := Option.some.inj e2
    unfold CodeO at z
    cases z
theorem tabs_of {T : List (Addr × Str)} {H G : Hp} {p : Addr} (t : Tabs T H) (hp : Pot H p) (L : Ladled p H G) : Tabs T G := fun q hq => TabS.of (t q hq) hp L.keep
theorem sys_of {H G : Hp} {p : Addr} (y : Sys H) (hp : Pot H p) (L : Ladled p H G) : Sys G := by
  obtain ⟨x, y', z, ep⟩ := hp
  obtain ⟨o, u, e⟩ := y
  exact ⟨o, u, L.keep _ _ e fun q => by
    rw [q, ep] at e
    cases e⟩
theorem tabs_upd {T : List (Addr × Str)} {G : Hp} {q : Addr} {xs : List V} {o : HO} (t : Tabs T G) (e : G q = some (.lst xs)) : Tabs T (upd G q o) := fun r hr => by
  obtain ⟨ps, h1, h2, h3⟩ := t r hr
  refine ⟨ps, by rw [upd_ne fun z => by rw [z, e] at h1; cases h1]; exact h1, h2, fun pos cv hc => ?_⟩
  obtain ⟨c, e1, e2⟩ := h3 pos cv hc
  refine ⟨c, e1, ?_⟩
  rw [upd_ne fun z => by
    rw [z, e] at e2
    have y := Option.some.inj e2
    unfold CodeO at y
    cases y]
  exact e2
section
variable {T : List (Addr × Str)} {p : Addr} {H G J : Hp}
theorem LadT.refl (hp : Pot H p) (t : Tabs T H) (y : Sys H) : LadT T p H H := ⟨hp, fun _ _ e _ _ => e, t, y⟩
theorem LadT.trans (a : LadT T p H G) (b : LadT T p G J) : LadT T p H J := ⟨b.pot, fun c o e n t => b.keep c o (a.keep c o e n t) n t, b.tabs, b.sys⟩
theorem LadT.same (a : LadT T p H G) (s : Same G J) : LadT T p H J := ⟨a.pot.same s, fun c o e n t => s _ _ (a.keep c o e n t), a.tabs.ext s, a.sys.same s⟩
theorem LadT.lad (a : LadT T p H G) (L : Ladled p G J) : LadT T p H J := ⟨L.pot, fun c o e n t => L.keep _ _ (a.keep c o e n t) n, tabs_of a.tabs a.pot L, sys_of a.sys a.pot L⟩
theorem LadT.ext (a : LadT T p H G) (s : ExtN G J) (t : Tabs T J) : LadT T p H J := by
  obtain ⟨x, y, z, e⟩ := a.pot
  exact ⟨⟨x, y, z, s _ _ e fun _ q => by cases q⟩, fun c o e n q => s _ _ (a.keep c o e n q) q, t, SameN.sys s a.sys⟩
/-- what is not known in G was not known in H, but for a table -/
theorem LadT.free (a : LadT T p H G) {q : Addr} (h : G q = none) : q ≠ p ∧ ∀ o, H q = some o → ∃ ps, o = .tbl ps := by
  have n : q ≠ p := a.pot.ne h
  refine ⟨n, fun o e => Classical.byContradiction fun z => ?_⟩
  rw [a.keep q o e n fun ps y => z ⟨ps, y⟩] at h
  cases h
/-- a list that is new since H may change -/
theorem LadT.mut {q : Addr} {xs ys : List V} (a : LadT T p H G) (h : q ≠ p ∧ ∀ o, H q = some o → ∃ ps, o = .tbl ps) (e : G q = some (.lst xs)) : LadT T p H (upd G q (.lst ys)) := by
  obtain ⟨n, h⟩ := h
  refine ⟨?_, fun c o e1 nc nt => ?_, tabs_upd a.tabs e, ?_⟩
  · obtain ⟨x, y, z, ep⟩ := a.pot
    exact ⟨x, y, z, by rw [upd_ne (Ne.symm n)]; exact ep⟩
  · rw [upd_ne fun z => by
      obtain ⟨ps, y⟩ := h o (by rw [← z]; exact e1)
      exact nt ps y]
    exact a.keep c o e1 nc nt
  · obtain ⟨o, u, ey⟩ := a.sys
    exact ⟨o, u, by rw [upd_ne fun z => by rw [z, e] at ey; cases ey]; exact ey⟩
end
/-! ### Shortener by keywords, refused -/
def revK {α : Type} (a b : List α) : List α := a ++ b.reverse
theorem valsK : ∀ {zs : List V} {ws : List Value}, Vals zs ws → Vals zs.reverse ws.reverse
  | [], _, r => by
    cases r
    exact .nil
  | z :: zs, _, r => by
    cases r with
    | cons a r =>
      rw [List.reverse_cons, List.reverse_cons]
      exact (valsK r).append (.cons a .nil)
structure MakXK (P : Program) (w : World) (K : PySem.W.Frag) (mg : Str → Option Value) (base : Heap) (k : Nat) (x : Str) (C : Addr) (ks : List Str) (gV : List V → List V → List V) (sp : Sp) : Prop where
  ex : ∃ (f : Addr) (fd : FuncData) (ps : List Str) (g : List Value → List Value → List Value), Mk K C f ∧ FnOk P w K mg base (L2.CX P w) k f fd ps sp ∧ mg x = some (.ref C) ∧ KBn K fd ps 1 ks g gV
theorem pe_newXK {X : Cx} {k j : Nat} {x : Str} {C : Addr} {ks : List Str} {gV : List V → List V → List V} {sp : Sp} {E : XK} {W : WX} {p pos : Pos} {kws : List Keyword} {tk : TA} (c : MakXK X.prog X.w X.K X.mg X.base k x C ks gV sp) (hr : Room j X.A) (hk : k + 1 ≤ j) (ty : Takes X W) (hW : ∀ cls d σ H, E cls d H → W cls d σ H) (hg : Gl X x) (hkw : PK X kws tk)
    (hall : (backToKw pos (keywordEach kws X.env)).all (·.1.isSome) = true := by rfl) (hks : (backToKw pos (keywordEach kws X.env)).filterMap (·.1) = ks := by rfl) (hdb : (x == ("__debug__" : Str)) = false := by decide)
    (hpl : ((backTo pos (starEach [] X.env)).any (·.1) || (backToKw pos (keywordEach kws X.env)).any (·.1.isNone)) = false := by rfl) : PE X (.Call (.Name x p) [] kws pos) (tMakeK C 0 ks.length sp gV E tNil tk) := by
  obtain ⟨f, fd, ps, g, M, F, hm, b⟩ := c.ex
  exact pe_makeK0 M F (hr.mono hk) hg hm b (passes_call ty hW) hkw hall hks hdb hpl
section
variable {P : Program} {w : World} {K : PySem.W.Frag} {mg : Str → Option Value} {base : Heap} {C U CN CM : Addr}
theorem mak_shXK (B : Bi mg) (S : ShC K mg C) (D : InitAt K C) (T_InvalidNumber : ErrK K mg bVE U "InvalidNumber" CN) (S_InvalidNumber : ErrF K "InvalidNumber" "value" CN) (C_is_integer : Cal P w K mg base 1 "is_integer" ps_is_integer (spNum K)) (CX_check_mark : CalX P w K mg base 2 "check_mark" ps_check_mark (spMarkX K CM)) : MakXK P w K mg base 3 "Shortener" C ["mark", "tail", "head", "limit"] revK (spInitX K C CN CM) := by
  obtain ⟨f, fd, M, F, b⟩ := D.ex
  refine ⟨f, fd, ps_Shortener_init, revK, M, ok_initX B F T_InvalidNumber S_InvalidNumber C_is_integer CX_check_mark, S.g, ⟨fun s us ws I l1 l2 => ?_, fun r q => ?_⟩⟩
  · obtain ⟨oc, od, kV, doc, pm, an, cdv, ct, sl, e, lk, hcd⟩ := F.ex
    rw [e]
    match us, ws, l1, l2 with
    | [_], [_, _, _, _], _, _ => exact BindsTo.of_eq rfl
  · exact r.append (valsK q)
end
/-- the way in which a Shortener is refused: the word, the thing -/
def Refused (K : PySem.W.Frag) (H : Hp) (l h t m : V) (N : Str) (v : V) : Prop :=
  (N = "InvalidNumber" ∧ ((NoNum K H 40 l ∧ v = l) ∨ (OkNum l ∧ NoNum K H 40 h ∧ v = h) ∨ (OkNum l ∧ OkNum h ∧ NoNum K H 40 t ∧ v = t))) ∨ (N = "InvalidMark" ∧ OkNum l ∧ OkNum h ∧ OkNum t ∧ NoTxt K H 3 m ∧ v = m)
section
variable {K : PySem.W.Frag} {T : List (Addr × Str)} {C CN CM p : Addr} {H : Hp} {σ : L2.St} {Q : VK} {l h t m v : V} {N : Str}
theorem lam_core {hs : List (Str × Str × Addr)} (mN : (("InvalidNumber" : Str), ("value" : Str), CN) ∈ hs) (mM : (("InvalidMark" : Str), ("value" : Str), CM) ∈ hs) (L : LadT T p H H) (bad : ∀ G, KeepP p H G → Refused K G l h t m N v) (k : ∀ q J, LadT T p H J → J q = some (.lst [.str N, v, .bl true]) → Q (.ref q) J)
    {tl : XK → Hp → VK → Prop} (go : ∀ (E : XK) (G : Hp) (R : VK), (∀ x dx, G x = none → G dx = none → dx ≠ x → spInitX K C CN CM [.ref x, l, h, t, m] (upd (upd G dx (.own x)) x (.ins C dx [])) (fun u J => u = .non ∧ R (.ref x) J) E) → tl E G R) (H1 : Hp) (e1 : ExtN H H1) (t1 : Tabs T H1) : TEnd hs tl H1 Q := by
  have L1 : LadT T p H H1 := L.ext e1 t1
  refine ⟨fun cls d G => ∃ (D dd : Addr), cls = .ref D ∧ (N, ("value" : Str), D) ∈ hs ∧ d = some dd ∧ LadT T p H G ∧ G dd = some (.xd [("value", v)]), fun _ _ => False, go _ H1 _ fun x dx nx ndx ne => ?_, fun cls d G ⟨D, dd, h1, h2, h3, h4, h5⟩ => ⟨N, "value", D, dd, v, h2, h1, h3, h5, fun q J s e => k q J (h4.same s) e⟩, fun _ _ z => z.elim⟩
  have s2 : Same H1 (upd (upd H1 dx (.own x)) x (.ins C dx [])) := (same_new ndx).trans (same_new (by rw [upd_ne (Ne.symm ne)]; exact nx))
  have e2 : upd (upd H1 dx (.own x)) x (.ins C dx []) x = some (.ins C dx []) := upd_same
  generalize upd (upd H1 dx (.own x)) x (.ins C dx []) = H2 at s2 e2
  have L2 := L1.same s2
  refine ⟨x, dx, l, h, t, m, rfl, e2, ?_⟩
  rcases bad H2 L2.keep with ⟨rfl, b⟩ | ⟨rfl, o1, o2, o3, b, rfl⟩
  · exact .inl ⟨v, b, fun d G s e => ⟨CN, d, rfl, mN, rfl, L2.same s, e⟩⟩
  · exact .inr ⟨o1, o2, o3, b, fun d G s e => ⟨CM, d, rfl, mM, rfl, L2.same s, e⟩⟩
theorem lam_init {hs : List (Str × Str × Addr)} {ta : TA} (mN : (("InvalidNumber" : Str), ("value" : Str), CN) ∈ hs) (mM : (("InvalidMark" : Str), ("value" : Str), CM) ∈ hs) (L : LadT T p H H) (args : ∀ (G : Hp) (R : List V → Hp → Prop), R [l, h, t, m] G → ta σ G R) (bad : ∀ G, KeepP p H G → Refused K G l h t m N v) (k : ∀ q J, LadT T p H J → J q = some (.lst [.str N, v, .bl true]) → Q (.ref q) J) :
    tLam T (TEnd hs) (fun E => tMake C (spInitX K C CN CM) [] E ta) σ H Q := ⟨L.tabs, fun H1 e1 t1 => lam_core mN mM L bad k (fun E G R h => args G _ h) H1 e1 t1⟩
theorem lam_initK {hs : List (Str × Str × Addr)} {tk : TA} (mN : (("InvalidNumber" : Str), ("value" : Str), CN) ∈ hs) (mM : (("InvalidMark" : Str), ("value" : Str), CM) ∈ hs) (L : LadT T p H H) (args : ∀ (G : Hp) (R : List V → Hp → Prop), R [m, t, h, l] G → tk σ G R) (bad : ∀ G, KeepP p H G → Refused K G l h t m N v) (k : ∀ q J, LadT T p H J → J q = some (.lst [.str N, v, .bl true]) → Q (.ref q) J) :
    tLam T (TEnd hs) (fun E => tMakeK C 0 4 (spInitX K C CN CM) revK E tNil tk) σ H Q := ⟨L.tabs, fun H1 e1 t1 => lam_core mN mM L bad k (fun E G R h => args G _ ⟨rfl, rfl, h⟩) H1 e1 t1⟩
end
end Gu
namespace Gu
open PySem PySem.Spec PyProof.Rows L2
/-! ### things that are no numbers, no texts, no tuples -/
section
variable {K : PySem.W.Frag} {G : Hp} {m : Int} {a : Addr} {xs : List V}
theorem isa_non {T : String} {b : Bool} (h : PySem.W.kitOne K (.type "NoneType") (.type T) = some b) : Isa K G .non T b := ⟨_, .base .non, h⟩
theorem isa_bl {T : String} {b : Bool} {x : Bool} (h : PySem.W.kitOne K (.type "bool") (.type T) = some b) : Isa K G (.bl x) T b := ⟨_, .base (.bl x), h⟩
theorem isa_int {T : String} {b : Bool} {x : Int} (h : PySem.W.kitOne K (.type "int") (.type T) = some b) : Isa K G (.int x) T b := ⟨_, .base (.int x), h⟩
theorem isa_str {T : String} {b : Bool} {x : Str} (h : PySem.W.kitOne K (.type "str") (.type T) = some b) : Isa K G (.str x) T b := ⟨_, .base (.str x), h⟩
theorem isa_tup {T : String} {b : Bool} (e : G a = some (.tup xs)) (h : PySem.W.kitOne K (.type "tuple") (.type T) = some b) : Isa K G (.ref a) T b := ⟨_, .base (.tup e), h⟩
theorem isa_lst {T : String} {b : Bool} (e : G a = some (.lst xs)) (h : PySem.W.kitOne K (.type "list") (.type T) = some b) : Isa K G (.ref a) T b := ⟨_, .base (.lst e), h⟩
theorem isa_dict {T : String} {b : Bool} (e : G a = some (.dK [])) (h : PySem.W.kitOne K (.type "dict") (.type T) = some b) : Isa K G (.ref a) T b := ⟨_, .base (.dK e), h⟩
theorem nn_non : NoNum K G m .non := .inr (.inl (isa_non (kit_ty (by decide +kernel))))
theorem nn_str {z : Str} : NoNum K G m (.str z) := .inr (.inl (isa_str (kit_ty (by decide +kernel))))
theorem nn_bl {b : Bool} : NoNum K G m (.bl b) := .inr (.inr ⟨isa_bl (kit_ty (by decide +kernel)), isa_bl (kit_ty (by decide +kernel))⟩)
theorem nn_int {i : Int} (h : ¬ (0 ≤ i ∧ i ≤ m)) : NoNum K G m (.int i) := .inl ⟨i, rfl, h⟩
theorem nn_tup (e : G a = some (.tup xs)) : NoNum K G m (.ref a) := .inr (.inl (isa_tup e (kit_ty (by decide +kernel))))
theorem nn_lst (e : G a = some (.lst xs)) : NoNum K G m (.ref a) := .inr (.inl (isa_lst e (kit_ty (by decide +kernel))))
theorem nn_dict (e : G a = some (.dK [])) : NoNum K G m (.ref a) := .inr (.inl (isa_dict e (kit_ty (by decide +kernel))))
theorem nt_non : NoTxt K G m .non := .inl (isa_non (kit_ty (by decide +kernel)))
theorem nt_bl {b : Bool} : NoTxt K G m (.bl b) := .inl (isa_bl (kit_ty (by decide +kernel)))
theorem nt_int {i : Int} : NoTxt K G m (.int i) := .inl (isa_int (kit_ty (by decide +kernel)))
theorem nt_str {z : Str} (l : z.length ≤ 1000) (h : isTxt z m = false) : NoTxt K G m (.str z) := .inr ⟨z, rfl, l, h⟩
theorem nt_tup (e : G a = some (.tup xs)) : NoTxt K G m (.ref a) := .inl (isa_tup e (kit_ty (by decide +kernel)))
theorem nt_lst (e : G a = some (.lst xs)) : NoTxt K G m (.ref a) := .inl (isa_lst e (kit_ty (by decide +kernel)))
theorem nt_dict (e : G a = some (.dK [])) : NoTxt K G m (.ref a) := .inl (isa_dict e (kit_ty (by decide +kernel)))
/-- a thing that can be written out, and of which R holds, wherever only the pot and tables have changed -/
def Thing (K : PySem.W.Frag) (p : Addr) (H : Hp) (v : V) (d : PyData) (R : Hp → V → Prop) : Prop := FineE 2 400 d ∧ ∀ G, KeepP p H G → DpE K G v d ∧ R G v
theorem Thing.at {p : Addr} {H J : Hp} {v : V} {d : PyData} {R : Hp → V → Prop} (h : Thing K p H v d R) (k : KeepP p H J) : Thing K p J v d R := ⟨h.1, fun G z => h.2 G (k.trans z)⟩
variable {p : Addr} {H : Hp} {R : Hp → V → Prop}
theorem th_non (r : ∀ G, R G .non) : ∃ d, Thing K p H .non d R := ⟨.none, Fine.none.e.mono (by decide) (by decide), fun G _ => ⟨.non, r G⟩⟩
theorem th_bl {b : Bool} (r : ∀ G, R G (.bl b)) : ∃ d, Thing K p H (.bl b) d R := ⟨.bool b, (Fine.bool b).e.mono (by decide) (by decide), fun G _ => ⟨.bl b, r G⟩⟩
theorem th_int {i : Int} (h : i.natAbs < 2 ^ 70) (r : ∀ G, R G (.int i)) : ∃ d, Thing K p H (.int i) d R := ⟨.int i, (Fine.int h).e.mono (by decide) (by decide), fun G _ => ⟨.int i, r G⟩⟩
theorem th_str {z : Str} (h : ∀ c ∈ z.cps.toList, c < 16 ^ 8) (l : z.cps.toList.length ≤ 400) (r : ∀ G, R G (.str z)) : ∃ d, Thing K p H (.str z) d R := ⟨.str z, (Fine.str h l).e.mono (by decide) (Nat.le_refl _), fun G _ => ⟨.str z, r G⟩⟩
theorem th_dict {a : Addr} (hp : Pot H p) (e : H a = some (.dK [])) (r : ∀ G, G a = some (.dK []) → R G (.ref a)) : ∃ d, Thing K p H (.ref a) d R := ⟨.dict [], FineE.dict0.mono (by decide) (by decide), fun G k => ⟨.dict (k.dict hp e), r G (k.dict hp e)⟩⟩
theorem th_tup {a : Addr} {xs : List V} {ds : List PyData} (hp : Pot H p) (e : H a = some (.tup xs)) (f : FineE 2 400 (.tuple ds)) (all : ∀ G, KeepP p H G → DpEs K G xs ds) (r : ∀ G, G a = some (.tup xs) → R G (.ref a)) : ∃ d, Thing K p H (.ref a) d R := ⟨.tuple ds, f, fun G k => ⟨.tup (.inl (.inl (k.tup hp e))) (all G k), r G (k.tup hp e)⟩⟩
theorem th_lst {a : Addr} {xs : List V} {ds : List PyData} (n : a ≠ p) (e : H a = some (.lst xs)) (f : FineE 2 400 (.list ds)) (all : ∀ G, KeepP p H G → DpEs K G xs ds) (r : ∀ G, G a = some (.lst xs) → R G (.ref a)) : ∃ d, Thing K p H (.ref a) d R := ⟨.list ds, f, fun G k => ⟨.lst (k.lst n e) (all G k), r G (k.lst n e)⟩⟩
end
end Gu
namespace Gu
open PySem PySem.Spec PyProof.Rows L2
/-! data are equal to themselves -/
mutual
theorem eqv_self : ∀ d : PyData, d.canLay0 = true → PyData.eqv d d = true
  | .none, _ => rfl
  | .bool b, _ => by simp [PyData.eqv]
  | .int i, _ => by simp [PyData.eqv]
  | .str x, _ => by simp [PyData.eqv]
  | .list xs, h => by
    rw [PyData.eqv]
    exact eqv_selfs xs (by simpa [PyData.canLay0] using h)
  | .tuple xs, h => by
    rw [PyData.eqv]
    exact eqv_selfs xs (by simpa [PyData.canLay0] using h)
  | .dict _, h => by simp [PyData.canLay0] at h
theorem eqv_selfs : ∀ xs : List PyData, PyData.canLayAll0 xs = true → PyData.eqvAll xs xs = true
  | [], _ => rfl
  | x :: xs, h => by
    have h2 : x.canLay0 = true ∧ PyData.canLayAll0 xs = true := by simpa [PyData.canLayAll0] using h
    rw [PyData.eqvAll, eqv_self x h2.1, eqv_selfs xs h2.2]
    rfl
end
end Gu
namespace Gu
open PySem PySem.Spec PyProof.Rows L2 LamX
/-! ### what has been seen, one answer after the other -/
theorem LadT.kp {T : List (Addr × Str)} {p : Addr} {H G : Hp} (a : LadT T p H G) : KeepP p H G := a.keep
theorem LadT.here {T : List (Addr × Str)} {p : Addr} {H G : Hp} (a : LadT T p H G) : LadT T p G G := .refl a.pot a.tabs a.sys
theorem pot_neS {H : Hp} {p q : Addr} {z : Str} {xs : List V} (h : Pot H p) (e : H q = some (.lst (.str z :: xs))) : q ≠ p := fun y => by
  obtain ⟨a, b, c, f⟩ := h
  rw [← y, e] at f
  cases f
structure SeenAt (p : Addr) (H : Hp) (S : Addr) (qs : List (Addr × Str × V)) : Prop where
  ls : H S = some (.lst (qs.map fun q => V.ref q.1))
  ne : S ≠ p
  el : ∀ q ∈ qs, H q.1 = some (.lst [.str q.2.1, q.2.2, .bl true]) ∧ q.1 ≠ S
theorem SeenAt.keep {p S : Addr} {H G : Hp} {qs : List (Addr × Str × V)} (h : SeenAt p H S qs) (hp : Pot H p) (k : KeepP p H G) : SeenAt p G S qs := ⟨k.lst h.ne h.ls, h.ne, fun q hq => ⟨k.lst (pot_neS hp (h.el q hq).1) (h.el q hq).1, (h.el q hq).2⟩⟩
theorem SeenAt.first {p S q : Addr} {H : Hp} {N : Str} {v : V} (hp : Pot H p) (nS : H S = none) (e : H q = some (.lst [.str N, v, .bl true])) : SeenAt p (upd H S (.lst [.ref q])) S [(q, N, v)] := by
  refine ⟨upd_same, hp.ne nS, fun r hr => ?_⟩
  rw [List.mem_singleton.mp hr]
  exact ⟨by rw [upd_ne (ne_of_none e nS)]; exact e, ne_of_none e nS⟩
theorem SeenAt.none {p S : Addr} {H : Hp} (hp : Pot H p) (nS : H S = none) : SeenAt p (upd H S (.lst [])) S [] := ⟨upd_same, hp.ne nS, fun r hr => by cases hr⟩
section
variable {T : List (Addr × Str)} {p S q : Addr} {H J : Hp} {qs : List (Addr × Str × V)} {N : Str} {v : V}
/-- S.append(q), q new -/
theorem SeenAt.more (h : SeenAt p J S qs) (e : J q = some (.lst [.str N, v, .bl true])) (n : q ≠ S) : SeenAt p (upd J S (.lst ((qs.map fun q => V.ref q.1) ++ [.ref q]))) S (qs ++ [(q, N, v)]) := by
  refine ⟨by rw [upd_same, List.map_append]; rfl, h.ne, fun r hr => ?_⟩
  rcases List.mem_append.mp hr with hr | hr
  · exact ⟨by rw [upd_ne (h.el r hr).2]; exact (h.el r hr).1, (h.el r hr).2⟩
  · rw [List.mem_singleton.mp hr]
    exact ⟨by rw [upd_ne n]; exact e, n⟩
end
/-- the items of a list are things -/
theorem seen_data {K : PySem.W.Frag} {p S : Addr} {H : Hp} {qs : List (Addr × Str × V)} (h : SeenAt p H S qs) {ds : List PyData} (all : DpEs K H (qs.map (·.2.2)) ds) : DpE K H (.ref S) (.list ((qs.zip ds).map fun x => .list [.str x.1.2.1, x.2, .bool true])) := by
  refine .lst h.ls ?_
  have go : ∀ (qs : List (Addr × Str × V)) (ds : List PyData), (∀ q ∈ qs, H q.1 = some (.lst [.str q.2.1, q.2.2, .bl true])) → DpEs K H (qs.map (·.2.2)) ds → DpEs K H (qs.map fun q => V.ref q.1) ((qs.zip ds).map fun x => .list [.str x.1.2.1, x.2, .bool true]) := by
    intro qs
    induction qs with
    | nil => exact fun _ _ _ => .nil
    | cons q qs ih =>
      intro ds e a
      cases a with
      | cons a1 a2 => exact .cons (.lst (e q (List.mem_cons_self ..)) (.cons (.str _) (.cons a1 (.cons (.bl true) .nil)))) (ih _ (fun r hr => e r (List.mem_cons_of_mem _ hr)) a2)
  exact go qs ds (fun q hq => (h.el q hq).1) all
/-- a short word -/
def isTxt20 (N : Str) : Bool := decide (N.cps.toList.length ≤ 20) && N.cps.toList.all fun c => decide (c < 128)
theorem word_fine {N : Str} (h : isTxt20 N = true) : FineE 2 400 (.str N) := by
  unfold isTxt20 at h
  rw [Bool.and_eq_true, List.all_eq_true] at h
  have l := of_decide_eq_true h.1
  exact (Fine.str (W := 400) (fun c hc => Nat.lt_of_lt_of_le (of_decide_eq_true (h.2 c hc)) (by decide)) (by omega)).e.mono (by decide) (Nat.le_refl _)
/-- an answer written out -/
def said (N : Str) (d : PyData) : PyData := .list [.str N, d, .bool true]
theorem said_fine {N : Str} {d : PyData} (h : FineE 2 400 d) (n : isTxt20 N = true) : FineE 3 1300 (said N d) := by
  have a : FineEs 2 400 [.str N, d, .bool true] := .of fun e he => by
    simp only [List.mem_cons, List.not_mem_nil, or_false] at he
    rcases he with rfl | rfl | rfl
    · exact word_fine n
    · exact h
    · exact (Fine.bool true).e.mono (by decide) (by decide)
  exact a.list.mono (Nat.le_refl _) (by show 3 * 401 ≤ 1300; decide)
theorem all_said {l : List PyData} (h : ∀ d ∈ l, FineE 3 1300 d) (n : l.length ≤ 60) : FineE 60 100000 (.list l) := by
  refine (FineEs.of h).list.mono (by decide) ?_
  have := Nat.mul_le_mul_right 1301 n
  omega
end Gu
namespace Gu
open PySem PySem.Spec PyProof.Rows L2
/-! ### a def that a name holds is called, and may raise -/
structure AskAt (P : Program) (w : World) (K : PySem.W.Frag) (mg : Str → Option Value) (base : Heap) (k : Nat) (sp : Sp) (f : Addr) : Prop where
  ex : ∃ (fd : FuncData) (ps : List Str), FnOk P w K mg base (L2.CX P w) k f fd ps sp ∧ PySem.W.keepIn K (.ref f) = true ∧ Binds K fd ps []
structure AskKw (P : Program) (w : World) (K : PySem.W.Frag) (mg : Str → Option Value) (base : Heap) (k : Nat) (ks : List Str) (gV : List V → List V) (sp : Sp) (f : Addr) : Prop where
  ex : ∃ (fd : FuncData) (ps : List Str) (g : List Value → List Value), FnOk P w K mg base (L2.CX P w) k f fd ps sp ∧ PySem.W.keepIn K (.ref f) = true ∧ KBn K fd ps 0 ks (fun _ ws => g ws) (fun _ zs => gV zs)
theorem fn_up {P : Program} {w : World} {K : PySem.W.Frag} {mg : Str → Option Value} {base : Heap} {CX : CXT} {k j : Nat} {f : Addr} {fd : FuncData} {ps : List Str} {sp : Sp} (F : FnOk P w K mg base CX k f fd ps sp) (h : k ≤ j) : FnOk P w K mg base CX j f fd ps sp :=
  ⟨F.len, fun A outer s H args us vs Q E r => F.run A outer s H args us vs Q E (r.mono h)⟩
theorem fn_imp {P : Program} {w : World} {K : PySem.W.Frag} {mg : Str → Option Value} {base : Heap} {CX : CXT} {k : Nat} {f : Addr} {fd : FuncData} {ps : List Str} {s1 s2 : Sp} (F : FnOk P w K mg base CX k f fd ps s1) (h : ∀ vs H Q E, s2 vs H Q E → s1 vs H Q E) : FnOk P w K mg base CX k f fd ps s2 :=
  ⟨fun vs H Q E z => F.len vs H Q E (h vs H Q E z), fun A outer s H args us vs Q E a b c d z => F.run A outer s H args us vs Q E a b c d (h vs H Q E z)⟩
section
variable {P : Program} {w : World} {K : PySem.W.Frag} {mg : Str → Option Value} {base : Heap} {k j : Nat} {x : Str} {ps : List Str} {sp : Sp}
theorem CalX.ask (c : CalX P w K mg base k x ps sp) (h : k ≤ j) : ∃ f, mg x = some (.ref f) ∧ AskAt P w K mg base j sp f := by
  obtain ⟨f, fd, F, hm, kp, b, _⟩ := c.ex
  exact ⟨f, hm, fd, ps, fn_up F h, kp, b⟩
theorem CalX.or {s1 s2 : Sp} (a : CalX P w K mg base k x ps s1) (b : CalX P w K mg base k x ps s2) : CalX P w K mg base k x ps (fun vs H Q E => s1 vs H Q E ∨ s2 vs H Q E) := by
  obtain ⟨f, fd, F, hm, kp, bd, oc, od, sl, lk⟩ := a.ex
  obtain ⟨f2, fd2, F2, hm2, _, _, oc2, od2, sl2, lk2⟩ := b.ex
  have e1 := hm.symm.trans hm2
  cases e1
  have e2 := lk.symm.trans lk2
  cases e2
  exact ⟨f, fd, ⟨fun vs H Q E h => h.elim (F.len vs H Q E) (F2.len vs H Q E), fun A outer s H args us vs Q E r e b c want => want.elim (fun h => F.run A outer s H args us vs Q E r e b c h) (fun h => F2.run A outer s H args us vs Q E r e b c h)⟩, hm, kp, bd, oc, od, sl, lk⟩
theorem CalX.askK {st : Stmt} {ks : List Str} (g : {α : Type} → List α → List α) (c : CalX P w K mg base k x ps sp) (h : k ≤ j) (D : At K mg x st ps) (hv : ∀ {zs : List V} {ws : List Value}, Vals zs ws → Vals (g zs) (g ws))
    (hb : ∀ (kV doc pm : Value) (an : Option Addr) (cdv ct : Value) (ws : List Value), ws.length = ks.length → bindArgs (PySem.W.fnOf x x (defArgs st) (defBody st) (defScope st) .none kV doc pm an cdv ct) ⟨[], ks.zip ws⟩ = pure (ps.zip (g ws))) : ∃ f, mg x = some (.ref f) ∧ AskKw P w K mg base j ks g sp f := by
  obtain ⟨f, fd, F, hm, kp, b, oc, od, sl, lk⟩ := c.ex
  obtain ⟨f2, fd2, F2, b2, hm2⟩ := D.ex
  cases hm.symm.trans hm2
  obtain ⟨oc2, od2, kV, doc, pm, an, cdv, ct, sl2, e, lk2, hcd⟩ := F2.ex
  cases lk.symm.trans lk2
  refine ⟨f, hm, fd, ps, g, fn_up F h, kp, ⟨fun s us ws I l1 l2 => ?_, fun _ r => hv r⟩⟩
  cases us with
  | nil =>
    rw [e]
    exact BindsTo.of_eq (hb kV doc pm an cdv ct ws l2)
  | cons u r => cases l1
end
section
variable {X : Cx} {k j i : Nat} {x : Str} {sp : Sp} {E : XK} {W : WX} {p pos : Pos} {e : Expr} {es : List Expr} {t tk : TA} {ks : List Str} {gV : List V → List V} {kws : List Keyword}
def tCallD (ok : Addr → Prop) (i : Nat) (sp : Sp) (E : XK) (t : TA) : TE := fun σ H Q => ∃ f, σ[i]? = some (some (.ref f)) ∧ ok f ∧ t σ H fun vs G => sp vs G Q E
theorem pe_callD (ok : Addr → Prop) (A : ∀ f, ok f → AskAt X.prog X.w X.K X.mg X.base k sp f) (hr : Room j X.A) (hk : k ≤ j) (ty : Takes X W) (hW : ∀ cls d σ H, E cls d H → W cls d σ H) (hN : X.N[i]? = some x) (hv : Vis X.env.scope x) (ha : PA X (e :: es) t)
    (hdb : (x == ("__debug__" : Str)) = false := by decide) (hcd : (x == ("__classdict__" : Str)) = false := by decide)
    (he : starEach (e :: es) X.env = (false, eval e X.env) :: starEach es X.env := by rfl) (hpl : (backTo pos (starEach es X.env)).any (·.1) = false := by rfl) : PE X (.Call (.Name x p) (e :: es) [] pos) (tCallD ok i sp E t) := by
  refine ⟨fun pins s σ H Q I h => ?_⟩
  obtain ⟨f, hs, hf, ht⟩ := h
  obtain ⟨fd, ps, F, kp, b⟩ := (A f hf).ex
  refine (pe_callL (i := i) (f := f) (sp := sp) (dvs := []) F (hr.mono hk) hN hv kp b .nil (passes_call ty hW) ha hdb hcd he hpl).run pins s σ H Q I ⟨hs, ?_⟩
  have e0 : (fun (vs : List V) (G : Hp) => sp (vs ++ []) G Q E) = fun vs G => sp vs G Q E := by
    funext vs G
    rw [List.append_nil]
  show t σ H (fun vs G => sp (vs ++ []) G Q E)
  rw [e0]
  exact ht
def tKwD (ok : Addr → Prop) (i m : Nat) (gV : List V → List V) (sp : Sp) (E : XK) (tk : TA) : TE := fun σ H Q => ∃ f, σ[i]? = some (some (.ref f)) ∧ ok f ∧ tk σ H fun zs G => zs.length = m ∧ sp (gV zs) G Q E
theorem pe_kwD (ok : Addr → Prop) (A : ∀ f, ok f → AskKw X.prog X.w X.K X.mg X.base k ks gV sp f) (hr : Room j X.A) (hk : k ≤ j) (ty : Takes X W) (hW : ∀ cls d σ H, E cls d H → W cls d σ H) (hN : X.N[i]? = some x) (hv : Vis X.env.scope x) (hkw : PK X kws tk) (hall : (backToKw pos (keywordEach kws X.env)).all (·.1.isSome) = true := by rfl)
    (hks : (backToKw pos (keywordEach kws X.env)).filterMap (·.1) = ks := by rfl) (hdb : (x == ("__debug__" : Str)) = false := by decide) (hcd : (x == ("__classdict__" : Str)) = false := by decide)
    (hpl : ((backTo pos (starEach [] X.env)).any (·.1) || (backToKw pos (keywordEach kws X.env)).any (·.1.isNone)) = false := by rfl) : PE X (.Call (.Name x p) [] kws pos) (tKwD ok i ks.length gV sp E tk) := by
  refine ⟨fun pins s σ H Q I h => ?_⟩
  obtain ⟨f, hs, hf, ht⟩ := h
  obtain ⟨fd, ps, g, F, kp, b⟩ := (A f hf).ex
  refine wpAny_Call_Name_kw (thn ((pe_var (pos := p) hN hv hdb hcd).run pins s σ H (fun v G => v = .ref f ∧ G = H) I ⟨.ref f, hs, rfl, rfl⟩) fun u s1 ⟨v, G, I1, r1, q1⟩ => ?_)
  obtain ⟨rfl, rfl⟩ := q1
  cases r1
  refine PySem.W.callWith_KW0 (h₀ := X.base) I.ok.mod.kin kp hall ?_ hpl
  refine thn (hkw.run pos pins s1 σ _ _ I1 ht) fun ws s2 ⟨zs, J, I2, rz, l2, q2⟩ => ⟨I2.kIn, ?_⟩
  rw [hks]
  exact run_fnN (us := []) (vs := []) F (hr.mono hk) b (passes_call ty hW) I2 .nil rz rfl l2 q2
end
end Gu
namespace Gu
open PySem PySem.Spec PyProof.Rows L2
/-! ### rows refused -/
/-- what isinstance asks of Shortener, more -/
structure ShX (K : PySem.W.Frag) (C : Addr) : Prop where
  ty : PySem.W.typeIn K (.ref C) = some (.type "type")
  nt : PySem.W.mroIn K C (.type "tuple") = some false
  ns : PySem.W.mroIn K C (.type "str") = some false
  isC : (PySem.W.clsIn K C).isSome = true
def IsaC (K : PySem.W.Frag) (H : Hp) (x : V) (C : Addr) (b : Bool) : Prop := ∃ t, TyX K H x t ∧ PySem.W.kitOne K t (.ref C) = some b
theorem IsaC.same {K : PySem.W.Frag} {H G : Hp} {x : V} {C : Addr} {b : Bool} (s : Same H G) (h : IsaC K H x C b) : IsaC K G x C b := by
  obtain ⟨t, a, c⟩ := h
  exact ⟨t, TyX.same s a, c⟩
/-- no tuple of a to b items -/
def NoTup (K : PySem.W.Frag) (H : Hp) (a b : Nat) (v : V) : Prop := Isa K H v "tuple" false ∨ ∃ (l : Addr) (xs : List V), v = .ref l ∧ SqT K H l xs ∧ ¬ (a ≤ xs.length ∧ xs.length ≤ b)
theorem NoTup.same {K : PySem.W.Frag} {H G : Hp} {a b : Nat} {v : V} (s : Same H G) (h : NoTup K H a b v) : NoTup K G a b v := h.imp (Isa.same s) fun ⟨l, xs, e, q, n⟩ => ⟨l, xs, e, stE s q, n⟩
def RowOk (C : Addr) (H : Hp) (v : V) : Prop := ∃ (a : Addr) (rs : List (Addr × Rec)), v = .ref a ∧ RowAt C H a rs ∧ 1 ≤ rs.length ∧ rs.length ≤ 4
theorem RowOk.same {C : Addr} {H G : Hp} {v : V} (s : Same H G) (h : RowOk C H v) : RowOk C G v := by
  obtain ⟨a, rs, e, r, l⟩ := h
  exact ⟨a, rs, e, r.same s, l⟩
/-- a row that is none: the place of the first wrong part, or None -/
def RowBad (K : PySem.W.Frag) (C : Addr) (H : Hp) (v spot : V) : Prop := (spot = .non ∧ NoTup K H 1 4 v) ∨
  ∃ (l : Addr) (xs : List V) (i : Nat) (x : V), v = .ref l ∧ SqT K H l xs ∧ 1 ≤ xs.length ∧ xs.length ≤ 4 ∧ (∀ j y, j < i → xs[j]? = some y → IsaC K H y C true) ∧ xs[i]? = some x ∧ IsaC K H x C false ∧ spot = .int (i : Int)
theorem RowBad.same {K : PySem.W.Frag} {C : Addr} {H G : Hp} {v spot : V} (s : Same H G) (h : RowBad K C H v spot) : RowBad K C G v spot := h.imp (And.imp id (NoTup.same s)) fun ⟨l, xs, i, x, e, q, l1, l4, b, hx, n, es⟩ => ⟨l, xs, i, x, e, stE s q, l1, l4, fun j y hj hy => (b j y hj hy).same s, hx, n.same s, es⟩
section
variable {P : Program} {w : World} {K : PySem.W.Frag} {mg : Str → Option Value} {base : Heap} {C U CR CL CT : Addr}
theorem isaC_sh (S : ShC K mg C) {H : Hp} {x dx : Addr} {fs : List (Str × V)} (e : H x = some (.ins C dx fs)) : IsaC K H (.ref x) C true := ⟨_, .base (.ins e S.cl S.ha S.hn S.ht S.hm), S.kk⟩
theorem isaC_no (Z : ShX K C) {H : Hp} {x : V} {T : String} (h : TyX K H x (.type T)) (e : PySem.W.subIn K (.type T) (.ref C) = some false) : IsaC K H x C false := ⟨_, h, kit_one (kit_ref Z.isC Z.ty e) fun z => by cases z⟩
/-- a tuple of a to b items, or none -/
def spTup (K : PySem.W.Frag) : Sp := fun vs H Q _ => ∃ (v : V) (a b : Nat), vs = [v, .int (a : Int), .int (b : Int)] ∧ ((∃ (l : Addr) (xs : List V), v = .ref l ∧ SqT K H l xs ∧ a ≤ xs.length ∧ xs.length ≤ b ∧ Q (.bl true) H) ∨ (NoTup K H a b v ∧ Q (.bl false) H))
theorem tup_of (c : Cal P w K mg base 1 "is_tuple" ps_is_tuple (spIsTuple K)) : Cal P w K mg base 1 "is_tuple" ps_is_tuple (spTup K) := c.imp fun vs H Q E ⟨v, a, b, e, h⟩ => by
  refine ⟨v, a, b, e, ?_⟩
  rcases h with ⟨l, xs, rfl, hs, h0, h1, q⟩ | ⟨h | ⟨l, xs, rfl, hs, n⟩, q⟩
  · exact .inl ⟨l, xs, rfl, hs, by rw [decide_eq_true ⟨by omega, by omega⟩]; exact q⟩
  · exact .inr ⟨h, q⟩
  · exact .inl ⟨l, xs, rfl, hs, by rw [decide_eq_false (fun z => n ⟨by omega, by omega⟩)]; exact q⟩
def spRowE (K : PySem.W.Frag) (C CR : Addr) : Sp := fun vs H Q E => ∃ v : V, vs = [v] ∧ ((RowOk C H v ∧ ∀ G, Same H G → Q .non G) ∨ ∃ spot, RowBad K C H v spot ∧ Raised CR "index" spot H E)
theorem cal_rowE (B : Bi mg) (S : ShC K mg C) (D : At K mg "check_row" s_check_row ps_check_row) (T_InvalidRow : ErrK K mg bVE U "InvalidRow" CR) (S_InvalidRow : ErrF K "InvalidRow" "index" CR) (C_is_tuple : Cal P w K mg base 1 "is_tuple" ps_is_tuple (spTup K)) : CalX P w K mg base 2 "check_row" ps_check_row (spRowE K C CR) := by
  refine D.calX sc_check_row (fun vs H Q E h => ?_) (fun f cdv A outer s H vs Q E hr h => ?_)
  · obtain ⟨v, rfl, _⟩ := h
    rfl
  · obtain ⟨v, rfl, way⟩ := h
    refine ⟨_, (pss_cons (ps_if (pt_not (pt_val (pe_own C_is_tuple hr (by decide) (by rfl) (pa_cons (pv 0) (pa_cons pe_int (pa_cons (pe_cst B.MOST_ROW (by rfl)) pa_nil)))))) (pss_one (ps_raiseE T_InvalidRow S_InvalidRow rfl hr (takes_of rfl rfl rfl rfl) (pa_cons pe_non pa_nil) (by rfl))) pss_nil)
      (pss_one (ps_for (passes_of rfl) rfl (pi_enT (by rfl) B.enumerate (pa_cons (pv 0) pa_nil)) (pg_tup rfl (pgs_cons (pg_name (i := 1) sc_check_row.nd rfl (.inl rfl)) (pgs_cons (pg_name (i := 2) sc_check_row.nd rfl (.inl rfl)) pgs_nil)))
      (pss_one (ps_if (pt_not (pt_val (pe_callB call_isi (by rfl) B.isinstance (by decide +kernel) (pa_cons (pv 2) (pa_cons (pe_glob (v := .ref C) (by rfl) S.g rfl) pa_nil))))) (pss_one (ps_raiseE T_InvalidRow S_InvalidRow rfl hr (takes_of rfl rfl rfl rfl) (pa_cons (pv 1) pa_nil) (by rfl))) pss_nil))))), ?_⟩
    rcases way with ⟨⟨a, rs, rfl, row, l1, l4⟩, k⟩ | ⟨spot, ⟨rfl, no⟩ | ⟨l, xs, i, x, rfl, hs, l1, l4, before, hx, bad, rfl⟩, k⟩
    · refine ⟨_, rfl, _, 1, 4, rfl, .inl ⟨a, _, rfl, .inl (.inl row.tp), by rw [List.length_map]; exact l1, by rw [List.length_map]; exact l4, _, rfl, iteF ?_⟩⟩
      refine ⟨_, rfl, a, _, rfl, .inl (.inl row.tp), for_it walk_enT (fun i σ J => ∃ u v, σ = [some (.ref a), u, v] ∧ Same H J) ⟨none, none, rfl, Same.refl H⟩ (fun i σ J _ ⟨_, _, _, sJ⟩ => .inl (.inl (sJ _ _ row.tp))) ?_ ?_⟩
      · rintro i x σ J J1 hi ⟨u, v2, rfl, sJ⟩ ⟨T, z, hz, rfl, nT, rfl⟩
        obtain ⟨q, hq, rfl⟩ : ∃ q ∈ rs, z = .ref q.1 := by
          obtain ⟨q, h1, h2⟩ := List.mem_map.mp (List.mem_of_getElem? hz)
          exact ⟨q, h1, h2.symm⟩
        have sT : Same H (upd J T (.tup [.int (i : Nat), .ref q.1])) := sJ.trans (same_new nT)
        obtain ⟨⟨dx, b, ex, _⟩, _⟩ := (row.same sT).sh q hq
        obtain ⟨t, i1, i2⟩ := isaC_sh S ex
        exact ⟨T, _, rfl, .inl (.inl upd_same), rfl, _, _, rfl, _, _, rfl, rfl, _, rfl, _, _, t, _, true, rfl, .own C, i1, i2, _, rfl, iteF ⟨_, _, rfl, sT⟩⟩
      · rintro σ J ⟨u, v, rfl, sJ⟩
        exact k J sJ
    · exact ⟨_, rfl, v, 1, 4, rfl, .inr ⟨no, _, rfl, iteT ⟨_, rfl, fun d nd => k d _ (same_new nd) upd_same⟩⟩⟩
    · refine ⟨_, rfl, _, 1, 4, rfl, .inl ⟨l, _, rfl, hs, l1, l4, _, rfl, iteF ?_⟩⟩
      refine ⟨_, rfl, l, _, rfl, hs, for_it walk_enT (fun j σ J => ∃ u v, σ = [some (.ref l), u, v] ∧ Same H J ∧ j ≤ i) ⟨none, none, rfl, Same.refl H, Nat.zero_le _⟩ (fun i σ J _ ⟨_, _, _, sJ, _⟩ => stE sJ hs) ?_ ?_⟩
      · rintro j y σ J J1 hj ⟨u, v2, rfl, sJ, ji⟩ ⟨T, z, hz, rfl, nT, rfl⟩
        have sT : Same H (upd J T (.tup [.int (j : Nat), z])) := sJ.trans (same_new nT)
        refine ⟨T, _, rfl, .inl (.inl upd_same), rfl, _, _, rfl, _, _, rfl, rfl, ?_⟩
        rcases Nat.lt_or_ge j i with lt | ge
        · obtain ⟨t, i1, i2⟩ := (before j z lt hz).same sT
          exact ⟨_, rfl, _, _, t, _, true, rfl, .own C, i1, i2, _, rfl, iteF ⟨_, _, rfl, sT, lt⟩⟩
        · have ej : j = i := by omega
          subst ej
          rw [hx] at hz
          cases hz
          obtain ⟨t, i1, i2⟩ := bad.same sT
          exact ⟨_, rfl, _, _, t, _, false, rfl, .own C, i1, i2, _, rfl, iteT ⟨_, rfl, _, rfl, fun d nd => k d _ (sT.trans (same_new nd)) upd_same⟩⟩
      · rintro σ J ⟨u, v, rfl, sJ, ji⟩
        have := (List.getElem?_eq_some_iff.mp hx).1
        omega
def spTextE (K : PySem.W.Frag) (CT : Addr) : Sp := fun vs H _ E => ∃ v : V, vs = [v] ∧ NoTxt K H 200 v ∧ Raised CT "value" v H E
theorem cal_textE (B : Bi mg) (D : At K mg "check_text" s_check_text ps_check_text) (T_InvalidText : ErrK K mg bVE U "InvalidText" CT) (S_InvalidText : ErrF K "InvalidText" "value" CT) (C_is_text : Cal P w K mg base 1 "is_text" ps_is_text (spTxt K)) : CalX P w K mg base 2 "check_text" ps_check_text (spTextE K CT) := by
  refine D.calX sc_check_text (fun vs H Q E h => ?_) (fun f cdv A outer s H vs Q E hr h => ?_)
  · obtain ⟨v, rfl, _⟩ := h
    rfl
  · obtain ⟨v, rfl, no, k⟩ := h
    refine ⟨_, (pss_one (ps_if (pt_not (pt_val (pe_own C_is_text hr (by decide) (by rfl) (pa_cons (pv 0) (pa_cons (pe_cst B.MOST_TEXT (by rfl)) pa_nil))))) (pss_one (ps_raiseE T_InvalidText S_InvalidText rfl hr (takes_of rfl rfl rfl rfl) (pa_cons (pv 0) pa_nil) (by rfl))) pss_nil)), ?_⟩
    exact ⟨_, rfl, v, 200, rfl, .inr ⟨no, fun G s => ⟨_, rfl, iteT ⟨_, rfl, v, rfl, fun d nd => k d _ (s.trans (same_new nd)) upd_same⟩⟩⟩⟩
def spLenE (K : PySem.W.Frag) (CL : Addr) : Sp := fun vs H _ E => ∃ v : V, vs = [v] ∧ NoNum K H 500 v ∧ Raised CL "value" v H E
theorem cal_lenE (B : Bi mg) (D : At K mg "check_length" s_check_length ps_check_length) (T_InvalidLength : ErrK K mg bVE U "InvalidLength" CL) (S_InvalidLength : ErrF K "InvalidLength" "value" CL) (C_is_integer : Cal P w K mg base 1 "is_integer" ps_is_integer (spNum K)) : CalX P w K mg base 2 "check_length" ps_check_length (spLenE K CL) := by
  refine D.calX sc_check_length (fun vs H Q E h => ?_) (fun f cdv A outer s H vs Q E hr h => ?_)
  · obtain ⟨v, rfl, _⟩ := h
    rfl
  · obtain ⟨v, rfl, no, k⟩ := h
    refine ⟨_, (pss_one (ps_if (pt_not (pt_val (pe_own C_is_integer hr (by decide) (by rfl) (pa_cons (pv 0) (pa_cons pe_int (pa_cons (pe_cst B.MOST_LENGTH (by rfl)) pa_nil)))))) (pss_one (ps_raiseE T_InvalidLength S_InvalidLength rfl hr (takes_of rfl rfl rfl rfl) (pa_cons (pv 0) pa_nil) (by rfl))) pss_nil)), ?_⟩
    exact ⟨_, rfl, v, 500, rfl, .inr ⟨no, _, rfl, iteT ⟨_, rfl, v, rfl, fun d nd => k d _ (same_new nd) upd_same⟩⟩⟩
end
end Gu
namespace Gu
open PySem PySem.Spec PyProof.Rows L2
/-! ### plans as data, and filled in -/
def dat : V → PyData
  | .int i => .int i
  | .str z => .str z
  | _ => .none
/-- a place or a single sign -/
def Plain (n : Nat) (x : V) : Prop := (∃ i : Int, x = .int i ∧ 0 ≤ i ∧ i < (n : Int)) ∨ ∃ c : Nat, x = .str (one c) ∧ c < 128
theorem Plain.fine {n : Nat} {x : V} (hn : n ≤ 500) (h : Plain n x) : Fine 0 70 (dat x) := by
  rcases h with ⟨i, rfl, h0, h1⟩ | ⟨c, rfl, hc⟩
  · exact Fine.int (by omega)
  · exact (Fine.str (z := one c) (W := 1) (fun d hd => by
      rw [List.mem_singleton.mp (show d ∈ [c] from hd)]
      exact Nat.lt_of_lt_of_le hc (by decide)) (Nat.le_refl _)).mono (Nat.le_refl _) (by decide)
theorem Plain.dp {K : PySem.W.Frag} {H : Hp} {n : Nat} {x : V} (h : Plain n x) : Dp K H x (dat x) := by
  rcases h with ⟨i, rfl, _⟩ | ⟨c, rfl, _⟩
  · exact .int i
  · exact .str _
theorem dp_all {K : PySem.W.Frag} {H : Hp} {n : Nat} : ∀ {xs : List V}, (∀ x ∈ xs, Plain n x) → DpAll K H xs (xs.map dat)
  | [], _ => .nil
  | x :: xs, h => .cons (h x (List.mem_cons_self ..)).dp (dp_all fun y hy => h y (List.mem_cons_of_mem _ hy))
theorem ones_plain {n : Nat} {cs : List Nat} (h : Signs cs) : ∀ x ∈ ones cs, Plain n x := by
  intro x hx
  obtain ⟨c, hc, rfl⟩ := List.mem_map.mp hx
  have a : ∀ c ∈ signs.cps.toList, c < 128 := by decide +kernel
  exact .inr ⟨c, rfl, a c (h c hc)⟩
theorem cutsV_all {p : V → Prop} : ∀ (rs : List Rec) {xs : List V}, (∀ r ∈ rs, ∀ x ∈ ones r.z.cps.toList, p x) → (∀ x ∈ xs, p x) → ∀ x ∈ cutsV rs xs, p x
  | [], _, _, h => h
  | r :: rs, xs, hz, h => by
    refine cutsV_all rs (xs := cut r.l.toNat r.h.toNat r.t.toNat (ones r.z.cps.toList) xs) (fun q hq => hz q (List.mem_cons_of_mem _ hq)) fun x hx => ?_
    unfold cut at hx
    split at hx
    · exact h x hx
    · rcases List.mem_append.mp hx with hx | hx
      · rcases List.mem_append.mp hx with hx | hx
        · exact h x (List.mem_of_mem_take hx)
        · exact hz r (List.mem_cons_self ..) x hx
      · exact h x (List.mem_of_mem_drop hx)
theorem plan_plain {rs : List Rec} (hf : ∀ r ∈ rs, r.fit) {n : Nat} : ∀ x ∈ cutsV rs (rgV 0 n), Plain n x :=
  cutsV_all rs (fun r hr => ones_plain (isTxt_signs (hf r hr).z)) fun x hx => by
    unfold rgV at hx
    obtain ⟨i, hi, rfl⟩ := List.mem_map.mp hx
    have := List.mem_range.mp hi
    exact .inl ⟨_, rfl, by omega, by omega⟩
theorem plan_fine {rs : List Rec} (hf : ∀ r ∈ rs, r.fit) {n : Nat} (hn : n ≤ 500) : Fine 60 100000 (.list [.tuple ((cutsV rs (rgV 0 n)).map dat), .tuple ((cutsV rs (rgV 0 n)).map dat)]) := by
  have a : FineAll 0 70 ((cutsV rs (rgV 0 n)).map dat) := .of fun d hd => by
    obtain ⟨x, hx, rfl⟩ := List.mem_map.mp hd
    exact (plan_plain hf x hx).fine hn
  have l : ((cutsV rs (rgV 0 n)).map dat).length ≤ 500 := by
    rw [List.length_map, cutsV_length, rgV_length]
    exact lens_le rs hf (by omega)
  have b := a.tup
  have c : Fine 1 35500 (.tuple ((cutsV rs (rgV 0 n)).map dat)) := b.mono (Nat.le_refl _) (by omega)
  have d : FineAll 1 35500 [.tuple ((cutsV rs (rgV 0 n)).map dat), .tuple ((cutsV rs (rgV 0 n)).map dat)] := .of fun e he => by
    simp only [List.mem_cons, List.not_mem_nil, or_false, or_self] at he
    rw [he]
    exact c
  exact d.list.mono (by decide) (by show 2 * 35501 ≤ 100000; decide)
def fill (cs : List Nat) : V → V
  | .int i => .str (one (cs.getD i.toNat 0))
  | v => v
theorem fill_ones (cs ds : List Nat) : (ones ds).map (fill cs) = ones ds := by
  unfold ones
  rw [List.map_map]
  rfl
theorem fill_cuts (cs : List Nat) : ∀ (rs : List Rec) (xs : List V), (cutsV rs xs).map (fill cs) = cutsV rs (xs.map (fill cs))
  | [], _ => rfl
  | r :: rs, xs => by
    show (cutsV rs (cut r.l.toNat r.h.toNat r.t.toNat (ones r.z.cps.toList) xs)).map (fill cs) = cutsV rs (cut r.l.toNat r.h.toNat r.t.toNat (ones r.z.cps.toList) (xs.map (fill cs)))
    rw [fill_cuts cs rs, ← cut_map, fill_ones]
theorem fill_range (cs : List Nat) : (rgV 0 (cs.length : Nat)).map (fill cs) = ones cs := by
  unfold rgV ones
  rw [List.map_map]
  refine List.ext_getElem? fun j => ?_
  rw [List.getElem?_map, List.getElem?_map]
  simp only [Int.sub_zero, Int.toNat_natCast]
  by_cases hj : j < cs.length
  · rw [List.getElem?_range hj, List.getElem?_eq_getElem hj]
    show some (V.str (one (cs.getD (0 + (j : Int)).toNat 0))) = some (V.str (one cs[j]))
    rw [Int.zero_add, Int.toNat_natCast, List.getD_eq_getElem?_getD, List.getElem?_eq_getElem hj]
    rfl
  · rw [List.getElem?_eq_none (by rw [List.length_range]; omega), List.getElem?_eq_none (by omega)]
    rfl
theorem at_of' {α : Type} {xs : List α} {i : Int} {j : Nat} {v : α} (e : i = (j : Int)) (h : xs[j]? = some v) : atI xs i = some v := by
  rw [e]
  exact atI_nat h
def idl {α : Type} (l : List α) : List α := l
end Gu
namespace Gu
open PySem PySem.Spec PyProof.Rows L2
/-! ### plans that differ, and the least text that tells -/
def planV (rs : List Rec) (n : Nat) : List V := cutsV rs (rgV 0 (n : Int))
theorem fill_plan (rs : List Rec) (cs : List Nat) : (planV rs cs.length).map (fill cs) = ones (cuts rs cs) := by
  unfold planV
  rw [fill_cuts, fill_range, cutsV_ones]
theorem map_injL {α β : Type} {f : α → β} (h : ∀ x y, f x = f y → x = y) : ∀ {xs ys : List α}, xs.map f = ys.map f → xs = ys
  | [], [], _ => rfl
  | [], _ :: _, e => nomatch e
  | _ :: _, [], e => nomatch e
  | x :: xs, y :: ys, e => by
    have e := List.cons.inj e
    rw [h _ _ e.1, map_injL h e.2]
theorem ones_inj {cs ds : List Nat} (h : ones cs = ones ds) : cs = ds := by
  refine map_injL (fun a b e => ?_) h
  have := congrArg (fun z : Str => z.cps.toList) (V.str.inj e)
  exact List.singleton_inj.mp this
theorem shown_iff (rs ss : List Rec) (cs : List Nat) : cuts rs cs = cuts ss cs ↔ (planV rs cs.length).map (fill cs) = (planV ss cs.length).map (fill cs) := by
  rw [fill_plan, fill_plan]
  exact ⟨fun h => by rw [h], ones_inj⟩
theorem map_cuts {f : V → V} (hf : ∀ z, f (.str z) = .str z) : ∀ (rs : List Rec) (xs : List V), cutsV rs (xs.map f) = (cutsV rs xs).map f
  | [], _ => rfl
  | r :: rs, xs => by
    have e : ones r.z.cps.toList = (ones r.z.cps.toList).map f := by
      unfold ones
      rw [List.map_map]
      refine List.map_congr_left fun c _ => ?_
      exact (hf _).symm
    show cutsV rs (cut r.l.toNat r.h.toNat r.t.toNat (ones r.z.cps.toList) (xs.map f)) = (cutsV rs (cut r.l.toNat r.h.toNat r.t.toNat (ones r.z.cps.toList) xs)).map f
    conv => lhs; rw [e]
    rw [cut_map, map_cuts hf rs]
/-! far lengths -/
def far (n : Nat) : V → V
  | .int i => .int (if i < 40 then i else i + ((n : Int) - 80))
  | v => v
theorem far_inj {n : Nat} (h : 80 ≤ n) {x y : V} (e : far n x = far n y) : x = y := by
  cases x <;> cases y <;> first | exact e | cases e | skip
  have e := V.int.inj e
  congr 1
  split at e <;> split at e <;> omega
theorem rg_get (n j : Nat) : (rgV 0 (n : Int))[j]? = if j < n then some (V.int (j : Int)) else none := by
  unfold rgV
  rw [List.getElem?_map, Int.sub_zero, Int.toNat_natCast]
  split
  · next h =>
    rw [List.getElem?_range h]
    show some (V.int (0 + (j : Int))) = _
    rw [Int.zero_add]
  · next h =>
    rw [List.getElem?_eq_none (by rw [List.length_range]; omega)]
    rfl
theorem rg_len (n : Nat) : (rgV 0 (n : Int)).length = n := by
  rw [rgV_length]
  omega
theorem cut_far {r : Rec} (f : r.fit) {n : Nat} (hn : 80 ≤ n) : cut r.l.toNat r.h.toNat r.t.toNat (ones r.z.cps.toList) (rgV 0 (n : Int)) = (cut r.l.toNat r.h.toNat r.t.toNat (ones r.z.cps.toList) (rgV 0 ((80 : Nat) : Int))).map (far n) := by
  have f1 := f.l
  have f2 := f.h
  have f3 := f.t
  unfold cut
  rw [rg_len, rg_len, if_neg (by omega), if_neg (by omega), List.map_append, List.map_append]
  congr 1
  · congr 1
    · refine List.ext_getElem? fun j => ?_
      rw [List.getElem?_map, List.getElem?_take, List.getElem?_take]
      split
      · rw [rg_get, rg_get, if_pos (by omega), if_pos (by omega)]
        show _ = some (V.int _)
        rw [if_pos (by omega)]
      · rfl
    · unfold ones
      rw [List.map_map]
      rfl
  · refine List.ext_getElem? fun j => ?_
    rw [List.getElem?_map, List.getElem?_drop, List.getElem?_drop, rg_get, rg_get]
    by_cases hj : j < r.t.toNat
    · rw [if_pos (by omega), if_pos (by omega)]
      show _ = some (V.int _)
      rw [if_neg (by omega)]
      congr 2
      omega
    · rw [if_neg (by omega), if_neg (by omega)]
      rfl
theorem plan_far {rs : List Rec} (hf : ∀ r ∈ rs, r.fit) (h1 : 1 ≤ rs.length) {n : Nat} (hn : 80 ≤ n) : planV rs n = (planV rs 80).map (far n) := by
  cases rs with
  | nil => cases h1
  | cons r rs =>
    show cutsV rs (cut r.l.toNat r.h.toNat r.t.toNat (ones r.z.cps.toList) (rgV 0 (n : Int))) = (cutsV rs (cut r.l.toNat r.h.toNat r.t.toNat (ones r.z.cps.toList) (rgV 0 ((80 : Nat) : Int)))).map (far n)
    rw [cut_far (hf r (List.mem_cons_self ..)) hn, map_cuts (fun z => rfl)]
theorem map_inj {f : V → V} (h : ∀ x y, f x = f y → x = y) {xs ys : List V} (e : xs.map f = ys.map f) : xs = ys := map_injL h e
/-- what is so up to 80 is so for all lengths -/
theorem alike_all {rs ss : List Rec} (hr : ∀ r ∈ rs, r.fit) (hs : ∀ r ∈ ss, r.fit) (r1 : 1 ≤ rs.length) (s1 : 1 ≤ ss.length) (h : ∀ n, n ≤ 80 → planV rs n = planV ss n) (n : Nat) : planV rs n = planV ss n := by
  rcases Nat.lt_or_ge 80 n with hn | hn
  · rw [plan_far hr r1 (by omega), plan_far hs s1 (by omega), h 80 (by omega)]
  · exact h n hn
/-! least texts -/
def dots (n : Nat) : List Nat := List.replicate n 46
def dotp (n p : Nat) : List Nat := List.replicate p 46 ++ 48 :: List.replicate (n - p - 1) 46
theorem dots_len (n : Nat) : (dots n).length = n := List.length_replicate ..
theorem dotp_len {n p : Nat} (h : p < n) : (dotp n p).length = n := by
  unfold dotp
  rw [List.length_append, List.length_cons, List.length_replicate, List.length_replicate]
  omega
theorem dots_at {n i : Nat} (h : i < n) : (dots n).getD i 0 = 46 := by
  unfold dots
  rw [List.getD_eq_getElem?_getD, List.getElem?_replicate, if_pos h]
  rfl
theorem dotp_at {n p i : Nat} (hp : p < n) (h : i < n) : (dotp n p).getD i 0 = if i = p then 48 else 46 := by
  unfold dotp
  rw [List.getD_eq_getElem?_getD]
  rcases Nat.lt_trichotomy i p with h1 | h1 | h1
  · rw [List.getElem?_append_left (by rw [List.length_replicate]; exact h1), List.getElem?_replicate, if_pos h1, if_neg (by omega)]
    rfl
  · rw [List.getElem?_append_right (by rw [List.length_replicate]; omega), List.length_replicate, h1, Nat.sub_self, if_pos rfl]
    rfl
  · rw [List.getElem?_append_right (by rw [List.length_replicate]; omega), List.length_replicate, if_neg (by omega)]
    obtain ⟨k, hk⟩ : ∃ k, i - p = k + 1 := ⟨i - p - 1, by omega⟩
    rw [hk, List.getElem?_cons_succ, List.getElem?_replicate, if_pos (by omega)]
    rfl
/-- at some place one has the sign p and the other something else -/
def Diff (xs ys : List V) (p : Nat) : Prop := ∃ (i : Nat) (x y : V), xs[i]? = some x ∧ ys[i]? = some y ∧ x ≠ y ∧ (x = V.int (p : Int) ∨ y = V.int (p : Int))
def flat0 : V → V
  | .int _ => .str (one 46)
  | v => v
theorem fill_dots {n : Nat} {x : V} (h : Plain n x) : fill (dots n) x = flat0 x := by
  rcases h with ⟨i, rfl, h0, h1⟩ | ⟨c, rfl, _⟩
  · show V.str (one _) = V.str (one 46)
    rw [dots_at (by omega)]
  · rfl
theorem fill_dotp {n p : Nat} (hp : p < n) {x : V} (h : Plain n x) (ne : x ≠ .int (p : Int)) : fill (dotp n p) x = fill (dots n) x := by
  rcases h with ⟨i, rfl, h0, h1⟩ | ⟨c, rfl, _⟩
  · show V.str (one _) = V.str (one _)
    rw [dots_at (by omega), dotp_at hp (by omega), if_neg]
    intro e
    exact ne (by rw [← e, Int.toNat_of_nonneg h0])
  · rfl
theorem fill_here {n p : Nat} (hp : p < n) : fill (dotp n p) (.int (p : Int)) = .str (one 48) := by
  show V.str (one _) = _
  rw [Int.toNat_natCast, dotp_at hp hp, if_pos rfl]
theorem one_ne : ¬ V.str (one 48) = V.str (one 46) := by
  intro h
  have := congrArg (fun z : Str => z.cps.toList) (V.str.inj h)
  exact absurd this (by decide)
section
variable {n : Nat} {xs ys : List V} (px : ∀ x ∈ xs, Plain n x) (py : ∀ y ∈ ys, Plain n y) (e0 : xs.map (fill (dots n)) = ys.map (fill (dots n)))
include px py e0
theorem same_at {i : Nat} {x y : V} (hx : xs[i]? = some x) (hy : ys[i]? = some y) : fill (dots n) x = fill (dots n) y := by
  have a := congrArg (fun l : List V => l[i]?) e0
  simp only [List.getElem?_map, hx, hy, Option.map_some] at a
  exact Option.some.inj a
theorem not_diff {p : Nat} (hp : p < n) (h : ¬ Diff xs ys p) : xs.map (fill (dotp n p)) = ys.map (fill (dotp n p)) := by
  have el : xs.length = ys.length := by
    have := congrArg List.length e0
    rw [List.length_map, List.length_map] at this
    exact this
  refine List.ext_getElem? fun i => ?_
  rw [List.getElem?_map, List.getElem?_map]
  by_cases hi : i < xs.length
  · have hx := List.getElem?_eq_getElem hi
    have hi2 : i < ys.length := by omega
    have hy := List.getElem?_eq_getElem hi2
    rw [hx, hy]
    show some _ = some _
    by_cases e : xs[i] = ys[i]
    · rw [e]
    · have n1 : xs[i] ≠ .int (p : Int) := fun q => h ⟨i, _, _, hx, hy, e, .inl q⟩
      have n2 : ys[i] ≠ .int (p : Int) := fun q => h ⟨i, _, _, hx, hy, e, .inr q⟩
      rw [fill_dotp hp (px _ (List.getElem_mem hi)) n1, fill_dotp hp (py _ (List.getElem_mem hi2)) n2, same_at px py e0 hx hy]
  · rw [List.getElem?_eq_none (by omega), List.getElem?_eq_none (by omega)]
theorem is_diff {p : Nat} (hp : p < n) (h : Diff xs ys p) : xs.map (fill (dotp n p)) ≠ ys.map (fill (dotp n p)) := by
  intro e
  obtain ⟨i, x, y, hx, hy, ne, h⟩ := h
  have a := congrArg (fun l : List V => l[i]?) e
  simp only [List.getElem?_map, hx, hy, Option.map_some] at a
  have a := Option.some.inj a
  have b := same_at px py e0 hx hy
  have qx := px x (List.mem_of_getElem? hx)
  have qy := py y (List.mem_of_getElem? hy)
  rcases h with rfl | rfl
  · rw [fill_here hp, fill_dotp hp qy (fun q => ne q.symm), ← b, fill_dots qx] at a
    exact one_ne a
  · rw [fill_here hp, fill_dotp hp qx ne, b, fill_dots qy] at a
    exact one_ne a.symm
theorem some_diff (ne : xs ≠ ys) : ∃ p, p < n ∧ Diff xs ys p := by
  have el : xs.length = ys.length := by
    have := congrArg List.length e0
    rw [List.length_map, List.length_map] at this
    exact this
  obtain ⟨i, hi, h⟩ : ∃ i, ∃ hi : i < xs.length, ¬ xs[i] = ys[i] := Decidable.byContradiction fun q => ne (List.ext_getElem el fun i h1 h2 => Decidable.byContradiction fun z => q ⟨i, h1, z⟩)
  have hx := List.getElem?_eq_getElem hi
  have hi2 : i < ys.length := by omega
  have hy := List.getElem?_eq_getElem hi2
  have b := same_at px py e0 hx hy
  have qx := px _ (List.getElem_mem hi)
  have qy := py _ (List.getElem_mem hi2)
  rcases id qx with ⟨j, ej, j0, j1⟩ | ⟨c, ec, _⟩
  · exact ⟨j.toNat, by omega, i, _, _, hx, hy, h, .inl (by rw [ej, Int.toNat_of_nonneg j0])⟩
  · rcases id qy with ⟨j, ej, j0, j1⟩ | ⟨d, ed, _⟩
    · exact ⟨j.toNat, by omega, i, _, _, hx, hy, h, .inr (by rw [ej, Int.toNat_of_nonneg j0])⟩
    · rw [fill_dots qx, fill_dots qy, ec, ed] at b
      exact absurd (by rw [ec, ed]; exact b) h
end
/-! the places that differ, as they are gathered -/
def isI : V → List Int
  | .int i => [i]
  | _ => []
def dpl : List V → List V → List Int
  | x :: xs, y :: ys => (if x = y then [] else isI x ++ isI y) ++ dpl xs ys
  | _, _ => []
theorem dpl_snoc : ∀ {xs ys : List V} (x y : V), xs.length = ys.length → dpl (xs ++ [x]) (ys ++ [y]) = dpl xs ys ++ (if x = y then [] else isI x ++ isI y)
  | [], [], x, y, _ => by
    show (if x = y then [] else isI x ++ isI y) ++ dpl [] [] = [] ++ _
    show _ ++ [] = [] ++ _
    rw [List.append_nil, List.nil_append]
  | a :: xs, b :: ys, x, y, h => by
    show (if a = b then [] else isI a ++ isI b) ++ dpl (xs ++ [x]) (ys ++ [y]) = ((if a = b then [] else isI a ++ isI b) ++ dpl xs ys) ++ _
    rw [dpl_snoc x y (by simpa using h), List.append_assoc]
theorem mem_isI {x : V} {i : Int} : i ∈ isI x ↔ x = .int i := by
  cases x <;> simp [isI, eq_comm]
theorem mem_dpl : ∀ {xs ys : List V} {i : Int}, i ∈ dpl xs ys ↔ ∃ (j : Nat) (x y : V), xs[j]? = some x ∧ ys[j]? = some y ∧ x ≠ y ∧ (x = V.int i ∨ y = V.int i)
  | [], ys, i => by
    refine ⟨fun h => ?_, fun ⟨j, x, y, hx, _⟩ => by simp at hx⟩
    unfold dpl at h
    cases h
  | a :: xs, [], i => by
    refine ⟨fun h => ?_, fun ⟨j, x, y, _, hy, _⟩ => by simp at hy⟩
    unfold dpl at h
    cases h
  | a :: xs, b :: ys, i => by
    show i ∈ (if a = b then [] else isI a ++ isI b) ++ dpl xs ys ↔ _
    rw [List.mem_append, mem_dpl (xs := xs) (ys := ys)]
    constructor
    · rintro (h | ⟨j, x, y, hx, hy, h⟩)
      · split at h
        · cases h
        · next ne => exact ⟨0, a, b, rfl, rfl, ne, (List.mem_append.mp h).imp mem_isI.mp mem_isI.mp⟩
      · exact ⟨j + 1, x, y, hx, hy, h⟩
    · rintro ⟨j, x, y, hx, hy, ne, h⟩
      cases j with
      | zero =>
        cases (Option.some.inj hx : a = x)
        cases (Option.some.inj hy : b = y)
        refine .inl ?_
        rw [if_neg ne]
        exact List.mem_append.mpr (h.imp mem_isI.mpr mem_isI.mpr)
      | succ j => exact .inr ⟨j, x, y, hx, hy, ne, h⟩
/-- the least text of n signs that two rows show differently -/
def LeastAt (rs ss : List Rec) (n : Nat) (cs : List Nat) : Prop :=
  (cs = dots n ∧ cuts rs (dots n) ≠ cuts ss (dots n)) ∨ ∃ p, p < n ∧ cs = dotp n p ∧ cuts rs (dots n) = cuts ss (dots n) ∧ cuts rs (dotp n p) ≠ cuts ss (dotp n p) ∧ ∀ q, p < q → q < n → cuts rs (dotp n q) = cuts ss (dotp n q)
theorem LeastAt.one {rs ss : List Rec} {n : Nat} {cs ds : List Nat} (a : LeastAt rs ss n cs) (b : LeastAt rs ss n ds) : cs = ds := by
  rcases a with ⟨rfl, a⟩ | ⟨p, hp, rfl, a0, a1, a2⟩
  · rcases b with ⟨rfl, _⟩ | ⟨q, _, _, b0, _⟩
    · rfl
    · exact absurd b0 a
  · rcases b with ⟨_, b⟩ | ⟨q, hq, rfl, b0, b1, b2⟩
    · exact absurd a0 b
    · rcases Nat.lt_trichotomy p q with h | h | h
      · exact absurd (a2 q h hq) b1
      · rw [h]
      · exact absurd (b2 p h hp) a1
theorem LeastAt.len {rs ss : List Rec} {n : Nat} {cs : List Nat} (a : LeastAt rs ss n cs) : cs.length = n := by
  rcases a with ⟨rfl, _⟩ | ⟨p, hp, rfl, _⟩
  · exact dots_len n
  · exact dotp_len hp
theorem LeastAt.ne {rs ss : List Rec} {n : Nat} {cs : List Nat} (a : LeastAt rs ss n cs) : cuts rs cs ≠ cuts ss cs := by
  rcases a with ⟨rfl, h⟩ | ⟨p, hp, rfl, _, h, _⟩ <;> exact h
theorem LeastAt.sg {rs ss : List Rec} {n : Nat} {cs : List Nat} (a : LeastAt rs ss n cs) : Signs cs := by
  have d : 46 ∈ signs.cps.toList := by decide +kernel
  have z : 48 ∈ signs.cps.toList := by decide +kernel
  rcases a with ⟨rfl, _⟩ | ⟨p, hp, rfl, _⟩
  · intro c hc
    rw [(List.mem_replicate.mp hc).2]
    exact d
  · intro c hc
    rcases List.mem_append.mp hc with hc | hc
    · rw [(List.mem_replicate.mp hc).2]
      exact d
    · rcases List.mem_cons.mp hc with rfl | hc
      · exact z
      · rw [(List.mem_replicate.mp hc).2]
        exact d
theorem LeastAt.symm {rs ss : List Rec} {n : Nat} {cs : List Nat} (a : LeastAt rs ss n cs) : LeastAt ss rs n cs := by
  rcases a with ⟨rfl, h⟩ | ⟨p, hp, rfl, a0, a1, a2⟩
  · exact .inl ⟨rfl, fun e => h e.symm⟩
  · exact .inr ⟨p, hp, rfl, a0.symm, fun e => a1 e.symm, fun q h1 h2 => (a2 q h1 h2).symm⟩
section
variable {rs ss : List Rec} (hr : ∀ r ∈ rs, r.fit) (hs : ∀ r ∈ ss, r.fit) {n : Nat}
include hr hs
theorem dots_iff : cuts rs (dots n) = cuts ss (dots n) ↔ (planV rs n).map (fill (dots n)) = (planV ss n).map (fill (dots n)) := by
  have := shown_iff rs ss (dots n)
  rw [dots_len] at this
  exact this
theorem dotp_iff {p : Nat} (hp : p < n) : cuts rs (dotp n p) = cuts ss (dotp n p) ↔ (planV rs n).map (fill (dotp n p)) = (planV ss n).map (fill (dotp n p)) := by
  have := shown_iff rs ss (dotp n p)
  rw [dotp_len hp] at this
  exact this
/-- the last place that differs tells it -/
theorem least_last (e0 : cuts rs (dots n) = cuts ss (dots n)) {m : Int} (h : Top m (dpl (planV rs n) (planV ss n))) : ∃ p : Nat, m = (p : Int) ∧ p < n ∧ LeastAt rs ss n (dotp n p) := by
  have px : ∀ x ∈ planV rs n, Plain n x := plan_plain hr
  have py : ∀ y ∈ planV ss n, Plain n y := plan_plain hs
  have f0 := (dots_iff hr hs).mp e0
  obtain ⟨j, x, y, hx, hy, ne, h1⟩ := mem_dpl.mp h.1
  obtain ⟨p, rfl, hp⟩ : ∃ p : Nat, m = (p : Int) ∧ p < n := by
    have a : Plain n (.int m) := by
      rcases h1 with rfl | rfl
      · exact px _ (List.mem_of_getElem? hx)
      · exact py _ (List.mem_of_getElem? hy)
    rcases a with ⟨i, e, i0, i1⟩ | ⟨c, e, _⟩
    · cases e
      exact ⟨m.toNat, by omega, by omega⟩
    · cases e
  refine ⟨p, rfl, hp, .inr ⟨p, hp, rfl, e0, fun e => is_diff px py f0 hp ⟨j, x, y, hx, hy, ne, h1⟩ ((dotp_iff hr hs hp).mp e), fun q h2 h3 => (dotp_iff hr hs h3).mpr (not_diff px py f0 h3 fun ⟨i, u, v, hu, hv, nuv, hh⟩ => ?_)⟩⟩
  have := h.2 (q : Int) (mem_dpl.mpr ⟨i, u, v, hu, hv, nuv, hh⟩)
  omega
theorem dpl_some (e0 : cuts rs (dots n) = cuts ss (dots n)) (ne : planV rs n ≠ planV ss n) : dpl (planV rs n) (planV ss n) ≠ [] := by
  obtain ⟨p, hp, i, x, y, hx, hy, h⟩ := some_diff (plan_plain hr) (plan_plain hs) ((dots_iff hr hs).mp e0) ne
  intro e
  have : (p : Int) ∈ dpl (planV rs n) (planV ss n) := mem_dpl.mpr ⟨i, x, y, hx, hy, h⟩
  rw [e] at this
  cases this
/-- rows whose plans are the same show the same -/
theorem plan_show {cs : List Nat} (h : planV rs cs.length = planV ss cs.length) : cuts rs cs = cuts ss cs := (shown_iff rs ss cs).mpr (by rw [h])
end
/-- the first length at which the plans differ -/
structure First (rs ss : List Rec) (n : Nat) : Prop where
  ne : planV rs n ≠ planV ss n
  eq : ∀ m, m < n → planV rs m = planV ss m
theorem First.one {rs ss : List Rec} {n m : Nat} (a : First rs ss n) (b : First rs ss m) : n = m := by
  rcases Nat.lt_trichotomy n m with h | h | h
  · exact absurd (b.eq n h) a.ne
  · exact h
  · exact absurd (a.eq m h) b.ne
theorem First.symm {rs ss : List Rec} {n : Nat} (a : First rs ss n) : First ss rs n := ⟨fun e => a.ne e.symm, fun m h => (a.eq m h).symm⟩
/-- what is told of two rows -/
def Told (rs ss : List Rec) (v : V) : Prop := (v = .non ∧ ∀ n, planV rs n = planV ss n) ∨ ∃ n y, v = .str y ∧ n ≤ 80 ∧ First rs ss n ∧ LeastAt rs ss n y.cps.toList
theorem Told.one {rs ss : List Rec} {u v : V} (a : Told rs ss u) (b : Told rs ss v) : u = v := by
  rcases a with ⟨rfl, a⟩ | ⟨n, y, rfl, _, a, a1⟩
  · rcases b with ⟨rfl, _⟩ | ⟨m, z, _, _, b, _⟩
    · rfl
    · exact absurd (a m) b.ne
  · rcases b with ⟨_, b⟩ | ⟨m, z, rfl, _, b, b1⟩
    · exact absurd (b n) a.ne
    · cases a.one b
      rw [str_ext (a1.one b1)]
theorem Told.symm {rs ss : List Rec} {v : V} (a : Told rs ss v) : Told ss rs v := by
  rcases a with ⟨rfl, a⟩ | ⟨n, y, rfl, h, a, a1⟩
  · exact .inl ⟨rfl, fun n => (a n).symm⟩
  · exact .inr ⟨n, y, rfl, h, a.symm, a1.symm⟩
/-! signs of what is filled in -/
def fillN (cs : List Nat) : V → Nat
  | .int i => cs.getD i.toNat 0
  | .str z => z.cps.toList.getD 0 0
  | _ => 0
theorem fillN_one {n : Nat} {cs : List Nat} {x : V} (h : Plain n x) : fill cs x = .str (one (fillN cs x)) := by
  rcases h with ⟨i, rfl, _⟩ | ⟨c, rfl, _⟩
  · rfl
  · rfl
theorem fillN_map {n : Nat} {cs : List Nat} {xs : List V} (h : ∀ x ∈ xs, Plain n x) : xs.map (fill cs) = ones (xs.map (fillN cs)) := by
  unfold ones
  rw [List.map_map]
  exact List.map_congr_left fun x hx => fillN_one (h x hx)
end Gu
namespace Gu
open PySem PySem.Spec PyProof.Rows L2
theorem stF_same {K : PySem.W.Frag} {H G : Hp} {l : Addr} {xs : List V} (a : Same H G) (h : SqT K H l xs) : SqT K G l xs := by
  rcases h with (h | ⟨o, h⟩) | h
  · exact .inl (.inl (a _ _ h))
  · exact .inl (.inr ⟨o, a _ _ h⟩)
  · exact .inr h
theorem same_offF {H J : Hp} {M : Addr} {o : HO} (s : Same H J) (n : H M = none) : Same H (upd J M o) := fun b x e => by
  rw [upd_ne (ne_of_none e n)]
  exact s b x e
theorem takeF_next {α : Type} {qs : List α} {i : Nat} {q : α} (h : qs[i]? = some q) : qs.take (i + 1) = qs.take i ++ [q] := by
  rw [List.take_add_one, h]
  rfl
theorem RowAt.fits {C : Addr} {H : Hp} {a : Addr} {rs : List (Addr × Rec)} (h : RowAt C H a rs) : ∀ r ∈ rs.map (·.2), r.fit := fun r hr => by
  obtain ⟨q, hq, rfl⟩ := List.mem_map.mp hr
  exact (h.sh q hq).2
end Gu
namespace Gu
open PySem PySem.Spec PyProof.Rows L2
/-! text * int, however often -/
def rRepN : R2 := fun x y H Q => ∃ z k, x = .str z ∧ y = .int k ∧ 0 ≤ k ∧ k ≤ 1000 ∧ z.length ≤ 1000 ∧ ∀ y : Str, y.cps.toList = (List.replicate k.toNat z.cps.toList).flatten → Q (.str y) H
theorem fold_repN (z : Array Nat) : ∀ (k : Nat) (acc : Array Nat), ((List.replicate k z).foldl (· ++ ·) acc).toList = acc.toList ++ (List.replicate k z.toList).flatten
  | 0, acc => by simp
  | k + 1, acc => by
    rw [List.replicate_succ, List.foldl_cons, fold_repN z k, List.replicate_succ, List.flatten_cons, Array.toList_append, List.append_assoc]
theorem op_mul_strN {X : Cx} : OpR X (binaryOp .Mult) rRepN := by
  intro pins s σ H x y v u Q I rx ry h
  obtain ⟨z, k, rfl, rfl, k0, k1, z1, q⟩ := h
  obtain ⟨t, rfl⟩ := rx
  obtain ⟨t', rfl⟩ := ry
  refine PySem.P.mul_str ?_ (fun h1 _ => Int.not_lt.mpr ((Int.le_ediv_iff_mul_le (by omega)).mpr ?_)) (fun _ _ => decide_eq_false ?_) ?_
  · rw [Bool.or_eq_false_iff]
    exact ⟨decide_eq_false (by omega), decide_eq_false (by omega)⟩
  · have m1 : (z.length : Int) * k ≤ 1000 * 1000 := Int.mul_le_mul (by omega) k1 (by omega) (by omega)
    omega
  · have m2 : z.length * k.toNat ≤ 1000 * 1000 := Nat.mul_le_mul z1 (by omega)
    rw [sizeLine_eq]
    omega
  · split
    · next h1 =>
      refine ⟨by decide, .str Str.empty, H, I.tok _, ⟨_, rfl⟩, q _ ?_⟩
      rw [show k.toNat = 0 by omega]
      rfl
    · split
      · next h1 h2 =>
        refine ⟨.str z, H, I, ⟨_, rfl⟩, q _ ?_⟩
        rcases Bool.or_eq_true _ _ ▸ h2 with e | e
        · have e := eq_of_beq e
          rw [e]
          simp
        · have e : z.cps.toList.length = 0 := eq_of_beq e
          rw [List.eq_nil_of_length_eq_zero e]
          simp
      · have m2 : z.length * k.toNat ≤ 1000 * 1000 := Nat.mul_le_mul z1 (by omega)
        have e : ((List.replicate k.toNat z.cps).foldl (· ++ ·) #[]).toList = (List.replicate k.toNat z.cps.toList).flatten := by
          rw [fold_repN]
          rfl
        refine ⟨?_, .str ⟨(List.replicate k.toNat z.cps).foldl (· ++ ·) #[]⟩, H, I.tok _, ⟨_, rfl⟩, q _ e⟩
        show ((List.replicate k.toNat z.cps).foldl (· ++ ·) #[]).size ≤ _
        rw [← Array.length_toList, e, PyProof.Rows.lm_len_rep_flat]
        show k.toNat * z.length ≤ sizeLine
        rw [Nat.mul_comm, sizeLine_eq]
        omega
/-- a call without arguments -/
theorem pe_own0 {X : Cx} {k j : Nat} {x : Str} {sp : Sp} {p pos : Pos} (c : Cal X.prog X.w X.K X.mg X.base k x [] sp) (hr : Room j X.A) (hk : k ≤ j) (hg : Gl X x) (hdb : (x == ("__debug__" : Str)) = false := by decide) : PE X (.Call (.Name x p) [] [] pos) (tCall sp [] E0 tNil) := by
  obtain ⟨f, fd, F, hm, kp, b, _⟩ := c.ex
  exact pe_call0 F (hr.mono hk) hg hm kp b .nil pass0 hdb
def rIsiK (K : PySem.W.Frag) : List V → Hp → VK → Prop := rIsi K
section
variable {P : Program} {w : World} {K : PySem.W.Frag} {mg : Str → Option Value} {base : Heap} {C : Addr}
theorem Isa.str_int {H : Hp} {z : Str} : Isa K H (.str z) "int" false := ⟨_, .base (.str z), kit_ty (by decide +kernel)⟩
/-! ### telling_lengths -/
def spTelling : Sp := fun vs H Q _ => vs = [] ∧ ∀ (T : Addr), H T = none → Q (.ref T) (upd H T (.lst (rgV 0 ((81 : Nat) : Int))))
theorem cal_telling (B : Bi mg) (D : At K mg "telling_lengths" s_telling_lengths ps_telling_lengths) : Cal P w K mg base 1 "telling_lengths" ps_telling_lengths spTelling := by
  refine D.cal sc_telling_lengths (fun vs H Q E h => ?_) (fun f cdv A outer s H vs Q E hr h => ?_)
  · obtain ⟨rfl, _⟩ := h
    rfl
  · obtain ⟨rfl, k⟩ := h
    refine ⟨_, (pss_one (ps_ret (pe_listRg (by rfl) (by rfl) B.list (prg_1 (by rfl) B.range (pe_op op_add (pe_op op_mul pe_int (pe_cst B.MOST_SIGNS (by rfl))) pe_int))))), ?_⟩
    exact ⟨_, _, rfl, rfl, .inl ⟨by decide, by decide⟩, _, _, rfl, rfl, _, rfl, RgOk.of_le (by decide) (by decide) (by decide) (by decide), fun T nT => k T nT⟩
/-! ### filled_in -/
def spFilled (K : PySem.W.Frag) : Sp := fun vs H Q _ => ∃ (a : Addr) (xs : List V) (z : Str), vs = [.ref a, .str z] ∧ SqT K H a xs ∧ (∀ x ∈ xs, Plain z.cps.toList.length x) ∧ xs.length ≤ 600 ∧ z.cps.toList.length ≤ 600 ∧ ∀ (y : Str) (G : Hp), Same H G → y.cps.toList = xs.map (fillN z.cps.toList) → Q (.str y) G
theorem cal_filled (B : Bi mg) (D : At K mg "filled_in" s_filled_in ps_filled_in) : Cal P w K mg base 1 "filled_in" ps_filled_in (spFilled K) := by
  refine D.cal sc_filled_in (fun vs H Q E h => ?_) (fun f cdv A outer s H vs Q E hr h => ?_)
  · obtain ⟨a, xs, z, rfl, _⟩ := h
    rfl
  · obtain ⟨a, xs, z, rfl, ha, hp, xl, zl, k⟩ := h
    refine ⟨_, (pss_one (ps_ret (pe_join pe_str (pe_lc (own := [("source", 2)]) (by rfl) sc_filled_in.nd (pi_tup (pv 0)) (blkOk_by (own := [("source", 2)]) (N := ["sources", "text", "source"]) (sc := defScope s_filled_in) (by decide +kernel)) (fun _ _ _ _ _ => pg_name (i := 2) sc_filled_in.nd rfl (.inl rfl)) (fun _ _ _ _ _ => pts_nil) (fun _ _ _ _ _ => (pe_mid (pe_ifExp (pt_val (pe_callB (id := "isinstance") (r := rIsi K) call_isi (by rfl) B.isinstance (by decide +kernel) (pa_cons (pv 2) (pa_cons (pe_bltn (v := .ty "int") (by rfl) B.int (by decide +kernel) rfl) pa_nil)))) (pe_ix ix_str (pv 1) (pv 2) (fun _ _ => rfl)) (pv 2)))))))), ?_⟩
    refine ⟨⟨_, rfl⟩, _, rfl, a, rfl, ⟨_, ha⟩, fun M nM => lc_tup (K := K) (a := a) (xs := xs) (fun i J => J M = some (.lst (ones ((xs.take i).map (fillN z.cps.toList)))) ∧ Same H J)
      ⟨upd_same, same_new nM⟩ (fun i J _ ⟨_, sJ⟩ => stF_same sJ ha) ?_ ?_⟩
    · rintro i x J hi ⟨eM, sJ⟩
      refine ⟨rfl, yes (iteT ⟨fun v J1 => v = .str (one (fillN z.cps.toList x)) ∧ J1 = J, ?_, ?_⟩)⟩
      · rcases hp x (List.mem_of_getElem? hi) with ⟨j, rfl, j0, j1⟩ | ⟨c, rfl, _⟩
        · obtain ⟨t, i1, i2⟩ := Isa.int_int (K := K) (H := J) (i := j)
          refine ⟨_, rfl, _, _, t, _, true, rfl, .ty _, i1, i2, _, rfl, iteT ?_⟩
          have jl : j.toNat < z.cps.toList.length := by omega
          refine ⟨_, rfl, _, rfl, z, j, z.cps.toList[j.toNat], rfl, rfl, Nat.le_of_lt (small1000 (by have e : z.length = z.cps.toList.length := rfl; omega)), at_of' (j := j.toNat) (by omega) (List.getElem?_eq_getElem jl), ?_, rfl⟩
          show V.str ⟨#[_]⟩ = V.str (one (z.cps.toList.getD j.toNat 0))
          rw [List.getD_eq_getElem?_getD, List.getElem?_eq_getElem jl]
          rfl
        · obtain ⟨t, i1, i2⟩ := Isa.str_int (K := K) (H := J) (z := one c)
          exact ⟨_, rfl, _, _, t, _, false, rfl, .ty _, i1, i2, _, rfl, iteF ⟨_, rfl, rfl, rfl⟩⟩
      · rintro _ _ ⟨rfl, rfl⟩
        refine ⟨_, eM, small1000 ?_, ?_, same_offF sJ nM⟩
        · unfold ones
          rw [List.length_map, List.length_map, List.length_take]
          omega
        · rw [upd_same, takeF_next hi, List.map_append]
          unfold ones
          rw [List.map_append]
          rfl
    · rintro J ⟨eM, sJ⟩
      rw [List.take_length, ones_map] at eM
      refine ⟨_, M, _, rfl, rfl, .inl (.inl (.inl eM)), ?_, k _ J sJ (tjoin_ones _)⟩
      rw [ones_len, List.length_map, List.length_map]
      have e0 : (("" : String) : Str).length = 0 := by decide +kernel
      rw [e0]
      omega
/-! ### differing_places -/
def spDiffP (K : PySem.W.Frag) : Sp := fun vs H Q _ => ∃ (a b : Addr) (xs ys : List V) (n : Nat), vs = [.ref a, .ref b] ∧ SqT K H a xs ∧ SqT K H b ys ∧ xs.length = ys.length ∧ xs.length ≤ 600 ∧ (∀ x ∈ xs, Plain n x) ∧ (∀ y ∈ ys, Plain n y) ∧ ∀ (p : Addr) (G : Hp), G p = some (.lst ((dpl xs ys).map V.int)) → Same H G → Q (.ref p) G
theorem scal_plain {n m : Nat} {x y : V} (hx : Plain n x) (hy : Plain m y) : scal x y = true := by
  rcases hx with ⟨i, rfl, _⟩ | ⟨c, rfl, _⟩ <;> rcases hy with ⟨j, rfl, _⟩ | ⟨d, rfl, _⟩ <;> rfl
theorem isI_len (x : V) : (isI x).length ≤ 1 := by
  cases x <;> simp [isI]
theorem dpl_len : ∀ xs ys : List V, (dpl xs ys).length ≤ 2 * xs.length
  | [], _ => Nat.le_refl _
  | _ :: _, [] => Nat.zero_le _
  | x :: xs, y :: ys => by
    have a := isI_len x
    have b := isI_len y
    have c := dpl_len xs ys
    show ((if x = y then [] else isI x ++ isI y) ++ dpl xs ys).length ≤ 2 * (xs.length + 1)
    rw [List.length_append]
    split
    · rw [List.length_nil]
      omega
    · rw [List.length_append]
      omega
theorem cal_diffP (B : Bi mg) (D : At K mg "differing_places" s_differing_places ps_differing_places) : Cal P w K mg base 1 "differing_places" ps_differing_places (spDiffP K) := by
  refine D.cal sc_differing_places (fun vs H Q E h => ?_) (fun f cdv A outer s H vs Q E hr h => ?_)
  · obtain ⟨a, b, xs, ys, n, rfl, _⟩ := h
    rfl
  · obtain ⟨a, b, xs, ys, n, rfl, ha, hb, el, xl, px, py, k⟩ := h
    refine ⟨_, (pss_cons (ps_set (i := 2) sc_differing_places.nd rfl (.inl rfl) (pe_lst pa_nil))
      (pss_cons (ps_for PassesOwn.never rfl (RZ.pi_zipA (by rfl) B.zip (pa_cons (pv 0) (pa_cons (pv 1) pa_nil))) (pg_tup rfl (pgs_cons (pg_name (i := 3) sc_differing_places.nd rfl (.inl rfl)) (pgs_cons (pg_name (i := 4) sc_differing_places.nd rfl (.inl rfl)) pgs_nil)))
      (pss_one (ps_if (pt_cmpR op_ne (pv 3) (pv 4) (nomark _)) (pss_one (ps_expr (pe_bm PySem.F.plainAttrs_list PySem.F.slot_list_extend PySem.F.type_list_extend mt_extend (pv 2) (pa_cons (pe_lc (own := [("place", 5)]) (by rfl) sc_differing_places.nd (pi_tup (pe_tup (pa_cons (pv 3) (pa_cons (pv 4) pa_nil)))) (blkOk_by (own := [("place", 5)]) (N := ["sources", "others", "places", "source", "other", "place"]) (sc := defScope s_differing_places) (by decide +kernel)) (fun _ _ _ _ _ => pg_name (i := 5) sc_differing_places.nd rfl (.inl rfl)) (fun _ _ _ _ _ => (pts_one (pt_val (pe_callB (id := "isinstance") (r := rIsi K) call_isi (by rfl) B.isinstance (by decide +kernel) (pa_cons (pv 5) (pa_cons (pe_bltn (v := .ty "int") (by rfl) B.int (by decide +kernel) rfl) pa_nil)))))) (fun _ _ _ _ _ => (pv 5))) pa_nil)))) pss_nil)))
      (pss_one (ps_ret (pv 2))))), ?_⟩
    refine ⟨Nat.zero_le _, fun g ng => ?_⟩
    have s0 : Same H (upd H g (.lst [])) := same_new ng
    refine ⟨_, rfl, _, rfl, a, b, xs, ys, rfl, .inr ⟨stF_same s0 ha, stF_same s0 hb, RZ.for_zipT (K := K) (xs := xs) (ys := ys) el (fun i σ J => ∃ u v z, σ = [some (.ref a), some (.ref b), some (.ref g), u, v, z] ∧ J g = some (.lst ((dpl (xs.take i) (ys.take i)).map V.int)) ∧ Same H J)
      ⟨none, none, none, rfl, upd_same, s0⟩ (fun i σ J ⟨_, _, _, _, _, sJ⟩ => ⟨stF_same sJ ha, stF_same sJ hb⟩) ?_ ?_⟩⟩
    · rintro i x y T σ J hx hy ⟨u, v, z, rfl, eg, sJ⟩ nT
      have qx := px x (List.mem_of_getElem? hx)
      have qy := py y (List.mem_of_getElem? hy)
      have sT : Same J (upd J T (.tup [x, y])) := same_new nT
      have il : i < xs.length := (List.getElem?_eq_some_iff.mp hx).1
      have next : dpl (xs.take (i + 1)) (ys.take (i + 1)) = dpl (xs.take i) (ys.take i) ++ (if x = y then [] else isI x ++ isI y) := by
        rw [takeF_next hx, takeF_next hy, dpl_snoc x y (by rw [List.length_take, List.length_take]; omega)]
      refine ⟨T, _, rfl, .inl (.inl upd_same), rfl, _, _, rfl, _, _, rfl, rfl, ?_⟩
      refine ⟨_, rfl, _, rfl, scal_plain qx qy, _, rfl, ?_⟩
      by_cases e : x = y
      · rw [decide_eq_true e]
        refine iteF ⟨_, _, _, rfl, ?_, sJ.trans sT⟩
        rw [next, if_pos e, List.append_nil]
        exact sT _ _ eg
      · rw [decide_eq_false e]
        refine iteT ⟨_, rfl, .inl ⟨rfl, _, .inl (.inl (sT _ _ eg))⟩, ?_⟩
        refine ⟨_, rfl, _, rfl, by show 2 ≤ sizeLine; decide, fun T2 nT2 => ?_⟩
        have sT2 : Same J (upd (upd J T (.tup [x, y])) T2 (.tup [x, y])) := sT.trans (same_new nT2)
        have eT2 : upd (upd J T (.tup [x, y])) T2 (.tup [x, y]) T2 = some (.tup [x, y]) := upd_same
        generalize upd (upd J T (.tup [x, y])) T2 (.tup [x, y]) = H2 at sT2 eT2
        refine ⟨T2, rfl, ⟨_, .inl (.inl eT2)⟩, fun M nM => lc_tup (K := K) (a := T2) (xs := [x, y]) (fun i J1 => J1 M = some (.lst ((([x, y].take i).map isI).flatten.map V.int)) ∧ Same H2 J1)
          ⟨upd_same, same_new nM⟩ (fun i J1 _ ⟨_, s1⟩ => .inl (.inl (s1 _ _ eT2))) ?_ ?_⟩
        · rintro i3 v3 J3 hi3 ⟨eM, s3⟩
          have mv : Plain n v3 := by
            have := List.mem_of_getElem? hi3
            simp only [List.mem_cons, List.not_mem_nil, or_false] at this
            rcases this with rfl | rfl
            · exact qx
            · exact qy
          have i2 : i3 < 2 := (List.getElem?_eq_some_iff.mp hi3).1
          have nx : ((([x, y].take (i3 + 1)).map isI).flatten.map V.int) = ((([x, y].take i3).map isI).flatten.map V.int) ++ (isI v3).map V.int := by
            rw [takeF_next hi3, List.map_append, List.flatten_append, List.map_append]
            show _ ++ List.map V.int (isI v3 ++ []) = _
            rw [List.append_nil]
          rcases mv with ⟨j, rfl, j0, j1⟩ | ⟨c, rfl, _⟩
          · obtain ⟨t, i1, i2'⟩ := Isa.int_int (K := K) (H := J3) (i := j)
            refine ⟨rfl, _, rfl, _, _, t, _, true, rfl, .ty _, i1, i2', _, rfl, iteT ⟨_, rfl, _, eM, small1000 ?_, ?_, same_offF s3 nM⟩⟩
            · rw [List.length_map]
              have a1 := isI_len x
              have a2 := isI_len y
              have : (([x, y].take i3).map isI).flatten.length ≤ 2 := by
                match i3, i2 with
                | 0, _ => exact Nat.zero_le _
                | 1, _ =>
                  show (isI x ++ []).length ≤ 2
                  rw [List.append_nil]
                  omega
              omega
            · rw [upd_same, nx]
              rfl
          · obtain ⟨t, i1, i2'⟩ := Isa.str_int (K := K) (H := J3) (z := one c)
            refine ⟨rfl, _, rfl, _, _, t, _, false, rfl, .ty _, i1, i2', _, rfl, iteF ⟨?_, s3⟩⟩
            rw [nx]
            show _ = some (HO.lst (_ ++ []))
            rw [List.append_nil]
            exact eM
        · rintro J3 ⟨eM, s3⟩
          have e4 : (([x, y].take [x, y].length).map isI).flatten = isI x ++ isI y := by
            show isI x ++ (isI y ++ []) = _
            rw [List.append_nil]
          rw [e4] at eM
          have gg := s3 _ _ (sT2 _ _ eg)
          have a1 := isI_len x
          have a2 := isI_len y
          have a3 := dpl_len (xs.take i) (ys.take i)
          refine ⟨g, M, _, _, rfl, rfl, gg, eM, ?_, ?_⟩
          · rw [List.length_map, List.length_map, List.length_append]
            rw [List.length_take] at a3
            exact Nat.le_of_lt (Nat.lt_of_le_of_lt (show _ ≤ 2000 by omega) (by decide))
          · refine ⟨_, _, _, rfl, ?_, same_offF (sJ.trans (sT2.trans s3)) ng⟩
            rw [upd_same, next, if_neg e]
            simp only [List.map_append]
    · rintro σ J ⟨u, v, z, rfl, eg, sJ⟩
      rw [List.take_length, el, List.take_length] at eg
      exact ⟨_, rfl, k g J eg sJ⟩
/-! ### least_difference -/
def spLeastD (K : PySem.W.Frag) : Sp := fun vs H Q _ => ∃ (a b : Addr) (rs ss : List Rec) (n : Nat), vs = [.ref a, .ref b, .int (n : Int)] ∧ SqT K H a (planV rs n) ∧ SqT K H b (planV ss n) ∧ (∀ r ∈ rs, r.fit) ∧ (∀ r ∈ ss, r.fit) ∧ n ≤ 80 ∧ planV rs n ≠ planV ss n ∧ ∀ (y : Str) (G : Hp), Same H G → LeastAt rs ss n y.cps.toList → Q (.str y) G
theorem plan_len {rs : List Rec} (hf : ∀ r ∈ rs, r.fit) {n : Nat} (hn : n ≤ 500) : (planV rs n).length ≤ 500 := by
  unfold planV
  rw [cutsV_length, rg_len]
  exact lens_le rs hf hn
theorem rep_dot {z y : Str} (hz : z.cps.toList = [46]) {k : Nat} (e : y.cps.toList = (List.replicate k z.cps.toList).flatten) : y.cps.toList = List.replicate k 46 := by
  rw [e, hz]
  clear e
  induction k with
  | zero => rfl
  | succ k ih => rw [List.replicate_succ, List.flatten_cons, ih]; rfl
def spRaised : Sp := fun vs H Q _ => ∃ (n i : Nat), vs = [.int (n : Int), .int (i : Int)] ∧ i < n ∧ n ≤ 500 ∧ ∀ y : Str, y.cps.toList = List.replicate i 46 ++ 48 :: List.replicate (n - i - 1) 46 → Q (.str y) H
theorem cal_raised (B : Bi mg) (D : At K mg "least_raised_at" s_least_raised_at ps_least_raised_at) : Cal P w K mg base 1 "least_raised_at" ps_least_raised_at spRaised := by
  refine D.cal sc_least_raised_at (fun vs H Q E h => ?_) (fun f cdv A outer s H vs Q E hr h => ?_)
  · obtain ⟨n, i, rfl, _⟩ := h
    rfl
  · obtain ⟨n, i, rfl, hi, n5, k⟩ := h
    have s0 : atI signs.cps.toList 0 = some 46 := by decide +kernel
    have s1 : atI signs.cps.toList 1 = some 48 := by decide +kernel
    refine ⟨_, (pss_one (ps_ret (pe_op op_add_str (pe_op op_add_str (pe_op op_mul_strN (pe_ix ix_str (pe_cst B.SIGNS (by rfl)) pe_int (fun _ _ => rfl)) (pv 1)) (pe_ix ix_str (pe_cst B.SIGNS (by rfl)) pe_int (fun _ _ => rfl))) (pe_op op_mul_strN (pe_ix ix_str (pe_cst B.SIGNS (by rfl)) pe_int (fun _ _ => rfl)) (pe_op op_sub (pe_op op_sub (pv 0) (pv 1)) pe_int))))), ?_⟩
    refine ⟨signs, 0, 46, rfl, rfl, by decide +kernel, s0, _, rfl, one 46, _, rfl, rfl, by omega, by omega, by decide, fun y1 e1 => ?_⟩
    have e1 : y1.cps.toList = List.replicate i 46 := rep_dot (z := one 46) rfl (by rw [Int.toNat_natCast] at e1; exact e1)
    have l1 : y1.length = i := by
      show y1.cps.toList.length = i
      rw [e1, List.length_replicate]
    refine ⟨signs, 1, 48, rfl, rfl, by decide +kernel, s1, _, _, rfl, rfl, Nat.le_of_lt (small1000 (by show y1.length + 1 ≤ 1000; omega)), ?_⟩
    refine ⟨signs, 0, 46, rfl, rfl, by decide +kernel, s0, _, rfl, _, rfl, _, _, rfl, rfl, _, _, rfl, rfl, one 46, _, rfl, rfl, by omega, by omega, by decide, fun y2 e2 => ?_⟩
    have e2 : y2.cps.toList = List.replicate (n - i - 1) 46 := rep_dot (z := one 46) rfl (by rw [e2]; congr 2; omega)
    have l2 : y2.length = n - i - 1 := by
      show y2.cps.toList.length = _
      rw [e2, List.length_replicate]
    refine ⟨_, _, rfl, rfl, ?_, k _ ?_⟩
    · have l3 : (y1 ++ (one 48)).length = i + 1 := by
        show (y1 ++ (one 48)).cps.toList.length = _
        rw [app_cps, List.length_append, e1, List.length_replicate]
        rfl
      exact Nat.le_of_lt (small1000 (by show (y1 ++ (one 48)).length + y2.length ≤ 1000; omega))
    · rw [app_cps, app_cps, e1, e2]
      show List.replicate i 46 ++ [48] ++ List.replicate (n - i - 1) 46 = _
      rw [List.append_assoc]
      rfl
theorem cal_leastD (B : Bi mg) (D : At K mg "least_difference" s_least_difference ps_least_difference) (C_filled_in : Cal P w K mg base 1 "filled_in" ps_filled_in (spFilled K)) (C_differing_places : Cal P w K mg base 1 "differing_places" ps_differing_places (spDiffP K)) (C_least_raised_at : Cal P w K mg base 1 "least_raised_at" ps_least_raised_at spRaised) : Cal P w K mg base 2 "least_difference" ps_least_difference (spLeastD K) := by
  refine D.cal sc_least_difference (fun vs H Q E h => ?_) (fun f cdv A outer s H vs Q E hr h => ?_)
  · obtain ⟨a, b, rs, ss, n, rfl, _⟩ := h
    rfl
  · obtain ⟨a, b, rs, ss, n, rfl, ha, hb, hr1, hs1, n80, ne, k⟩ := h
    have px : ∀ x ∈ planV rs n, Plain n x := plan_plain hr1
    have py : ∀ y ∈ planV ss n, Plain n y := plan_plain hs1
    have lx := plan_len hr1 (n := n) (by omega)
    have ly := plan_len hs1 (n := n) (by omega)
    have sl : (Str.length signs) = 38 := by decide +kernel
    have s0 : atI signs.cps.toList 0 = some 46 := by decide +kernel
    refine ⟨_, (pss_cons (ps_set (i := 3) sc_least_difference.nd rfl (.inl rfl) (pe_op op_mul_strN (pe_ix ix_str (pe_cst B.SIGNS (by rfl)) pe_int (fun _ _ => rfl)) (pv 2)))
      (pss_cons (ps_if (pt_cmpR op_ne (pe_own C_filled_in hr (by decide) (by rfl) (pa_cons (pv 0) (pa_cons (pv 3) pa_nil))) (pe_own C_filled_in hr (by decide) (by rfl) (pa_cons (pv 1) (pa_cons (pv 3) pa_nil))) (nomark _)) (pss_one (ps_ret (pv 3))) pss_nil)
      (pss_one (ps_ret (pe_own C_least_raised_at hr (by decide) (by rfl) (pa_cons (pv 2) (pa_cons (pe_callB (cr_max rfl) (by rfl) B.max (by decide +kernel) (pa_cons (pe_own C_differing_places hr (by decide) (by rfl) (pa_cons (pv 0) (pa_cons (pv 1) pa_nil))) pa_nil)) pa_nil))))))), ?_⟩
    refine ⟨signs, 0, 46, rfl, rfl, by decide +kernel, s0, _, rfl, one 46, _, rfl, rfl, by omega, by omega, by decide, fun y0 e0 => ?_⟩
    have e0 : y0.cps.toList = dots n := rep_dot (z := one 46) rfl (by rw [Int.toNat_natCast] at e0; exact e0)
    have l0 : y0.cps.toList.length = n := by rw [e0, dots_len]
    refine ⟨_, rfl, _, rfl, a, _, y0, rfl, ha, by rw [l0]; exact px, by omega, by omega, fun t1 G1 q1 f1 => ?_⟩
    refine ⟨_, rfl, _, rfl, b, _, y0, rfl, stF_same q1 hb, by rw [l0]; exact py, by omega, by omega, fun t2 G2 q2 f2 => ?_⟩
    rw [e0] at f1 f2
    have eq : t1 = t2 ↔ cuts rs (dots n) = cuts ss (dots n) := by
      rw [dots_iff hr1 hs1, fillN_map px, fillN_map py]
      constructor
      · intro h
        rw [h] at f1
        rw [← f1, ← f2]
      · intro h
        exact str_ext (by rw [f1, f2]; exact ones_inj h)
    refine ⟨rfl, _, rfl, ?_⟩
    by_cases h : cuts rs (dots n) = cuts ss (dots n)
    · rw [decide_eq_true (show V.str t1 = V.str t2 by rw [eq.mpr h])]
      refine iteF ?_
      have el : (planV rs n).length = (planV ss n).length := by
        have := congrArg List.length ((dots_iff hr1 hs1).mp h)
        rw [List.length_map, List.length_map] at this
        exact this
      refine ⟨_, rfl, _, rfl, _, rfl, a, b, _, _, n, rfl, stF_same (q1.trans q2) ha, stF_same (q1.trans q2) hb, el, by omega, px, py, fun p G3 e3 q3 => ?_⟩
      refine ⟨p, _, rfl, .inl (.inl e3), List.length_pos_iff.mpr (dpl_some hr1 hs1 h ne), fun m hm hle => ?_⟩
      obtain ⟨i, rfl, hi, L⟩ := least_last hr1 hs1 h ⟨hm, hle⟩
      refine ⟨n, i, rfl, hi, by omega, fun y ey => k y G3 (q1.trans (q2.trans q3)) ?_⟩
      rw [ey]
      exact L
    · rw [decide_eq_false (fun q => h (eq.mp (V.str.inj q)))]
      refine iteT ⟨_, rfl, k y0 G2 (q1.trans q2) ?_⟩
      rw [e0]
      exact .inl ⟨rfl, h⟩
end
end Gu
namespace Gu
open PySem PySem.Spec PyProof.Rows L2
def spRight : Sp := fun vs H Q _ => ∃ (p : Addr), vs = [.ref p] ∧ Pot H p ∧ ∀ G, Ladled p H G → Q (.bl true) G
end Gu
namespace Gu
open PySem PySem.Spec PyProof.Rows L2
/-! ### answers written out -/
/-- None, a bool, or a short text of signs -/
inductive Ans : V → Prop
  | non : Ans .non
  | bl (b : Bool) : Ans (.bl b)
  | str {y : Str} (l : y.cps.toList.length ≤ 500) (s : Signs y.cps.toList) : Ans (.str y)
def adat : V → PyData
  | .bl b => .bool b
  | .str y => .str y
  | _ => .none
theorem Ans.dp {K : PySem.W.Frag} {H : Hp} {v : V} (h : Ans v) : Dp K H v (adat v) := by
  cases h with
  | non => exact .non
  | bl b => exact .bl b
  | str l s => exact .str _
theorem Ans.fine {v : V} (h : Ans v) : Fine 0 500 (adat v) := by
  cases h with
  | non => exact Fine.none.mono (Nat.le_refl _) (by decide)
  | bl b => exact (Fine.bool b).mono (Nat.le_refl _) (by decide)
  | str l s =>
    have a : ∀ c ∈ signs.cps.toList, c < 16 ^ 8 := by decide +kernel
    exact Fine.str (fun c hc => a c (s c hc)) l
theorem ans_all {K : PySem.W.Frag} {H : Hp} : ∀ {vs : List V}, (∀ v ∈ vs, Ans v) → DpAll K H vs (vs.map adat)
  | [], _ => .nil
  | v :: vs, h => .cons (h v (List.mem_cons_self ..)).dp (ans_all fun u hu => h u (List.mem_cons_of_mem _ hu))
theorem ans_fine {vs : List V} (l : vs.length ≤ 100) (h : ∀ v ∈ vs, Ans v) : Fine 60 100000 (.list (vs.map adat)) := by
  have a : FineAll 0 500 (vs.map adat) := .of fun d hd => by
    obtain ⟨v, hv, rfl⟩ := List.mem_map.mp hd
    exact (h v hv).fine
  refine a.list.mono (by decide) ?_
  rw [List.length_map]
  have := Nat.mul_le_mul_right (500 + 1) l
  omega
theorem Told.ans {rs ss : List Rec} {v : V} (h : Told rs ss v) : Ans v := by
  rcases h with ⟨rfl, _⟩ | ⟨n, y, rfl, hn, _, L⟩
  · exact .non
  · exact .str (by rw [L.len]; omega) L.sg
theorem Told.self {rs : List Rec} {v : V} (h : Told rs rs v) : v = .non := by
  rcases h with ⟨rfl, _⟩ | ⟨n, y, rfl, _, f, _⟩
  · rfl
  · exact absurd rfl f.ne
end Gu
namespace Gu
open PySem PySem.Spec PyProof.Rows L2
/-! ### (number, text) < (number, text) -/
def pairLt (m n : Int) (y z : Str) : Bool := if (m == n) = true then (if (y == z) = true then false else decide (y.cps.toList < z.cps.toList)) else decide (m < n)
def rLtP (K : PySem.W.Frag) : R2 := fun x y H Q => ∃ (a b : Addr) (m n : Int) (u v : Str), x = .ref a ∧ y = .ref b ∧ SqT K H a [.int m, .str u] ∧ SqT K H b [.int n, .str v] ∧ Q (.bl (pairLt m n u v)) H
theorem op_ltP {X : Cx} (hu : X.A.units < cLine) : OpR X (compareOp .Lt) (rLtP X.K) := by
  intro pins s σ H x y v u Q I rx ry h
  obtain ⟨a, b, m, n, y1, z1, rfl, rfl, ha, hb, q⟩ := h
  cases rx
  cases ry
  obtain ⟨its, r1, p1, _⟩ := I.tuple ha
  obtain ⟨its2, r2, p2, _⟩ := I.tuple hb
  cases r1 with
  | cons a1 r1 =>
    cases r1 with
    | cons a2 r1 =>
      cases r1
      cases r2 with
      | cons b1 r2 =>
        cases r2 with
        | cons b2 r2 =>
          cases r2
          obtain ⟨t1, rfl⟩ := a1
          obtain ⟨t2, rfl⟩ := a2
          obtain ⟨t3, rfl⟩ := b1
          obtain ⟨t4, rfl⟩ := b2
          have R := Ob.RcOp.tuples_lt (A := X.A) (s := s) (e := fun j => if j = 0 then (m == n) else (y1 == z1)) (r := fun j => if j = 0 then decide (m < n) else decide (y1.cps.toList < z1.cps.toList)) p1 p2 hu (fun j h1 h2 => by
            match j, h1, h2 with
            | 0, _, _ => exact SeqAt.EqAt.int_int _ _ _ _
            | 1, _, _ => exact SeqAt.EqAt.str_str _ _ _ _) (fun j h1 h2 _ => by
            match j, h1, h2 with
            | 0, _, _ => exact Ob.RcOp.lt_int _ _ _ _
            | 1, _, _ => exact fun _ _ _ _ h => PyProof.Rows.lt_str h)
          have e : Ob.lexAt (fun j => if j = 0 then (m == n) else (y1 == z1)) (fun j => if j = 0 then decide (m < n) else decide (y1.cps.toList < z1.cps.toList)) (decide ((#[Value.int m t1, Value.str y1 t2] : Array Value).size < (#[Value.int n t3, Value.str z1 t4] : Array Value).size)) 0 2 = pairLt m n y1 z1 := by
            rw [Ob.lexAt_succ, Ob.lexAt_succ, Ob.lexAt_zero]
            rfl
          exact R X.prog X.w X.xe (EP X pins σ Q) (by
            show EP X pins σ Q (.bool (Ob.lexAt _ _ _ 0 2)) s
            rw [e]
            exact ⟨.bl _, H, I, rfl, q⟩)
theorem pairLt_iff {m n : Int} {y z : Str} (h : pairLt m n y z = true) : m < n ∨ (m = n ∧ y.cps.toList < z.cps.toList) := by
  unfold pairLt at h
  split at h
  · next e =>
    split at h
    · cases h
    · exact .inr ⟨eq_of_beq e, of_decide_eq_true h⟩
  · exact .inl (of_decide_eq_true h)
/-! ### smaller texts are shown alike -/
theorem sign_low {c : Nat} (h : c ∈ signs.cps.toList) : c = 46 ∨ 48 ≤ c := by
  have a : ∀ c ∈ signs.cps.toList, c = 46 ∨ 48 ≤ c := by decide +kernel
  exact a c h
theorem not_dots : ∀ (n : Nat) (ds : List Nat), Signs ds → ds.length = n → ¬ ds < List.replicate n 46
  | 0, ds, _, l, h => by
    rw [List.eq_nil_of_length_eq_zero l] at h
    exact absurd h (by decide)
  | n + 1, [], _, l, _ => by cases l
  | n + 1, d :: ds, sd, l, h => by
    rw [List.replicate_succ, List.cons_lt_cons_iff] at h
    have a := sign_low (sd d (List.mem_cons_self ..))
    rcases h with h | ⟨_, h⟩
    · omega
    · exact not_dots n ds (fun c hc => sd c (List.mem_cons_of_mem _ hc)) (by simpa using l) h
theorem low_dotp : ∀ (p k : Nat) (ds : List Nat), Signs ds → ds.length = p + 1 + k → ds < List.replicate p 46 ++ 48 :: List.replicate k 46 → ∀ i, i ≤ p → ds[i]? = some 46
  | 0, k, [], _, l, _, _, _ => by
    rw [List.length_nil] at l
    omega
  | 0, k, d :: ds, sd, l, h, i, hi => by
    have a := sign_low (sd d (List.mem_cons_self ..))
    have h : d :: ds < 48 :: List.replicate k 46 := h
    rw [List.cons_lt_cons_iff] at h
    rcases h with h | ⟨_, h⟩
    · rw [show i = 0 by omega, show d = 46 by omega]
      rfl
    · exact absurd h (not_dots k ds (fun c hc => sd c (List.mem_cons_of_mem _ hc)) (by rw [List.length_cons] at l; omega))
  | p + 1, k, [], _, l, _, _, _ => by
    rw [List.length_nil] at l
    omega
  | p + 1, k, d :: ds, sd, l, h, i, hi => by
    have a := sign_low (sd d (List.mem_cons_self ..))
    rw [List.replicate_succ, List.cons_append, List.cons_lt_cons_iff] at h
    rcases h with h | ⟨rfl, h⟩
    · omega
    · cases i with
      | zero => rfl
      | succ i =>
        rw [List.getElem?_cons_succ]
        exact low_dotp p k ds (fun c hc => sd c (List.mem_cons_of_mem _ hc)) (by rw [List.length_cons] at l; omega) h i (by omega)
theorem smaller_same {rs ss : List Rec} (hr : ∀ r ∈ rs, r.fit) (hs : ∀ r ∈ ss, r.fit) {n : Nat} {cs ds : List Nat} (L : LeastAt rs ss n cs) (dl : ds.length = n) (sd : Signs ds) (lt : ds < cs) : cuts rs ds = cuts ss ds := by
  rcases L with ⟨rfl, _⟩ | ⟨p, hp, rfl, e0, _, high⟩
  · exact absurd lt (not_dots n ds sd dl)
  · have low := low_dotp p (n - p - 1) ds sd (by omega) lt
    have px : ∀ x ∈ planV rs n, Plain n x := plan_plain hr
    have py : ∀ y ∈ planV ss n, Plain n y := plan_plain hs
    have f0 := (dots_iff hr hs).mp e0
    have el : (planV rs n).length = (planV ss n).length := by
      have := congrArg List.length f0
      rw [List.length_map, List.length_map] at this
      exact this
    have few : ∀ q : Nat, q < n → Diff (planV rs n) (planV ss n) q → q ≤ p := fun q hq d => Decidable.byContradiction fun z => is_diff px py f0 hq d ((dotp_iff hr hs hq).mp (high q (by omega) hq))
    have at46 : ∀ i : Int, 0 ≤ i → i.toNat ≤ p → fill ds (.int i) = fill (dots n) (.int i) := fun i i0 ip => by
      show V.str (one _) = V.str (one _)
      rw [dots_at (by omega), List.getD_eq_getElem?_getD, low i.toNat ip]
      rfl
    rw [shown_iff, dl]
    refine List.ext_getElem? fun i => ?_
    rw [List.getElem?_map, List.getElem?_map]
    by_cases hi : i < (planV rs n).length
    · have hx := List.getElem?_eq_getElem hi
      have hi2 : i < (planV ss n).length := by omega
      have hy := List.getElem?_eq_getElem hi2
      rw [hx, hy]
      show some _ = some _
      have b := same_at px py f0 hx hy
      have qx := px _ (List.getElem_mem hi)
      have qy := py _ (List.getElem_mem hi2)
      generalize (planV rs n)[i] = x at hx b qx
      generalize (planV ss n)[i] = y at hy b qy
      by_cases e : x = y
      · rw [e]
      · have fx : fill ds x = fill (dots n) x := by
          rcases qx with ⟨j, rfl, j0, j1⟩ | ⟨c, rfl, _⟩
          · exact at46 j j0 (few j.toNat (by omega) ⟨i, _, _, hx, hy, e, .inl (by rw [Int.toNat_of_nonneg j0])⟩)
          · rfl
        have fy : fill ds y = fill (dots n) y := by
          rcases qy with ⟨j, rfl, j0, j1⟩ | ⟨c, rfl, _⟩
          · exact at46 j j0 (few j.toNat (by omega) ⟨i, _, _, hx, hy, e, .inr (by rw [Int.toNat_of_nonneg j0])⟩)
          · rfl
        rw [fx, fy, b]
    · rw [List.getElem?_eq_none (by omega), List.getElem?_eq_none (by omega)]
/-- what is told, of a smaller text -/
theorem Told.smaller {rs ss : List Rec} (hr : ∀ r ∈ rs, r.fit) (hs : ∀ r ∈ ss, r.fit) {y z : Str} (h : Told rs ss (.str y)) (sz : Signs z.cps.toList) (lt : pairLt z.length y.length z y = true) : cuts rs z.cps.toList = cuts ss z.cps.toList := by
  rcases h with ⟨e, _⟩ | ⟨n, y', e, _, f, L⟩
  · cases e
  · cases e
    have yl : y.length = n := L.len
    have zl : z.length = z.cps.toList.length := rfl
    rcases pairLt_iff lt with h | ⟨h1, h2⟩
    · exact plan_show hr hs (f.eq _ (by omega))
    · exact smaller_same hr hs L (by omega) sz h2
/-- rows that are alike are unlike a third one for the same text -/
theorem Told.alike {rs ss os : List Rec} (hr : ∀ r ∈ rs, r.fit) (hs : ∀ r ∈ ss, r.fit) (e : ∀ n, planV rs n = planV ss n) {v : V} (h : Told rs os v) : Told ss os v := by
  have c : ∀ cs : List Nat, cuts ss cs = cuts rs cs := fun cs => (plan_show hr hs (e cs.length)).symm
  rcases h with ⟨rfl, h⟩ | ⟨n, y, rfl, hn, f, L⟩
  · exact .inl ⟨rfl, fun n => (e n).symm.trans (h n)⟩
  · refine .inr ⟨n, y, rfl, hn, ⟨fun q => f.ne ((e n).trans q), fun m hm => (e m).symm.trans (f.eq m hm)⟩, ?_⟩
    rcases L with ⟨a, b⟩ | ⟨p, hp, a, b0, b1, b2⟩
    · exact .inl ⟨a, by rw [c]; exact b⟩
    · exact .inr ⟨p, hp, a, by rw [c]; exact b0, by rw [c]; exact b1, fun q h1 h2 => by rw [c]; exact b2 q h1 h2⟩
theorem Told.non_all {rs ss : List Rec} {v : V} (h : Told rs ss v) (e : v = .non) : ∀ n, planV rs n = planV ss n := by
  rcases h with ⟨_, h⟩ | ⟨n, y, rfl, _⟩
  · exact h
  · cases e
end Gu
namespace Gu
open PySem PySem.Spec PyProof.Rows L2
theorem ToldsAt.off {H : Hp} {D p : Addr} {ps : List (Addr × Rec)} (h : ToldsAt H D ps) (hp : Pot H p) (l : 1 ≤ ps.length) : D ≠ p := fun e => by
  subst e
  obtain ⟨x, y, z, e⟩ := hp
  have a := h.ls.symm.trans e
  cases ps with
  | nil => cases l
  | cons q ps => cases a
theorem same_len {ps rs : List (Addr × Rec)} (e : rs.map (·.2) = ps.map (·.2)) : rs.length = ps.length := by
  have := congrArg List.length e
  rw [List.length_map, List.length_map] at this
  exact this
end Gu
namespace Gu
open PySem PySem.Spec PyProof.Rows L2
/-! ### zip of a tuple and a text -/
/-- the tuple at a as it stands at each turn, with the signs of y, in new pairs -/
def ItzS (K : PySem.W.Frag) (a : Addr) (y : Str) : It where
  go := fun i H => ∃ (xs : List V) (x : V) (c : Nat), SqT K H a xs ∧ xs[i]? = some x ∧ y.cps[i]? = some c
  yld := fun i H v G => ∃ T x c, v = .ref T ∧ H T = none ∧ G = upd H T (.tup [x, .str ⟨#[c]⟩]) ∧ (∀ xs, SqT K H a xs → xs[i]? = some x) ∧ y.cps[i]? = some c
  stop := fun i H => ∃ xs : List V, SqT K H a xs ∧ i ≤ xs.length ∧ i ≤ y.cps.size ∧ (i = xs.length ∨ i = y.cps.size)
theorem turn_zipS {P : Program} {w : World} {K : PySem.W.Frag} {es : List Expr} {kk : Nat} {tp : Pos} {a z TI TO i1 i2 : Addr} {y : Str} {t : Tok} (S : ZipSep2 z TI TO i1 i2 [i1, a] [i2]) :
    Turn P w K (.Tuple es kk tp) (ItzS K a y) [z, TI, TO, i1, i2] z (fun i h => IsZip h z TI TO .none ∧ IsTupOf2 h TI (.ref i1) (.ref i2) ∧ (∃ u v, IsTupOf2 h TO u v) ∧ h.IsTupleIter i1 a i ∧ h.IsStrIter i2 (strIterType y) y t i) where
  mem := List.mem_cons_self ..
  obj := fun i h st c hc => by
    obtain ⟨hz, hTI, ⟨u, v, hTO⟩, ⟨o1, e1, _, d1⟩, ⟨o2, e2, _, d2⟩⟩ := st
    simp only [List.mem_cons, List.not_mem_nil, or_false] at hc
    rcases hc with rfl | rfl | rfl | rfl | rfl
    · exact ⟨_, hz, fun v q => nomatch q⟩
    · exact ⟨_, hTI, fun v q => nomatch q⟩
    · exact ⟨_, hTO, fun v q => nomatch q⟩
    · exact ⟨o1, e1, fun v q => by rw [d1] at q; cases q⟩
    · exact ⟨o2, e2, fun v q => by rw [d2] at q; cases q⟩
  keep := fun i h g st k => by
    obtain ⟨hz, hTI, ⟨u, v, hTO⟩, h1, h2⟩ := st
    exact ⟨k z (by simp) _ hz, k TI (by simp) _ hTI, ⟨u, v, k TO (by simp) _ hTO⟩, h1.at fun o q => k i1 (by simp) o q, by
      obtain ⟨o, e, c, d⟩ := h2
      exact ⟨o, k i2 (by simp) o e, c, d⟩⟩
  item := by
    intro X hP hw hK hc i pins s σ H E I hf st hg
    subst hP hw hK
    obtain ⟨hz, hTI, ⟨u0, v0, hTO⟩, h1, h2⟩ := st
    obtain ⟨xs, x, c, hq, hx, hc0⟩ := hg
    obtain ⟨its, rv, p1, _⟩ := I.tuple hq
    obtain ⟨u, hu, ru⟩ := rv.get hx
    have p1' : s.heap.IsTuple a its.toArray := p1
    have nai : a ≠ i1 := fun e => by
      obtain ⟨o1, g1, c1, _⟩ := p1'
      obtain ⟨o2, g2, c2, _⟩ := h1
      rw [e] at g1
      cases g1.symm.trans g2
      exact absurd (Value.type.inj (c1.symm.trans c2)) (by decide)
    have hd : X.A.in1.handled = none := I.ok.hd hc
    have hzl : z < s.heap.objs.size := Heap.lt_size hz
    have il : i < its.toArray.size := by
      have := (List.getElem?_eq_some_iff.mp hu).1
      simpa using this
    have iy : i < y.cps.size := (Array.getElem?_eq_some_iff.mp hc0).1
    refine wpAny_pyNext_zipD2_item S (Draws.tuple hd i1 a nai its.toArray) (Draws.text hd i2 y t) hz hTI hTO ⟨h1, p1'⟩ h2 il iy fun x1 x2 h' tk y1 y2 b1 b2 d1 d2 b5 b6 b7 => ?_
    obtain rfl : x1 = u := by
      have : its[i]? = some x1 := by simpa using y1
      rw [hu] at this
      exact (Option.some.inj this).symm
    obtain ⟨c', tc, hc1, rfl⟩ := y2
    obtain rfl : c' = c := Option.some.inj (hc1.symm.trans hc0)
    refine ⟨_, rfl, wpAny_letOwnedTupleGo_zip (s := { s with heap := h', toks := tk }) b1 fun h'' z'' sb => ?_⟩
    have hT2 : h''.get? s.heap.objs.size = some { cls := .type "tuple", data := .seq #[x1, .str ⟨#[c']⟩ tc] } := (sb.2 _ (Nat.ne_of_gt hzl)).trans b5
    have nw : ObjOk X.prog X.w (upd H s.heap.objs.size (.tup [x, .str ⟨#[c']⟩])) h'' s.heap.objs.size (.tup [x, .str ⟨#[c']⟩]) := ⟨by show 2 ≤ sizeLine; decide, [x1, .str ⟨#[c']⟩ tc], .cons ru (.cons ⟨_, rfl⟩ .nil), ⟨_, hT2, rfl, _, rfl⟩⟩
    have I1 : Inv X pins σ (upd H s.heap.objs.size (.tup [x, .str ⟨#[c']⟩])) { s with heap := h'', toks := tk } :=
      I.turnedNew (ch := [z, TI, TO, i1, i2]) (fun c o hb q => (sb.2 c (fun q' => hb (by simp [q']))).trans (b7 c o (fun q' => hb (by simp [q'])) (fun q' => hb (by simp [q'])) (fun q' => hb (by simp [q'])) (fun q' => hb (by simp [q'])) q)) hf (Nat.le_refl _) nw
    refine ⟨.ref s.heap.objs.size, _, I1, rfl, ⟨_, x, c', rfl, I.hok.fresh (Nat.le_refl _), rfl, fun l hl => by rw [I.tuple_inj hl hq]; exact hx, hc0⟩, ⟨z'', ?_, ⟨x1, .str ⟨#[c']⟩ tc, ?_⟩, ?_, ?_⟩, fun c hcm => ?_⟩
    · exact (sb.2 _ S.TIz).trans (b7 _ _ S.TIz S.TITO S.TIi1 S.TIi2 hTI)
    · exact (sb.2 _ S.TOz).trans b2
    · exact d1.1.at fun o q => (sb.2 _ (Ne.symm S.zi1)).trans q
    · obtain ⟨o, e, cc, dd⟩ := d2
      exact ⟨o, (sb.2 _ (Ne.symm S.zi2)).trans e, cc, dd⟩
    · have hlt : c < s.heap.objs.size := by
        simp only [List.mem_cons, List.not_mem_nil, or_false] at hcm
        rcases hcm with rfl | rfl | rfl | rfl | rfl
        · exact hzl
        · exact Heap.lt_size hTI
        · exact Heap.lt_size hTO
        · obtain ⟨_, e1, _⟩ := h1
          exact Heap.lt_size e1
        · obtain ⟨_, e2, _⟩ := h2
          exact Heap.lt_size e2
      rw [upd_ne (Nat.ne_of_lt hlt)]
      exact (hf c hcm).1
  done := by
    intro X hP hw hK hc i pins s σ H E I hf st hg
    subst hP hw hK
    obtain ⟨hz, hTI, ⟨u0, v0, hTO⟩, h1, h2⟩ := st
    obtain ⟨xs, hq, l1, l2, hend⟩ := hg
    obtain ⟨its, rv, p1, _⟩ := I.tuple hq
    have p1' : s.heap.IsTuple a its.toArray := p1
    have nai : a ≠ i1 := fun e => by
      obtain ⟨o1, g1, c1, _⟩ := p1'
      obtain ⟨o2, g2, c2, _⟩ := h1
      rw [e] at g1
      cases g1.symm.trans g2
      exact absurd (Value.type.inj (c1.symm.trans c2)) (by decide)
    have hd : X.A.in1.handled = none := I.ok.hd hc
    have el : its.toArray.size = xs.length := by
      rw [List.size_toArray]
      exact rv.length.symm
    exact wpAny_pyNext_zipD2_end S (Draws.tuple hd i1 a nai its.toArray) (Draws.text hd i2 y t) hz hTI hTO ⟨h1, p1'⟩ h2 (by omega) l2 (by omega) fun h' tk hk => ⟨rfl, I.turnedL (t' := tk) (ch := [z, TI, TO, i1, i2]) (fun c o hb q =>
      hk c o (fun q' => hb (by simp [q'])) (fun q' => hb (by simp [q'])) (fun q' => hb (by simp [q'])) (fun q' => hb (by simp [q'])) q) hf⟩
  self := fun A i s Q E st h => wpAny_pyIter_zip st.1 h
theorem sepS (n a : Nat) (h : a < n) : ZipSep2 (n + 4) (n + 2) (n + 3) n (n + 1) [n, a] [n + 1] where
  TIz := by show (n + 2 : Nat) ≠ n + 4; omega
  TOz := by show (n + 3 : Nat) ≠ n + 4; omega
  TITO := by show (n + 2 : Nat) ≠ n + 3; omega
  TIi1 := by show (n + 2 : Nat) ≠ n; omega
  mem1 := List.mem_cons_self ..
  zf1 := by simp only [List.mem_cons, List.not_mem_nil, or_false]; show ¬ ((n + 4 : Nat) = n ∨ (n + 4 : Nat) = a); omega
  Tf1 := by simp only [List.mem_cons, List.not_mem_nil, or_false]; show ¬ ((n + 3 : Nat) = n ∨ (n + 3 : Nat) = a); omega
  TIi2 := by show (n + 2 : Nat) ≠ n + 1; omega
  mem2 := List.mem_cons_self ..
  zf2 := by simp only [List.mem_cons, List.not_mem_nil, or_false]; show ¬ (n + 4 : Nat) = n + 1; omega
  Tf2 := by simp only [List.mem_cons, List.not_mem_nil, or_false]; show ¬ (n + 3 : Nat) = n + 1; omega
  sep1_2 := by simp only [List.mem_cons, List.not_mem_nil, or_false]; show ¬ (n : Nat) = n + 1; omega
  sep2_1 := by simp only [List.mem_cons, List.not_mem_nil, or_false]; show ¬ ((n + 1 : Nat) = n ∨ (n + 1 : Nat) = a); omega
def iZipS (K : PySem.W.Frag) (ta : TA) : TI := fun σ H R => ta σ H fun vs G => ∃ (a : Addr) (y : Str) (xs : List V), vs = [.ref a, .str y] ∧ SqT K G a xs ∧ R (ItzS K a y) G
theorem pi_zipS {X : Cx} {e e2 : Expr} {ta : TA} {p pos tp : Pos} {es : List Expr} {kk : Nat} (hg : Gl X "zip") (hm : X.mg "zip" = none) (ha : PA X [e, e2] ta)
    (hs : starEach [e, e2] X.env = (false, eval e X.env) :: starEach [e2] X.env := by rfl) (hpl : (backTo pos (starEach [e2] X.env)).any (·.1) = false := by rfl) :
    PI X (.Tuple es kk tp) (.Call (.Name "zip" p) [e, e2] [] pos) (iZipS X.K ta) := by
  refine ⟨fun pins s σ H R I h => ?_⟩
  refine Call_ (ld_blt I hg hm PyProof.Rows.boot_zip (PyProof.Rows.callWith_type1 (thn (ha.run pos pins s σ H _ I h) fun us s1 ⟨vs, G, I1, r1, q1⟩ => ?_) hs hpl))
  obtain ⟨a, y, xs, ex, hq, q⟩ := q1
  subst ex
  cases r1 with
  | cons r rr =>
    cases rr with
    | cons r' rr =>
      cases rr
      cases r
      obtain ⟨t, rfl⟩ := r'
      obtain ⟨its, rv, p1, _⟩ := I1.tuple hq
      have p1' : s1.heap.IsTuple a its.toArray := p1
      have al : a < s1.heap.objs.size := by
        obtain ⟨o, ho, _⟩ := p1'
        exact Heap.lt_size ho
      refine zip_begins2 (begins_tuple a its.toArray) (begins_text y t) p1' trivial fun h' hz hTI hTO e1 e2 hsz hk => wpAny_pyIter_zip hz ?_
      have I2 : Inv X pins σ G { s1 with heap := h' } := I1.kept (t' := s1.toks) hk
      have S := sepS s1.heap.objs.size a al
      refine ⟨s1.heap.objs.size + 4, [s1.heap.objs.size + 4, s1.heap.objs.size + 2, s1.heap.objs.size + 3, s1.heap.objs.size, s1.heap.objs.size + 1], _, _, G, rfl, I2, turn_zipS S, ⟨hz, hTI, ⟨_, _, hTO⟩, ⟨_, e1, rfl, rfl⟩, ⟨_, e2, rfl, rfl⟩⟩, fun c hcm => ?_, q⟩
      have le : s1.heap.objs.size ≤ c := by
        simp only [List.mem_cons, List.not_mem_nil, or_false] at hcm
        rcases hcm with rfl | rfl | rfl | rfl | rfl
        · exact Nat.le_add_right _ _
        · exact Nat.le_add_right _ _
        · exact Nat.le_add_right _ _
        · exact Nat.le_refl _
        · exact Nat.le_add_right _ _
      exact I1.fpOk le (I1.hok.fresh le)
theorem walk_zipS {K : PySem.W.Frag} {a : Addr} {y : Str} {xs : List V} (el : xs.length = y.cps.size) : Walk (ItzS K a y) xs.length (fun H => SqT K H a xs) (fun i H v G => ∃ T x c, xs[i]? = some x ∧ y.cps[i]? = some c ∧ v = .ref T ∧ H T = none ∧ G = upd H T (.tup [x, .str ⟨#[c]⟩])) where
  goes := fun i H hi h => ⟨xs, xs[i], y.cps[i]'(by omega), h, List.getElem?_eq_getElem hi, Array.getElem?_eq_getElem (by omega)⟩
  stops := fun H h => ⟨xs, h, Nat.le_refl _, by omega, .inl rfl⟩
  yields := fun i H v G hi h ⟨T, x, c, e1, e2, e3, e4, e5⟩ => ⟨T, x, c, e4 xs h, e5, e1, e2, e3⟩
end Gu
namespace Gu
open PySem PySem.Spec PyProof.Rows L2
/-! ### views in the heap -/
structure VW where
  pr : Addr
  rw : Addr
  rs : List (Addr × Rec)
  y : Str
def VW.recs (v : VW) : List Rec := v.rs.map (·.2)
def VW.cs (v : VW) : List Nat := v.y.cps.toList
structure ViewAt (C : Addr) (H : Hp) (v : VW) : Prop where
  pr : H v.pr = some (.tup [.ref v.rw, .str v.y])
  row : RowAt C H v.rw v.rs
  l1 : 1 ≤ v.rs.length
  l4 : v.rs.length ≤ 4
  tx : isTxt v.y 200 = true
structure ViewsAt (C : Addr) (H : Hp) (a : Addr) (vs : List VW) : Prop where
  tp : H a = some (.tup (vs.map fun v => V.ref v.pr))
  el : ∀ v ∈ vs, ViewAt C H v
  l1 : 1 ≤ vs.length
  l4 : vs.length ≤ 4
theorem ViewAt.same {C : Addr} {H G : Hp} {v : VW} (s : Same H G) (h : ViewAt C H v) : ViewAt C G v := ⟨s _ _ h.pr, h.row.same s, h.l1, h.l4, h.tx⟩
theorem ViewsAt.same {C : Addr} {H G : Hp} {a : Addr} {vs : List VW} (s : Same H G) (h : ViewsAt C H a vs) : ViewsAt C G a vs := ⟨s _ _ h.tp, fun v hv => (h.el v hv).same s, h.l1, h.l4⟩
/-- a text fits the views -/
def Fits (vs : List VW) (cs : List Nat) : Prop := ∀ v ∈ vs, cuts v.recs cs = v.cs
/-! what is known, by places -/
def Agree (kvs : List (Key × V)) (cs : List Nat) : Prop := ∀ (p c : Nat), valV kvs (Sum.inl (p : Int)) = some (.str (one c)) → cs[p]? = some c
structure Knows (n : Nat) (kvs : List (Key × V)) (Pd : List Nat → Prop) : Prop where
  ks : ∀ k v, valV kvs k = some v → ∃ p c : Nat, k = Sum.inl (p : Int) ∧ p < n ∧ v = .str (one c) ∧ c ∈ signs.cps.toList
  iff : ∀ cs : List Nat, cs.length = n → (Pd cs ↔ Agree kvs cs)
theorem Knows.imp {n : Nat} {kvs : List (Key × V)} {Pd Qd : List Nat → Prop} (h : Knows n kvs Pd) (e : ∀ cs : List Nat, cs.length = n → (Pd cs ↔ Qd cs)) : Knows n kvs Qd := ⟨h.ks, fun cs l => (e cs l).symm.trans (h.iff cs l)⟩
theorem Knows.start (n : Nat) : Knows n [] (fun _ => True) := ⟨fun k v h => (by cases h), fun cs l => ⟨fun _ p c h => (by cases h), fun _ => trivial⟩⟩
theorem one_inj {c d : Nat} (h : V.str (one c) = V.str (one d)) : c = d := by
  have := congrArg (fun z : Str => z.cps.toList) (V.str.inj h)
  exact List.singleton_inj.mp this
/-- one more place is known -/
theorem Knows.put {n p c : Nat} {kvs : List (Key × V)} {Pd : List Nat → Prop} (h : Knows n kvs Pd) (hp : p < n) (hc : c ∈ signs.cps.toList) (e : valV kvs (Sum.inl (p : Int)) = none) : Knows n (putK kvs (Sum.inl (p : Int)) (.str (one c))) (fun cs => Pd cs ∧ cs[p]? = some c) := by
  refine ⟨fun k v q => ?_, fun cs l => ?_⟩
  · rw [valV_put] at q
    split at q
    · next ek => exact ⟨p, c, ek, hp, (Option.some.inj q).symm, hc⟩
    · exact h.ks k v q
  · rw [h.iff cs l]
    constructor
    · rintro ⟨a, b⟩ q d hq
      rw [valV_put] at hq
      split at hq
      · next ek =>
        have ek : q = p := by have := Sum.inl.inj ek; omega
        rw [ek, b, one_inj (Option.some.inj hq)]
      · exact a q d hq
    · intro a
      refine ⟨fun q d hq => a q d ?_, a p c ?_⟩
      · rw [valV_put]
        split
        · next ek =>
          rw [ek, e] at hq
          cases hq
        · exact hq
      · rw [valV_put, if_pos rfl]
theorem fillN_int {cs : List Nat} {p c : Nat} (hp : p < cs.length) : fillN cs (.int (p : Int)) = c ↔ cs[p]? = some c := by
  show cs.getD (p : Int).toNat 0 = c ↔ _
  rw [Int.toNat_natCast, List.getD_eq_getElem?_getD, List.getElem?_eq_getElem hp]
  exact ⟨fun h => congrArg some h, fun h => Option.some.inj h⟩
/-- a row shows a text as y: sign by sign -/
theorem shown_each {rs : List Rec} (hf : ∀ r ∈ rs, r.fit) {cs ys : List Nat} : cuts rs cs = ys ↔ (planV rs cs.length).map (fillN cs) = ys := by
  have e := fill_plan rs cs
  have px : ∀ x ∈ planV rs cs.length, Plain cs.length x := plan_plain hf
  rw [fillN_map px] at e
  rw [ones_inj e]
section
variable {P : Program} {w : World} {K : PySem.W.Frag} {mg : Str → Option Value} {base : Heap} {C : Addr}
theorem Isa.str_intV {H : Hp} {z : Str} : Isa K H (.str z) "int" false := ⟨_, .base (.str z), kit_ty (by decide +kernel)⟩
/-! ### is_row, is_view, check_views -/
def spIsRow (C : Addr) : Sp := fun vs H Q _ => ∃ (a : Addr) (rs : List (Addr × Rec)), vs = [.ref a] ∧ RowAt C H a rs ∧ 1 ≤ rs.length ∧ rs.length ≤ 4 ∧ ∀ G, Same H G → Q (.bl true) G
theorem cal_isRow (B : Bi mg) (S : ShC K mg C) (D : At K mg "is_row" s_is_row ps_is_row) (C_is_tuple : Cal P w K mg base 1 "is_tuple" ps_is_tuple (spIsTuple K)) : Cal P w K mg base 2 "is_row" ps_is_row (spIsRow C) := by
  refine D.cal sc_is_row (fun vs H Q E h => ?_) (fun f cdv A outer s H vs Q E hr h => ?_)
  · obtain ⟨a, rs, rfl, _⟩ := h
    rfl
  · obtain ⟨a, rs, rfl, hR, l1, l4, k⟩ := h
    refine ⟨_, (pss_one (ps_ret (pe_and (pe_own C_is_tuple hr (by decide) (by rfl) (pa_cons (pv 0) (pa_cons pe_int (pa_cons (pe_cst B.MOST_ROW (by rfl)) pa_nil)))) (pe_one (pe_callB (cr_all rfl) (by rfl) B.all (by decide +kernel) (pa_cons (pe_lc (own := [("part", 1)]) (by rfl) sc_is_row.nd (pi_tup (pv 0)) (blkOk_by (own := [("part", 1)]) (N := ["value", "part"]) (sc := defScope s_is_row) (by decide +kernel)) (fun _ _ _ _ _ => pg_name (i := 1) sc_is_row.nd rfl (.inl rfl)) (fun _ _ _ _ _ => pts_nil) (fun _ _ _ _ _ => (pe_callB (id := "isinstance") (r := rIsi K) call_isi (by rfl) B.isinstance (by decide +kernel) (pa_cons (pv 1) (pa_cons (pe_glob (v := .ref C) (by rfl) S.g rfl) pa_nil))))) pa_nil)))))), ?_⟩
    refine ⟨_, rfl, _, _, _, rfl, .inl ⟨a, _, rfl, .inl (.inl hR.tp), _, rfl, ?_⟩⟩
    rw [decide_eq_true (show (1 : Int) ≤ ((rs.map fun q => V.ref q.1).length : Int) ∧ ((rs.map fun q => V.ref q.1).length : Int) ≤ 4 by rw [List.length_map]; omega)]
    refine iteT ⟨_, rfl, a, rfl, ⟨_, .inl (.inl hR.tp)⟩, fun M nM => lc_tup (K := K) (a := a) (xs := rs.map fun q => V.ref q.1) (fun i J => (∃ bs : List Bool, bs.length = i ∧ bs.all id = true ∧ J M = some (.lst (bs.map V.bl))) ∧ Same H J)
      ⟨⟨[], rfl, rfl, upd_same⟩, same_new nM⟩ (fun i J _ ⟨_, sJ⟩ => .inl (.inl (sJ _ _ hR.tp))) ?_ ?_⟩
    · rintro i v J hi ⟨⟨bs, rfl, ha, eM⟩, sJ⟩
      have il := (List.getElem?_eq_some_iff.mp hi).1
      rw [List.length_map] at il
      obtain ⟨q, hq, rfl⟩ : ∃ q ∈ rs, v = .ref q.1 := by
        obtain ⟨q, h1, h2⟩ := List.mem_map.mp (List.mem_of_getElem? hi)
        exact ⟨q, h1, h2.symm⟩
      obtain ⟨dx, b, e1, _⟩ := ((hR.sh q hq).1).same sJ
      refine ⟨rfl, yes (iteT ⟨_, rfl, _, _, _, _, true, rfl, .own C, .base (.ins e1 S.cl S.ha S.hn S.ht S.hm), S.kk, _, eM, small1000 (by rw [List.length_map]; omega), ⟨bs ++ [true], by rw [List.length_append]; rfl, by rw [List.all_append, ha]; rfl, ?_⟩, same_offF sJ nM⟩)⟩
      rw [upd_same, List.map_append]
      rfl
    · rintro J ⟨⟨bs, el, ha, eM⟩, sJ⟩
      refine ⟨M, bs, rfl, .inl (.inl eM), ?_⟩
      rw [ha]
      exact k J sJ
def spIsView (C : Addr) : Sp := fun vs H Q _ => ∃ (v : VW), vs = [.ref v.pr] ∧ ViewAt C H v ∧ ∀ G, Same H G → Q (.bl true) G
theorem cal_isView (B : Bi mg) (D : At K mg "is_view" s_is_view ps_is_view) (C_is_tuple : Cal P w K mg base 1 "is_tuple" ps_is_tuple (spIsTuple K)) (C_is_text : Cal P w K mg base 1 "is_text" ps_is_text (spIsText K)) (C_is_row : Cal P w K mg base 2 "is_row" ps_is_row (spIsRow C)) : Cal P w K mg base 3 "is_view" ps_is_view (spIsView C) := by
  refine D.cal sc_is_view (fun vs H Q E h => ?_) (fun f cdv A outer s H vs Q E hr h => ?_)
  · obtain ⟨v, rfl, _⟩ := h
    rfl
  · obtain ⟨v, rfl, hv, k⟩ := h
    have yl := isTxt_len hv.tx
    refine ⟨_, (pss_one (ps_ret (pe_and (pe_own C_is_tuple hr (by decide) (by rfl) (pa_cons (pv 0) (pa_cons pe_int (pa_cons pe_int pa_nil)))) (pe_and (pe_own C_is_row hr (by decide) (by rfl) (pa_cons (pe_ix ix_tup (pv 0) pe_int (fun _ _ => rfl)) pa_nil)) (pe_one (pe_own C_is_text hr (by decide) (by rfl) (pa_cons (pe_ix ix_tup (pv 0) pe_int (fun _ _ => rfl)) (pa_cons (pe_cst B.MOST_TEXT (by rfl)) pa_nil)))))))), ?_⟩
    refine ⟨_, rfl, _, _, _, rfl, .inl ⟨v.pr, _, rfl, .inl (.inl hv.pr), _, rfl, ?_⟩⟩
    rw [decide_eq_true (show (2 : Int) ≤ (([V.ref v.rw, V.str v.y] : List V).length : Int) ∧ (([V.ref v.rw, V.str v.y] : List V).length : Int) ≤ 2 from ⟨by show (2 : Int) ≤ 2; decide, by show (2 : Int) ≤ 2; decide⟩)]
    refine iteT ⟨_, rfl, v.pr, _, _, _, rfl, rfl, .inl (.inl hv.pr), (rfl : atI [V.ref v.rw, V.str v.y] 0 = some (V.ref v.rw)), ?_⟩
    refine ⟨v.rw, v.rs, rfl, hv.row, hv.l1, hv.l4, fun G sG => ⟨_, rfl, iteT ?_⟩⟩
    refine ⟨_, rfl, v.pr, _, _, _, rfl, rfl, .inl (.inl (sG _ _ hv.pr)), (rfl : atI [V.ref v.rw, V.str v.y] 1 = some (V.str v.y)), ?_⟩
    refine ⟨_, _, rfl, .inl ⟨v.y, rfl, by omega, fun G2 s2 => ?_⟩⟩
    rw [show isTxt v.y 200 = true from hv.tx]
    exact k G2 (sG.trans s2)
def spCheckViews (C : Addr) : Sp := fun vs H Q _ => ∃ (a : Addr) (ws : List VW), vs = [.ref a] ∧ ViewsAt C H a ws ∧ ∀ G, Same H G → Q .non G
theorem cal_checkViews (B : Bi mg) (D : At K mg "check_views" s_check_views ps_check_views) (C_is_tuple : Cal P w K mg base 1 "is_tuple" ps_is_tuple (spIsTuple K)) (C_is_view : Cal P w K mg base 3 "is_view" ps_is_view (spIsView C)) : Cal P w K mg base 4 "check_views" ps_check_views (spCheckViews C) := by
  refine D.cal sc_check_views (fun vs H Q E h => ?_) (fun f cdv A outer s H vs Q E hr h => ?_)
  · obtain ⟨a, ws, rfl, _⟩ := h
    rfl
  · obtain ⟨a, ws, rfl, hV, k⟩ := h
    have l1 := hV.l1
    have l4 := hV.l4
    refine ⟨_, (pss_cons (ps_if (pt_not (pt_val (pe_own C_is_tuple hr (by decide) (by rfl) (pa_cons (pv 0) (pa_cons pe_int (pa_cons (pe_cst B.MOST_VIEWS (by rfl)) pa_nil)))))) pss_never pss_nil)
      (pss_one (ps_for PassesOwn.never rfl (pi_enT (by rfl) B.enumerate (pa_cons (pv 0) pa_nil)) (pg_tup rfl (pgs_cons (pg_name (i := 1) sc_check_views.nd rfl (.inl rfl)) (pgs_cons (pg_name (i := 2) sc_check_views.nd rfl (.inl rfl)) pgs_nil)))
      (pss_one (ps_if (pt_not (pt_val (pe_own C_is_view hr (by decide) (by rfl) (pa_cons (pv 2) pa_nil)))) pss_never pss_nil))))), ?_⟩
    refine ⟨_, rfl, _, _, _, rfl, .inl ⟨a, _, rfl, .inl (.inl hV.tp), _, rfl, ?_⟩⟩
    rw [decide_eq_true (show (1 : Int) ≤ ((ws.map fun v => V.ref v.pr).length : Int) ∧ ((ws.map fun v => V.ref v.pr).length : Int) ≤ 4 by rw [List.length_map]; omega)]
    refine iteF ⟨_, rfl, a, _, rfl, .inl (.inl hV.tp), for_it walk_enT (fun i σ J => ∃ u v, σ = [some (.ref a), u, v] ∧ Same H J) ⟨none, none, rfl, Same.refl H⟩ (fun i σ J _ ⟨_, _, _, sJ⟩ => .inl (.inl (sJ _ _ hV.tp))) ?_ ?_⟩
    · rintro i x σ J J1 hi ⟨u, v2, rfl, sJ⟩ ⟨T, z, hz, rfl, nT, rfl⟩
      obtain ⟨v, hv, rfl⟩ : ∃ v ∈ ws, z = .ref v.pr := by
        obtain ⟨q, h1, h2⟩ := List.mem_map.mp (List.mem_of_getElem? hz)
        exact ⟨q, h1, h2.symm⟩
      have sT : Same H (upd J T (.tup [.int (i : Nat), .ref v.pr])) := sJ.trans (same_new nT)
      refine ⟨T, _, rfl, .inl (.inl upd_same), rfl, _, _, rfl, _, _, rfl, rfl, ?_⟩
      exact ⟨_, rfl, v, rfl, (hV.el v hv).same sT, fun G sG => ⟨_, rfl, iteF ⟨_, _, rfl, sT.trans sG⟩⟩⟩
    · rintro σ J ⟨u, v, rfl, sJ⟩
      exact k J sJ
/-! ### known_signs -/
def spKnown (C : Addr) : Sp := fun vs H Q _ => ∃ (a : Addr) (n : Nat) (ws : List VW), vs = [.ref a, .int (n : Int)] ∧ ViewsAt C H a ws ∧ n ≤ 500 ∧ ((∀ cs : List Nat, cs.length = n → ¬ Fits ws cs) → ∀ G, Same H G → Q .non G) ∧ ∀ (d : Addr) (kvs : List (Key × V)) (G : Hp), H d = none → Same H G → G d = some (.dK kvs) → Knows n kvs (Fits ws) → Q (.ref d) G
/-- the signs of one view, up to i -/
def Upto (n : Nat) (rs : List Rec) (ys : List Nat) (i : Nat) (cs : List Nat) : Prop := ∀ j x c, j < i → (planV rs n)[j]? = some x → ys[j]? = some c → fillN cs x = c
theorem upto_all {n : Nat} {rs : List Rec} (hf : ∀ r ∈ rs, r.fit) {ys cs : List Nat} (l : cs.length = n) (e : (planV rs n).length = ys.length) : Upto n rs ys ys.length cs ↔ cuts rs cs = ys := by
  rw [shown_each hf, l]
  constructor
  · intro h
    refine List.ext_getElem (by rw [List.length_map]; exact e) fun j h1 h2 => ?_
    rw [List.getElem_map]
    exact h j _ _ h2 (List.getElem?_eq_getElem _) (List.getElem?_eq_getElem h2)
  · intro h j x c hj hx hc
    rw [← h, List.getElem?_map, hx] at hc
    exact Option.some.inj hc
theorem upto_next {n : Nat} {rs : List Rec} {ys cs : List Nat} {i : Nat} {x : V} {c : Nat} (hx : (planV rs n)[i]? = some x) (hc : ys[i]? = some c) : Upto n rs ys (i + 1) cs ↔ Upto n rs ys i cs ∧ fillN cs x = c := by
  constructor
  · exact fun h => ⟨fun j x c hj => h j x c (by omega), h i x c (by omega) hx hc⟩
  · rintro ⟨h, e⟩ j u d hj hu hd
    rcases Nat.lt_or_ge j i with q | q
    · exact h j u d q hu hd
    · obtain rfl : j = i := by omega
      rw [hx] at hu
      rw [hc] at hd
      cases hu
      cases hd
      exact e
theorem fits_take {ws : List VW} {i : Nat} {v : VW} {cs : List Nat} (h : ws[i]? = some v) : Fits (ws.take (i + 1)) cs ↔ Fits (ws.take i) cs ∧ cuts v.recs cs = v.cs := by
  rw [takeF_next h]
  constructor
  · exact fun q => ⟨fun u hu => q u (List.mem_append.mpr (.inl hu)), q v (List.mem_append.mpr (.inr (List.mem_singleton.mpr rfl)))⟩
  · rintro ⟨a, b⟩ u hu
    rcases List.mem_append.mp hu with hu | hu
    · exact a u hu
    · rw [List.mem_singleton.mp hu]
      exact b
set_option maxHeartbeats 1000000 in
theorem cal_known (B : Bi mg) (D : At K mg "known_signs" s_known_signs ps_known_signs) (C_planned : Cal P w K mg base 2 "planned" ps_planned (spPlanned C)) : Cal P w K mg base 3 "known_signs" ps_known_signs (spKnown C) := by
  refine D.cal sc_known_signs (fun vs H Q E h => ?_) (fun f cdv A outer s H vs Q E hr h => ?_)
  · obtain ⟨a, n, ws, rfl, _⟩ := h
    rfl
  · obtain ⟨a, n, ws, rfl, hV, hn, kN, kS⟩ := h
    refine ⟨_, (pss_cons (ps_set (i := 2) sc_known_signs.nd rfl (.inl rfl) pe_dnewK)
      (pss_cons (ps_for PassesOwn.never rfl (pi_tup (pv 0)) (pg_tup rfl (pgs_cons (pg_name (i := 3) sc_known_signs.nd rfl (.inl rfl)) (pgs_cons (pg_name (i := 4) sc_known_signs.nd rfl (.inl rfl)) pgs_nil)))
      (pss_cons (ps_set (i := 5) sc_known_signs.nd rfl (.inl rfl) (pe_own C_planned hr (by decide) (by rfl) (pa_cons (pv 3) (pa_cons (pv 1) pa_nil))))
      (pss_cons (ps_if (pt_cmpR op_ne (pe_callB call_len (by rfl) B.len (by decide +kernel) (pa_cons (pv 5) pa_nil)) (pe_callB call_len (by rfl) B.len (by decide +kernel) (pa_cons (pv 4) pa_nil)) (nomark _)) (pss_one (ps_ret pe_non)) pss_nil)
      (pss_one (ps_for PassesOwn.never rfl (pi_zipS (by rfl) B.zip (pa_cons (pv 5) (pa_cons (pv 4) pa_nil))) (pg_tup rfl (pgs_cons (pg_name (i := 6) sc_known_signs.nd rfl (.inl rfl)) (pgs_cons (pg_name (i := 7) sc_known_signs.nd rfl (.inl rfl)) pgs_nil)))
      (pss_cons (ps_set (i := 8) sc_known_signs.nd rfl (.inl rfl) (pe_mid (pe_ifExp (pt_val (pe_callB call_isi (by rfl) B.isinstance (by decide +kernel) (pa_cons (pv 6) (pa_cons (pe_bltn (v := .ty "int") (by rfl) B.int (by decide +kernel) rfl) pa_nil)))) (pe_dsetd (pv 2) (pv 6) (pv 7) ⟨rfl, rfl, rfl, rfl⟩) (pv 6))))
      (pss_one (ps_if (pt_cmpR op_ne (pv 8) (pv 7) (nomark _)) (pss_one (ps_ret pe_non)) pss_nil))))))))
      (pss_one (ps_ret (pv 2))))), ?_⟩
    refine fun d nd => ?_
    have s0 : Same H (upd H d (.dK [])) := same_new nd
    refine ⟨_, rfl, a, rfl, ⟨_, .inl (.inl (s0 _ _ hV.tp))⟩, for_tup (K := K) (a := a) (xs := ws.map fun v => V.ref v.pr) (fun i σ J => ∃ (kvs : List (Key × V)) (b1 b2 b3 b4 b5 b6 : Option V), σ = [some (.ref a), some (.int (n : Int)), some (.ref d), b1, b2, b3, b4, b5, b6] ∧ Same H J ∧ J d = some (.dK kvs) ∧ Knows n kvs (Fits (ws.take i)) ∧ kvs.length ≤ 1000 * i)
      ⟨[], none, none, none, none, none, none, rfl, s0, upd_same, (Knows.start n).imp (fun cs _ => ⟨fun _ v hv => (by cases hv), fun _ => trivial⟩), Nat.zero_le _⟩ (fun i σ J _ ⟨_, _, _, _, _, _, _, _, sJ, _⟩ => .inl (.inl (sJ _ _ hV.tp))) ?_ ?_⟩
    · rintro i x σ J hi ⟨kvs, b1, b2, b3, b4, b5, b6, rfl, sJ, eD, kn, kl⟩
      rw [List.getElem?_map] at hi
      cases hv : ws[i]? with
      | none =>
        rw [hv] at hi
        cases hi
      | some v =>
        rw [hv] at hi
        cases hi
        have mv : v ∈ ws := List.mem_of_getElem? hv
        have il : i < ws.length := (List.getElem?_eq_some_iff.mp hv).1
        have w4 := hV.l4
        have vw := (hV.el v mv).same sJ
        have fr : ∀ r ∈ v.recs, r.fit := vw.row.fits
        have yl := isTxt_len vw.tx
        have ys : Signs v.cs := isTxt_signs vw.tx
        have yL : v.y.length = v.cs.length := rfl
        have yZ : v.y.cps.size = v.cs.length := rfl
        refine ⟨v.pr, _, rfl, .inl (.inl vw.pr), rfl, _, _, rfl, _, _, rfl, rfl, ?_⟩
        refine ⟨_, rfl, _, rfl, v.rw, n, v.rs, rfl, vw.row, hn, fun U G1 s1 e1 => ?_⟩
        have e1 : G1 U = some (.tup (planV v.recs n)) := e1
        have pl := plan_len fr (n := n) hn
        refine ⟨_, rfl, _, _, rfl, .inr ⟨_, .inl (.inl e1), rfl⟩, _, rfl, _, _, rfl, ⟨Nat.le_of_lt (small1000 (by omega)), rfl⟩, rfl, _, rfl, ?_⟩
        by_cases el : (planV v.recs n).length = v.cs.length
        · rw [decide_eq_true (show V.int ((planV v.recs n).length : Int) = V.int (v.y.length : Int) by rw [el, yL])]
          refine iteF ⟨_, rfl, _, rfl, U, v.y, _, rfl, .inl (.inl e1), for_it (walk_zipS (by rw [el, yZ])) (fun j σ J1 => ∃ (kvs : List (Key × V)) (c1 c2 c3 : Option V), σ = [some (.ref a), some (.int (n : Int)), some (.ref d), some (.ref v.rw), some (.str v.y), some (.ref U), c1, c2, c3] ∧ Same H J1 ∧ J1 U = some (.tup (planV v.recs n)) ∧ J1 d = some (.dK kvs) ∧ Knows n kvs (fun cs => Fits (ws.take i) cs ∧ Upto n v.recs v.cs j cs) ∧ kvs.length ≤ 1000 * i + j)
            ⟨kvs, b4, b5, b6, rfl, sJ.trans s1, e1, s1 _ _ eD, kn.imp (fun cs _ => ⟨fun h => ⟨h, fun j x c hj => absurd hj (by omega)⟩, fun h => h.1⟩), by omega⟩ (fun j σ J1 _ ⟨_, _, _, _, _, _, h, _⟩ => .inl (.inl h)) ?_ ?_⟩
          · rintro j z σ1 J1 _ hj ⟨kvs1, c1, c2, c3, rfl, s2, e2, eD1, kn1, kl1⟩ ⟨T, sx, c, hx, hc, rfl, nT, rfl⟩
            have hc : v.cs[j]? = some c := by
              rw [← Array.getElem?_toList] at hc
              exact hc
            have cs1 : c ∈ signs.cps.toList := ys c (List.mem_of_getElem? hc)
            have sT : Same J1 (upd J1 T (.tup [sx, .str ⟨#[c]⟩])) := same_new nT
            have eD2 := sT _ _ eD1
            have e3 := sT _ _ e2
            have s3 := s2.trans sT
            refine ⟨T, _, rfl, .inl (.inl upd_same), rfl, _, _, rfl, _, _, rfl, rfl, ?_⟩
            generalize upd J1 T (.tup [sx, .str ⟨#[c]⟩]) = J2 at eD2 e3 s3
            have px : Plain n sx := plan_plain fr sx (List.mem_of_getElem? hx)
            rcases px with ⟨q, rfl, q0, qn⟩ | ⟨g, rfl, _⟩
            · obtain ⟨q, rfl⟩ := Int.eq_ofNat_of_zero_le q0
              have qn : q < n := by omega
              cases eq : valV kvs1 (Sum.inl (q : Int)) with
              | some u =>
                obtain ⟨q', g, ek, _, rfl, _⟩ := kn1.ks _ _ eq
                refine ⟨fun t J3 => t = .str (one g) ∧ J2 = J3, ?_, ?_⟩
                · obtain ⟨t, i1, i2⟩ := Isa.int_int (K := K) (H := J2) (i := (q : Int))
                  refine ⟨_, rfl, _, _, t, _, true, rfl, .ty _, i1, i2, _, rfl, iteT ⟨_, rfl, d, rfl, .inl ⟨_, .inl eD2⟩, _, rfl, _, rfl, kvs1, Sum.inl (q : Int), eD2, rfl, Nat.lt_of_le_of_lt (show _ ≤ 6000 by omega) (by decide), fun v hv => ?_, fun hv => ?_⟩⟩
                  · rw [eq] at hv
                    cases hv
                    exact ⟨rfl, rfl⟩
                  · rw [eq] at hv
                    cases hv
                · rintro _ _ ⟨rfl, rfl⟩
                  refine ⟨_, rfl, _, rfl, rfl, _, rfl, ?_⟩
                  by_cases gc : g = c
                  · subst gc
                    rw [decide_eq_true (show V.str (one g) = V.str ⟨#[g]⟩ from rfl)]
                    refine iteF ⟨kvs1, _, _, _, rfl, s3, e3, eD2, kn1.imp (fun cs l => ?_), by omega⟩
                    rw [upto_next hx hc]
                    constructor
                    · rintro h
                      exact ⟨h.1, h.2, (fillN_int (by omega)).mpr ((kn1.iff cs l).mp h q g eq)⟩
                    · exact fun h => ⟨h.1, h.2.1⟩
                  · rw [decide_eq_false (show ¬ V.str (one g) = V.str ⟨#[c]⟩ from fun h => gc (one_inj h))]
                    refine iteT (kN (fun cs l ft => gc ?_) J2 s3)
                    have f1 := (fits_take hv).mp (fun u hu => ft u (List.mem_of_mem_take hu))
                    have up := (upto_all fr l el).mpr f1.2
                    have a1 := (kn1.iff cs l).mp ⟨f1.1, fun m x c hm => up m x c (by omega)⟩ q g eq
                    have jl : j < v.cs.length := (List.getElem?_eq_some_iff.mp hc).1
                    have a2 := (fillN_int (by omega)).mp (up j _ c jl hx hc)
                    exact Option.some.inj (a1.symm.trans a2)
              | none =>
                refine ⟨fun t J3 => t = .str (one c) ∧ J3 = upd J2 d (.dK (putK kvs1 (Sum.inl (q : Int)) (.str (one c)))), ?_, ?_⟩
                · obtain ⟨t, i1, i2⟩ := Isa.int_int (K := K) (H := J2) (i := (q : Int))
                  refine ⟨_, rfl, _, _, t, _, true, rfl, .ty _, i1, i2, _, rfl, iteT ⟨_, rfl, d, rfl, .inl ⟨_, .inl eD2⟩, _, rfl, _, rfl, kvs1, Sum.inl (q : Int), eD2, rfl, Nat.lt_of_le_of_lt (show _ ≤ 6000 by omega) (by decide), fun v hv => ?_, fun hv => ⟨rfl, rfl⟩⟩⟩
                  rw [eq] at hv
                  cases hv
                · rintro _ _ ⟨rfl, rfl⟩
                  refine ⟨_, rfl, _, rfl, rfl, _, rfl, ?_⟩
                  rw [decide_eq_true (show V.str (one c) = V.str ⟨#[c]⟩ from rfl)]
                  have kl2 := length_putK kvs1 (Sum.inl (q : Int)) (.str (one c))
                  have nUd : U ≠ d := ne_of e3 eD2 (by intro z; cases z)
                  refine iteF ⟨_, _, _, _, rfl, same_offF s3 nd, by rw [upd_ne nUd]; exact e3, upd_same, (kn1.put qn cs1 eq).imp (fun cs l => ?_), by omega⟩
                  rw [upto_next hx hc, fillN_int (by omega)]
                  exact ⟨fun h => ⟨h.1.1, h.1.2, h.2⟩, fun h => ⟨⟨h.1, h.2.1⟩, h.2.2⟩⟩
            · refine ⟨fun t J3 => t = .str (one g) ∧ J2 = J3, ?_, ?_⟩
              · obtain ⟨t, i1, i2⟩ := Isa.str_intV (K := K) (H := J2) (z := one g)
                exact ⟨_, rfl, _, _, t, _, false, rfl, .ty _, i1, i2, _, rfl, iteF ⟨_, rfl, rfl, rfl⟩⟩
              · rintro _ _ ⟨rfl, rfl⟩
                refine ⟨_, rfl, _, rfl, rfl, _, rfl, ?_⟩
                by_cases gc : g = c
                · subst gc
                  rw [decide_eq_true (show V.str (one g) = V.str ⟨#[g]⟩ from rfl)]
                  refine iteF ⟨kvs1, _, _, _, rfl, s3, e3, eD2, kn1.imp (fun cs l => ?_), by omega⟩
                  rw [upto_next hx hc]
                  exact ⟨fun h => ⟨h.1, h.2, rfl⟩, fun h => ⟨h.1, h.2.1⟩⟩
                · rw [decide_eq_false (show ¬ V.str (one g) = V.str ⟨#[c]⟩ from fun h => gc (one_inj h))]
                  refine iteT (kN (fun cs l ft => gc ?_) J2 s3)
                  have f1 := (fits_take hv).mp (fun u hu => ft u (List.mem_of_mem_take hu))
                  have jl : j < v.cs.length := (List.getElem?_eq_some_iff.mp hc).1
                  exact (upto_all fr l el).mpr f1.2 j _ c jl hx hc
          · rintro σ1 J1 ⟨kvs1, c1, c2, c3, rfl, s2, e2, eD1, kn1, kl1⟩
            refine ⟨kvs1, _, _, _, _, _, _, rfl, s2, eD1, kn1.imp (fun cs l => ?_), by omega⟩
            rw [fits_take hv, ← upto_all fr l el, el]
        · rw [decide_eq_false (fun h => el (by have := V.int.inj h; omega))]
          refine iteT (kN (fun cs l ft => el ?_) G1 (sJ.trans s1))
          have := ft v mv
          rw [shown_each fr, l] at this
          rw [← this, List.length_map]
    · rintro σ J ⟨kvs, b1, b2, b3, b4, b5, b6, rfl, sJ, eD, kn, kl⟩
      rw [List.length_map, List.take_length] at kn
      exact ⟨_, rfl, kS d kvs J nd sJ eD kn⟩
end
end Gu
namespace Gu
open PySem PySem.Spec PyProof.Rows L2
/-! ### what is written out -/
/-- the sign at a place, o where it is open -/
def sgn (kvs : List (Key × V)) (o p : Nat) : Nat := match valV kvs (Sum.inl (p : Int)) with
  | some (.str z) => z.cps.toList.getD 0 0
  | _ => o
theorem sgn_some {kvs : List (Key × V)} {o p c : Nat} (h : valV kvs (Sum.inl (p : Int)) = some (.str (one c))) : sgn kvs o p = c := by
  unfold sgn
  rw [h]
  rfl
theorem sgn_none {kvs : List (Key × V)} {o p : Nat} (h : valV kvs (Sum.inl (p : Int)) = none) : sgn kvs o p = o := by
  unfold sgn
  rw [h]
def wrote (kvs : List (Key × V)) (o n : Nat) : List Nat := (List.range n).map (sgn kvs o)
theorem wrote_len (kvs : List (Key × V)) (o n : Nat) : (wrote kvs o n).length = n := by
  unfold wrote
  rw [List.length_map, List.length_range]
theorem wrote_at {kvs : List (Key × V)} {o n p : Nat} (h : p < n) : (wrote kvs o n)[p]? = some (sgn kvs o p) := by
  unfold wrote
  rw [List.getElem?_map, List.getElem?_range h]
  rfl
theorem wrote_agree {n o : Nat} {kvs : List (Key × V)} {Pd : List Nat → Prop} (h : Knows n kvs Pd) : Agree kvs (wrote kvs o n) := fun p c hc => by
  obtain ⟨p', c', ek, hp, _, _⟩ := h.ks _ _ hc
  have ek : p = p' := by have := Sum.inl.inj ek; omega
  rw [wrote_at (by omega), sgn_some hc]
theorem wrote_fits {n o : Nat} {kvs : List (Key × V)} {Pd : List Nat → Prop} (h : Knows n kvs Pd) : Pd (wrote kvs o n) := (h.iff _ (wrote_len ..)).mpr (wrote_agree h)
theorem wrote_signs {n o : Nat} {kvs : List (Key × V)} {Pd : List Nat → Prop} (h : Knows n kvs Pd) (ho : o ∈ signs.cps.toList) : Signs (wrote kvs o n) := fun c hc => by
  obtain ⟨p, hp, rfl⟩ := List.mem_map.mp hc
  cases e : valV kvs (Sum.inl (p : Int)) with
  | none =>
    rw [sgn_none e]
    exact ho
  | some v =>
    obtain ⟨p', c', ek, _, rfl, hs⟩ := h.ks _ _ e
    rw [sgn_some e]
    exact hs
def natV (l : List Nat) : List V := l.map fun a : Nat => V.int (a : Int)
theorem in_natV (i : Int) (l : List Nat) : inV (.int i) (natV l) = decide (0 ≤ i ∧ i.toNat ∈ l) := by
  unfold inV natV
  rw [List.any_map]
  by_cases e : 0 ≤ i ∧ i.toNat ∈ l
  · rw [decide_eq_true e, List.any_eq_true]
    refine ⟨i.toNat, e.2, ?_⟩
    show ((i.toNat : Int) == i) = true
    rw [Int.toNat_of_nonneg e.1]
    exact beq_self_eq_true _
  · rw [decide_eq_false e, List.any_eq_false]
    intro y hy h
    have h : ((y : Int)) = i := eq_of_beq (show ((y : Int) == i) = true from h)
    exact e ⟨by omega, by rw [← h, Int.toNat_natCast]; exact hy⟩
theorem flat_natV (l : List Nat) : (natV l).all flatV = true := by
  unfold natV
  rw [List.all_map, List.all_eq_true]
  exact fun _ _ => rfl
/-- some text of this length fits -/
def Poss (ws : List VW) (n : Nat) : Prop := ∃ cs : List Nat, cs.length = n ∧ Fits ws cs
noncomputable instance decPoss (ws : List VW) (n : Nat) : Decidable (Poss ws n) := Classical.propDecidable _
noncomputable def possL (ws : List VW) (m : Nat) : List Nat := (List.range m).filter fun n => decide (Poss ws n)
theorem mem_possL {ws : List VW} {m n : Nat} : n ∈ possL ws m ↔ n < m ∧ Poss ws n := by
  unfold possL
  rw [List.mem_filter, List.mem_range]
  exact ⟨fun h => ⟨h.1, of_decide_eq_true h.2⟩, fun h => ⟨h.1, decide_eq_true h.2⟩⟩
theorem possL_yes {ws : List VW} {m : Nat} (h : Poss ws m) : possL ws (m + 1) = possL ws m ++ [m] := by
  unfold possL
  rw [List.range_succ, List.filter_append, List.filter_cons, decide_eq_true h]
  rfl
theorem possL_no {ws : List VW} {m : Nat} (h : ¬ Poss ws m) : possL ws (m + 1) = possL ws m := by
  unfold possL
  rw [List.range_succ, List.filter_append, List.filter_cons, decide_eq_false h]
  simp only [Bool.false_eq_true, if_false, List.filter_nil, List.append_nil]
theorem possL_len (ws : List VW) (m : Nat) : (possL ws m).length ≤ m := by
  unfold possL
  exact Nat.le_trans (List.length_filter_le ..) (Nat.le_of_eq List.length_range)
theorem possL_lt (ws : List VW) {b m : Nat} (h : b ≤ m) : (possL ws m).filter (fun n => decide (n < b)) = possL ws b := by
  induction m with
  | zero =>
    obtain rfl : b = 0 := by omega
    rfl
  | succ m ih =>
    by_cases e : b = m + 1
    · subst e
      refine List.filter_eq_self.mpr fun n hn => decide_eq_true ?_
      exact (mem_possL.mp hn).1
    · have z : decide (m < b) = false := decide_eq_false (by omega)
      by_cases p : Poss ws m
      · rw [possL_yes p, List.filter_append, ih (by omega), List.filter_cons, z]
        simp only [Bool.false_eq_true, if_false, List.filter_nil, List.append_nil]
      · rw [possL_no p, ih (by omega)]
/-- what lengths tells -/
def Lens (ws : List VW) (sm : List Nat) (b : V) : Prop := (b = .non ∧ sm = possL ws 81 ∧ ¬ Poss ws 80) ∨ ∃ m : Nat, b = .int (m : Int) ∧ m ≤ 80 ∧ sm = possL ws m ∧ (∀ n, m ≤ n → n ≤ 80 → Poss ws n) ∧ (m = 0 ∨ ¬ Poss ws (m - 1))
/-- what signs tells -/
def Sgn (ws : List VW) (n : Nat) (v : V) : Prop := (v = .non ∧ ∀ cs : List Nat, cs.length = n → ¬ Fits ws cs) ∨ ∃ kvs y, v = .str y ∧ Knows n kvs (Fits ws) ∧ y.cps.toList = wrote kvs 63 n
section
variable {P : Program} {w : World} {K : PySem.W.Frag} {mg : Str → Option Value} {base : Heap} {C : Addr}
def spWritten : Sp := fun vs H Q _ => ∃ (d : Addr) (n o : Nat) (kvs : List (Key × V)) (z : Str) (Pd : List Nat → Prop), vs = [.ref d, .int (n : Int), .str z] ∧ z.cps.toList = [o] ∧ H d = some (.dK kvs) ∧ Knows n kvs Pd ∧ n ≤ 500 ∧ ∀ (y : Str) (G : Hp), Same H G → y.cps.toList = wrote kvs o n → Q (.str y) G
theorem cal_written (B : Bi mg) (D : At K mg "written_out" s_written_out ps_written_out) : Cal P w K mg base 1 "written_out" ps_written_out spWritten := by
  refine D.cal sc_written_out (fun vs H Q E h => ?_) (fun f cdv A outer s H vs Q E hr h => ?_)
  · obtain ⟨d, n, o, kvs, z, Pd, rfl, _⟩ := h
    rfl
  · obtain ⟨d, n, o, kvs, z, Pd, rfl, ez, eD, kn, hn, k⟩ := h
    obtain rfl : z = one o := str_ext ez
    refine ⟨_, (pss_one (ps_ret (pe_join pe_str (pe_lc (own := [("place", 3)]) (by rfl) sc_written_out.nd (pi_range1 (by rfl) B.range (pa_cons (pv 1) pa_nil)) (blkOk_by (own := [("place", 3)]) (N := ["known", "length", "other", "place"]) (sc := defScope s_written_out) (by decide +kernel)) (fun _ _ _ _ _ => pg_name (i := 3) sc_written_out.nd rfl (.inl rfl)) (fun _ _ _ _ _ => pts_nil) (fun _ _ _ _ _ => (pe_dget2 (Nat.lt_of_le_of_lt (Nat.add_le_add_left (by decide) _) hr.units) (pv 0) (pv 3) (pv 2) ⟨rfl, rfl, rfl, rfl⟩)))))), ?_⟩
    refine ⟨⟨_, rfl⟩, _, rfl, _, rfl, by omega, by omega, fun M nM => lc_range (lo := 0) (n := (n : Int).toNat) (fun i J => J M = some (.lst (ones (wrote kvs o i))) ∧ Same H J) ⟨upd_same, same_new nM⟩ ?_ ?_⟩
    · rintro i J hi ⟨eM, sJ⟩
      rw [Int.toNat_natCast] at hi
      refine ⟨rfl, yes (iteT ⟨_, rfl, d, rfl, .inl ⟨_, .inl (sJ _ _ eD)⟩, _, rfl, _, rfl, _, DGet.k (k := Sum.inl (0 + (i : Int))) (sJ _ _ eD), _, eM, small1000 ?_, ?_, same_offF sJ nM⟩)⟩
      · unfold ones
        rw [List.length_map, wrote_len]
        omega
      · rw [upd_same, Int.zero_add]
        have e1 : wrote kvs o (i + 1) = wrote kvs o i ++ [sgn kvs o i] := by
          unfold wrote
          rw [List.range_succ, List.map_append]
          rfl
        have e2 : (valV kvs (Sum.inl (i : Int))).getD (.str (one o)) = .str (one (sgn kvs o i)) := by
          cases e : valV kvs (Sum.inl (i : Int)) with
          | none =>
            rw [sgn_none e]
            rfl
          | some v =>
            obtain ⟨p', c', ek, _, rfl, hs⟩ := kn.ks _ _ e
            rw [sgn_some e]
            rfl
        rw [e2, e1]
        unfold ones
        rw [List.map_append]
        rfl
    · rintro J ⟨eM, sJ⟩
      rw [Int.toNat_natCast, ones_map] at eM
      refine ⟨_, M, _, rfl, rfl, .inl (.inl (.inl eM)), ?_, k _ J sJ (tjoin_ones _)⟩
      rw [ones_len, List.length_map, wrote_len]
      have e0 : (("" : String) : Str).length = 0 := by decide +kernel
      rw [e0]
      omega
def spSigns (C : Addr) : Sp := fun vs H Q _ => ∃ (a : Addr) (n : Nat) (ws : List VW), vs = [.ref a, .int (n : Int)] ∧ ViewsAt C H a ws ∧ n ≤ 500 ∧ ∀ (v : V) (G : Hp), Same H G → Sgn ws n v → Q v G
theorem several : (("?" : String) : Str).cps.toList = [63] := by decide +kernel
theorem cal_signs (B : Bi mg) (D : At K mg "signs" s_signs ps_signs) (C_check_views : Cal P w K mg base 4 "check_views" ps_check_views (spCheckViews C)) (C_check_length : Cal P w K mg base 2 "check_length" ps_check_length spCheckLength) (C_known_signs : Cal P w K mg base 3 "known_signs" ps_known_signs (spKnown C)) (C_written_out : Cal P w K mg base 1 "written_out" ps_written_out spWritten) : Cal P w K mg base 5 "signs" ps_signs (spSigns C) := by
  refine D.cal sc_signs (fun vs H Q E h => ?_) (fun f cdv A outer s H vs Q E hr h => ?_)
  · obtain ⟨a, n, ws, rfl, _⟩ := h
    rfl
  · obtain ⟨a, n, ws, rfl, hV, hn, k⟩ := h
    refine ⟨_, (pss_cons (ps_expr (pe_own C_check_views hr (by decide) (by rfl) (pa_cons (pv 0) pa_nil)))
      (pss_cons (ps_expr (pe_own C_check_length hr (by decide) (by rfl) (pa_cons (pv 1) pa_nil)))
      (pss_cons (ps_set (i := 2) sc_signs.nd rfl (.inl rfl) (pe_own C_known_signs hr (by decide) (by rfl) (pa_cons (pv 0) (pa_cons (pv 1) pa_nil))))
      (pss_cons (ps_if (pt_cmpR op_isN (pv 2) pe_non (nomark _)) (pss_one (ps_ret pe_non)) pss_nil)
      (pss_one (ps_ret (pe_own C_written_out hr (by decide) (by rfl) (pa_cons (pv 2) (pa_cons (pv 1) (pa_cons (pe_cst B.SEVERAL (by rfl)) pa_nil)))))))))), ?_⟩
    refine ⟨_, rfl, a, ws, rfl, hV, fun G1 s1 => ?_⟩
    refine ⟨_, rfl, n, rfl, hn, ?_⟩
    refine ⟨_, rfl, _, rfl, a, n, ws, rfl, hV.same s1, hn, fun no G2 s2 => ?_, fun d kvs G2 nd s2 eD kn => ?_⟩
    · exact ⟨_, rfl, rfl, _, rfl, iteT (k _ G2 (s1.trans s2) (.inl ⟨rfl, no⟩))⟩
    · refine ⟨_, rfl, rfl, _, rfl, iteF ⟨_, rfl, _, rfl, d, n, 63, kvs, _, _, rfl, several, eD, kn, hn, fun y G3 s3 ey => ?_⟩⟩
      exact k _ G3 (s1.trans (s2.trans s3)) (.inr ⟨kvs, y, rfl, kn, ey⟩)
/-! ### number_of -/
def manyOf : V → Int
  | .str y => (38 : Int) ^ (y.cps.toList.count 63)
  | _ => 0
def spNumber (C : Addr) : Sp := fun vs H Q _ => ∃ (a : Addr) (n : Nat) (ws : List VW), vs = [.ref a, .int (n : Int)] ∧ ViewsAt C H a ws ∧ n ≤ 500 ∧ ∀ (v : V) (G : Hp), Same H G → Sgn ws n v → Q (.int (manyOf v)) G
def spLengths (C : Addr) : Sp := fun vs H Q _ => ∃ (a : Addr) (ws : List VW), vs = [.ref a] ∧ ViewsAt C H a ws ∧ ∀ (T S : Addr) (sm : List Nat) (b : V) (G : Hp), Same H G → G T = some (.tup [.ref S, b]) → G S = some (.tup (natV sm)) → Lens ws sm b → Q (.ref T) G
theorem cal_lengths (B : Bi mg) (D : At K mg "lengths" s_lengths ps_lengths) (C_check_views : Cal P w K mg base 4 "check_views" ps_check_views (spCheckViews C)) (C_telling_lengths : Cal P w K mg base 1 "telling_lengths" [] spTelling) (C_known_signs : Cal P w K mg base 3 "known_signs" ps_known_signs (spKnown C)) : Cal P w K mg base 5 "lengths" ps_lengths (spLengths C) := by
  refine D.cal sc_lengths (fun vs H Q E h => ?_) (fun f cdv A outer s H vs Q E hr h => ?_)
  · obtain ⟨a, ws, rfl, _⟩ := h
    rfl
  · obtain ⟨a, ws, rfl, hV, k⟩ := h
    have last : atI (rgV 0 ((81 : Nat) : Int)) (-1) = some (V.int 80) := by decide +kernel
    refine ⟨_, (pss_cons (ps_expr (pe_own C_check_views hr (by decide) (by rfl) (pa_cons (pv 0) pa_nil)))
      (pss_cons (ps_set (i := 1) sc_lengths.nd rfl (.inl rfl) (pe_own0 C_telling_lengths hr (by decide) (by rfl)))
      (pss_cons (ps_setLc (i := 2) (own := [("length", 4)]) (by rfl) sc_lengths.nd rfl rfl (sw_true rfl rfl rfl (by decide +kernel)) (pi_list (pv 1)) (blkOk_by (own := [("length", 4)]) (N := ["views", "tried", "possible", "beyond", "length"]) (sc := defScope s_lengths) (by decide +kernel)) (fun _ _ _ _ _ => pg_name (i := 4) sc_lengths.nd rfl (.inl rfl)) (fun _ _ _ _ _ => (pts_one (pt_cmpR op_notN (pe_own C_known_signs hr (by decide) (by rfl) (pa_cons (pv 0) (pa_cons (pv 4) pa_nil))) pe_non (nomark _)))) (fun _ _ _ _ _ => (pv 4)))
      (pss_cons (ps_if (pt_cmpR op_notIn_seq (pe_ix ix_list (pv 1) (pe_un un_neg pe_int) (fun _ _ => rfl)) (pv 2) (by rfl)) (pss_one (ps_ret (pe_tup (pa_cons (pe_callTy call_tuple_of (by rfl) B.tuple (by decide +kernel) (pa_cons (pv 2) pa_nil)) (pa_cons pe_non pa_nil))))) pss_nil)
      (pss_cons (ps_set (i := 3) sc_lengths.nd rfl (.inr rfl) (pe_ix ix_list (pv 1) (pe_un un_neg pe_int) (fun _ _ => rfl)))
      (pss_cons (ps_while PassesOwn.never (pt_cmpR op_in_seq (pe_op op_sub (pv 3) pe_int) (pv 2) (by rfl))
      (pss_one (ps_aug (i := 3) sc_lengths.nd rfl (.inr rfl) pe_int ip_sub)))
      (pss_one (ps_ret (pe_tup (pa_cons (pe_callTy call_tuple_of (by rfl) B.tuple (by decide +kernel) (pa_cons (pe_lc (own := [("length", 4)]) (by rfl) sc_lengths.nd (pi_list (pv 2)) (blkOk_by (own := [("length", 4)]) (N := ["views", "tried", "possible", "beyond", "length"]) (sc := defScope s_lengths) (by decide +kernel)) (fun _ _ _ _ _ => pg_name (i := 4) sc_lengths.nd rfl (.inl rfl)) (fun _ _ _ _ _ => (pts_one (pt_cmpR op_lt (pv 4) (pv 3) (nomark _)))) (fun _ _ _ _ _ => (pv 4))) pa_nil)) (pa_cons (pv 3) pa_nil))))))))))), ?_⟩
    refine ⟨_, rfl, a, ws, rfl, hV, fun G1 s1 => ?_⟩
    refine ⟨rfl, fun T nT => ?_⟩
    have sT : Same G1 (upd G1 T (.lst (rgV 0 ((81 : Nat) : Int)))) := same_new nT
    have eT : upd G1 T (.lst (rgV 0 ((81 : Nat) : Int))) T = some (.lst (rgV 0 ((81 : Nat) : Int))) := upd_same
    generalize upd G1 T (.lst (rgV 0 ((81 : Nat) : Int))) = G2 at sT eT
    have hV2 := hV.same (s1.trans sT)
    refine ⟨_, rfl, T, rfl, ⟨_, .inl (.inl eT)⟩, fun M nM => lc_list (K := K) (a := T) (xs := rgV 0 ((81 : Nat) : Int)) (fun i J => J M = some (.lst (natV (possL ws i))) ∧ Same G2 J)
      ⟨upd_same, same_new nM⟩ (fun i J _ ⟨_, sJ⟩ => .inl (.inl (sJ _ _ eT))) ?_ ?_⟩
    · rintro i x J hi ⟨eM, sJ⟩
      rw [rg_get] at hi
      have i81 : i < 81 := Decidable.byContradiction fun h => by
        rw [if_neg h] at hi
        cases hi
      rw [if_pos i81] at hi
      cases hi
      have pl := possL_len ws i
      refine ⟨rfl, _, rfl, _, rfl, a, i, ws, rfl, hV2.same sJ, by omega, fun no G sG => ⟨rfl, _, rfl, iteNS rfl ?_⟩, fun d kvs G nd sG eD kn => ⟨rfl, _, rfl, ?_⟩⟩
      · refine ⟨?_, sJ.trans sG⟩
        rw [possL_no (fun ⟨cs, l, h⟩ => no cs l h)]
        exact sG _ _ eM
      · rw [decide_eq_false (fun h => by cases h)]
        refine iteT ⟨_, rfl, _, sG _ _ eM, small1000 ?_, ?_, same_offF (sJ.trans sG) nM⟩
        · unfold natV
          rw [List.length_map]
          omega
        · rw [upd_same, possL_yes ⟨wrote kvs 46 i, wrote_len .., wrote_fits kn⟩]
          unfold natV
          rw [List.map_append]
          rfl
    · rintro J ⟨eM, sJ⟩
      rw [rg_len] at eM
      have s2 := s1.trans (sT.trans sJ)
      refine ⟨_, rfl, _, rfl, T, _, _, _, rfl, rfl, .inl (.inl (sJ _ _ eT)), last, _, rfl, M, _, rfl, .inl (.inl (.inl eM)), rfl, flat_natV _, _, rfl, ?_⟩
      rw [in_natV]
      by_cases p80 : Poss ws 80
      · rw [decide_eq_true (show (0 : Int) ≤ 80 ∧ (80 : Int).toNat ∈ possL ws 81 from ⟨by decide, mem_possL.mpr ⟨by decide, p80⟩⟩)]
        refine iteF ⟨_, rfl, _, rfl, T, _, _, _, rfl, rfl, .inl (.inl (sJ _ _ eT)), last, ?_⟩
        refine ⟨fun m σ J1 => ∃ (b : Nat) (u v : Option V), m = b ∧ b ≤ 80 ∧ σ = [some (.ref a), some (.ref T), some (.ref M), some (.int (b : Int)), u] ∧ J1 = J ∧ ∀ n, b ≤ n → n ≤ 80 → Poss ws n, ⟨80, 80, none, none, rfl, Nat.le_refl _, rfl, rfl, fun n h1 h2 => by rw [show n = 80 by omega]; exact p80⟩, ?_⟩
        rintro m σ J1 ⟨b, u, v, rfl, b80, rfl, rfl, hb⟩
        refine ⟨_, rfl, _, _, rfl, rfl, _, rfl, M, _, rfl, .inl (.inl (.inl eM)), rfl, flat_natV _, _, rfl, ?_⟩
        rw [in_natV]
        by_cases hq : (0 : Int) ≤ (m : Int) - 1 ∧ ((m : Int) - 1).toNat ∈ possL ws 81
        · rw [decide_eq_true hq]
          refine iteT ⟨_, fun σ' H' h => h, _, rfl, _, _, rfl, rfl, ?_⟩
          refine ⟨m - 1, by omega, m - 1, u, none, rfl, by omega, ?_, rfl, fun n h1 h2 => ?_⟩
          · have : ((m : Int) - 1) = ((m - 1 : Nat) : Int) := by omega
            show [_, _, _, some (V.int ((m : Int) - 1)), _] = _
            rw [this]
          · rcases Nat.lt_or_ge n m with h | h
            · have e : ((m : Int) - 1).toNat = n := by omega
              rw [e] at hq
              exact (mem_possL.mp hq.2).2
            · exact hb n h h2
        · rw [decide_eq_false hq]
          refine iteF ?_
          refine ⟨_, rfl, M, rfl, ⟨_, .inl (.inl eM)⟩, fun N nN => lc_list (K := K) (a := M) (xs := natV (possL ws 81)) (fun i J2 => J2 N = some (.lst (natV (((possL ws 81).take i).filter fun n => decide (n < m)))) ∧ Same J1 J2)
            ⟨upd_same, same_new nN⟩ (fun i J2 _ ⟨_, s3⟩ => .inl (.inl (s3 _ _ eM))) ?_ ?_⟩
          · rintro i x J2 hi ⟨eN, s3⟩
            unfold natV at hi
            rw [List.getElem?_map] at hi
            cases hx : (possL ws 81)[i]? with
            | none =>
              rw [hx] at hi
              cases hi
            | some q =>
              rw [hx] at hi
              cases hi
              have pl := possL_len ws 81
              refine ⟨rfl, _, rfl, _, rfl, _, _, rfl, rfl, _, rfl, ?_⟩
              by_cases qm : q < m
              · rw [decide_eq_true (show (q : Int) < (m : Int) by omega)]
                refine iteT ⟨_, rfl, _, eN, small1000 ?_, ?_, same_offF s3 nN⟩
                · unfold natV
                  rw [List.length_map]
                  refine Nat.le_trans (List.length_filter_le ..) ?_
                  rw [List.length_take]
                  omega
                · rw [upd_same, takeF_next hx, List.filter_append, List.filter_cons, decide_eq_true qm]
                  unfold natV
                  rw [List.map_append]
                  rfl
              · rw [decide_eq_false (show ¬ (q : Int) < (m : Int) by omega)]
                refine iteF ⟨?_, s3⟩
                rw [eN, takeF_next hx, List.filter_append, List.filter_cons, decide_eq_false qm]
                simp only [Bool.false_eq_true, if_false, List.filter_nil, List.append_nil]
          · rintro J2 ⟨eN, s3⟩
            have ll : (natV (possL ws 81)).length = (possL ws 81).length := by
              unfold natV
              rw [List.length_map]
            rw [ll, List.take_length, possL_lt ws (show m ≤ 81 by omega)] at eN
            refine ⟨N, _, rfl, .inl ⟨.inl (.inl eN), fun S nS => ?_⟩⟩
            have sS : Same J2 (upd J2 S (.tup (natV (possL ws m)))) := same_new nS
            refine ⟨_, rfl, by show 2 ≤ sizeLine; decide, fun R nR => ?_⟩
            have sR : Same (upd J2 S (.tup (natV (possL ws m)))) (upd (upd J2 S (.tup (natV (possL ws m)))) R (.tup [.ref S, .int (m : Int)])) := same_new nR
            refine k R S (possL ws m) _ _ (s2.trans (s3.trans (sS.trans sR))) upd_same (sR _ _ upd_same) (.inr ⟨m, rfl, b80, rfl, hb, ?_⟩)
            by_cases m0 : m = 0
            · exact .inl m0
            · refine .inr fun h => hq ⟨by omega, mem_possL.mpr ⟨by omega, ?_⟩⟩
              rw [show ((m : Int) - 1).toNat = m - 1 by omega]
              exact h
      · rw [decide_eq_false (show ¬ ((0 : Int) ≤ 80 ∧ (80 : Int).toNat ∈ possL ws 81) from fun h => p80 (mem_possL.mp h.2).2)]
        refine iteT ⟨_, rfl, M, _, rfl, .inl ⟨.inl (.inl eM), fun S nS => ?_⟩⟩
        have sS : Same J (upd J S (.tup (natV (possL ws 81)))) := same_new nS
        refine ⟨by show 2 ≤ sizeLine; decide, fun R nR => ?_⟩
        have sR : Same (upd J S (.tup (natV (possL ws 81)))) (upd (upd J S (.tup (natV (possL ws 81)))) R (.tup [.ref S, .non])) := same_new nR
        exact k R S (possL ws 81) _ _ (s2.trans (sS.trans sR)) upd_same (sR _ _ upd_same) (.inl ⟨rfl, rfl, p80⟩)
/-! ### only_text, least_text -/
/-- the least text -/
def Least (ws : List VW) (v : V) : Prop := (v = .non ∧ possL ws 81 = []) ∨ ∃ n kvs y, v = .str y ∧ n ≤ 80 ∧ Poss ws n ∧ (∀ m, m < n → ¬ Poss ws m) ∧ Knows n kvs (Fits ws) ∧ y.cps.toList = wrote kvs 46 n
def spLeast (C : Addr) : Sp := fun vs H Q _ => ∃ (a : Addr) (ws : List VW), vs = [.ref a] ∧ ViewsAt C H a ws ∧ ∀ (v : V) (G : Hp), Same H G → Least ws v → Q v G
theorem possL_head {ws : List VW} {m q : Nat} {l : List Nat} (h : possL ws m = q :: l) : q < m ∧ Poss ws q ∧ ∀ k, k < q → ¬ Poss ws k := by
  have hq := mem_possL.mp (show q ∈ possL ws m by rw [h]; exact List.mem_cons_self ..)
  refine ⟨hq.1, hq.2, fun k hk hp => ?_⟩
  have mk : k ∈ possL ws m := mem_possL.mpr ⟨by omega, hp⟩
  have pw : (possL ws m).Pairwise (· < ·) := by
    unfold possL
    exact List.Pairwise.filter _ List.pairwise_lt_range
  rw [h] at mk pw
  rcases List.mem_cons.mp mk with e | e
  · omega
  · have := (List.pairwise_cons.mp pw).1 k e
    omega
theorem dot1 : (⟨#[46]⟩ : Str).cps.toList = [46] := rfl
theorem cal_least (B : Bi mg) (D : At K mg "least_text" s_least_text ps_least_text) (C_lengths : Cal P w K mg base 5 "lengths" ps_lengths (spLengths C)) (C_known_signs : Cal P w K mg base 3 "known_signs" ps_known_signs (spKnown C)) (C_written_out : Cal P w K mg base 1 "written_out" ps_written_out spWritten) : Cal P w K mg base 6 "least_text" ps_least_text (spLeast C) := by
  refine D.cal sc_least_text (fun vs H Q E h => ?_) (fun f cdv A outer s H vs Q E hr h => ?_)
  · obtain ⟨a, ws, rfl, _⟩ := h
    rfl
  · obtain ⟨a, ws, rfl, hV, k⟩ := h
    have s0 : atI signs.cps.toList 0 = some 46 := by decide +kernel
    refine ⟨_, (pss_cons (ps_asg (pe_own C_lengths hr (by decide) (by rfl) (pa_cons (pv 0) pa_nil)) (pg_tup rfl (pgs_cons (pg_name (i := 1) sc_least_text.nd rfl (.inl rfl)) (pgs_cons (pg_name (i := 2) sc_least_text.nd rfl (.inl rfl)) pgs_nil))))
      (pss_cons (ps_set (i := 3) sc_least_text.nd rfl (.inl rfl) (pe_mid (pe_ifExp (pt_truth (pv 1) (fun _ => rfl)) (pe_ix ix_tup (pv 1) pe_int (fun _ _ => rfl)) (pv 2))))
      (pss_cons (ps_if (pt_cmpR op_isN (pv 3) pe_non (nomark _)) (pss_one (ps_ret pe_non)) pss_nil)
      (pss_one (ps_ret (pe_own C_written_out hr (by decide) (by rfl) (pa_cons (pe_own C_known_signs hr (by decide) (by rfl) (pa_cons (pv 0) (pa_cons (pv 3) pa_nil))) (pa_cons (pv 3) (pa_cons (pe_ix ix_str (pe_cst B.SIGNS (by rfl)) pe_int (fun _ _ => rfl)) pa_nil))))))))), ?_⟩
    refine ⟨_, rfl, a, ws, rfl, hV, fun T S sm b G1 s1 eT eS L => ?_⟩
    refine ⟨T, _, rfl, .inl (.inl eT), rfl, _, _, rfl, _, _, rfl, rfl, ?_⟩
    -- the least length
    refine ⟨fun v J => J = G1 ∧ ((v = .non ∧ possL ws 81 = []) ∨ ∃ n : Nat, v = .int (n : Int) ∧ n ≤ 80 ∧ Poss ws n ∧ ∀ m, m < n → ¬ Poss ws m), ?_, ?_⟩
    · refine ⟨_, rfl, _, .inr (.inl ⟨_, .inl (.inl eS), rfl⟩), ?_⟩
      cases sm with
      | nil =>
        refine iteF ⟨_, rfl, rfl, ?_⟩
        rcases L with ⟨rfl, e, _⟩ | ⟨m, rfl, m80, e, hb, _⟩
        · exact .inl ⟨rfl, e.symm⟩
        · refine .inr ⟨m, rfl, m80, hb m (Nat.le_refl _) m80, fun q hq hp => ?_⟩
          have := mem_possL.mpr ⟨hq, hp⟩
          rw [← e] at this
          cases this
      | cons q l =>
        refine iteT ⟨_, rfl, S, _, _, _, rfl, rfl, .inl (.inl eS), at_of' (xs := natV (q :: l)) (j := 0) rfl rfl, rfl, .inr ⟨q, rfl, ?_⟩⟩
        rcases L with ⟨_, e, _⟩ | ⟨m, _, m80, e, _, _⟩
        · obtain ⟨h1, h2, h3⟩ := possL_head e.symm
          exact ⟨by omega, h2, h3⟩
        · obtain ⟨h1, h2, h3⟩ := possL_head e.symm
          exact ⟨by omega, h2, h3⟩
    · rintro v _ ⟨rfl, hv⟩
      refine ⟨_, rfl, rfl, _, rfl, ?_⟩
      rcases hv with ⟨rfl, e⟩ | ⟨n, rfl, n80, hp, hl⟩
      · exact iteT (k _ _ s1 (.inl ⟨rfl, e⟩))
      · refine iteF ⟨_, rfl, _, rfl, a, n, ws, rfl, hV.same s1, by omega, fun no => ?_, fun d kvs G2 nd s2 eD kn => ?_⟩
        · obtain ⟨cs, l, h⟩ := hp
          exact absurd h (no cs l)
        · refine ⟨_, rfl, signs, 0, 46, rfl, rfl, by decide +kernel, s0, d, n, 46, kvs, _, _, rfl, rfl, eD, kn, by omega, fun y G3 s3 ey => ?_⟩
          exact k _ G3 (s1.trans (s2.trans s3)) (.inr ⟨n, kvs, y, rfl, n80, hp, hl, kn, ey⟩)
/-- what only_text tells: None, or a text that fits, at a length that alone is possible up to 80, with no open place -/
def Sole (ws : List VW) (v : V) : Prop := v = .non ∨ ∃ n kvs y, v = .str y ∧ possL ws 81 = [n] ∧ ¬ Poss ws 80 ∧ Knows n kvs (Fits ws) ∧ y.cps.toList = wrote kvs 63 n ∧ 63 ∉ y.cps.toList
def spOnly (C : Addr) : Sp := fun vs H Q _ => ∃ (a : Addr) (ws : List VW), vs = [.ref a] ∧ ViewsAt C H a ws ∧ ∀ (v : V) (G : Hp), Same H G → Sole ws v → Q v G
theorem cal_only (B : Bi mg) (D : At K mg "only_text" s_only_text ps_only_text) (C_lengths : Cal P w K mg base 5 "lengths" ps_lengths (spLengths C)) (C_signs : Cal P w K mg base 5 "signs" ps_signs (spSigns C)) : Cal P w K mg base 6 "only_text" ps_only_text (spOnly C) := by
  refine D.cal sc_only_text (fun vs H Q E h => ?_) (fun f cdv A outer s H vs Q E hr h => ?_)
  · obtain ⟨a, ws, rfl, _⟩ := h
    rfl
  · obtain ⟨a, ws, rfl, hV, k⟩ := h
    refine ⟨_, (pss_cons (ps_asg (pe_own C_lengths hr (by decide) (by rfl) (pa_cons (pv 0) pa_nil)) (pg_tup rfl (pgs_cons (pg_name (i := 1) sc_only_text.nd rfl (.inl rfl)) (pgs_cons (pg_name (i := 2) sc_only_text.nd rfl (.inl rfl)) pgs_nil))))
      (pss_cons (ps_if (PW.pt (pw_or (pt_cmpR op_notN (pv 2) pe_non (nomark _)) (pw_or1 (pt_cmpR op_ne (pe_callB call_len (by rfl) B.len (by decide +kernel) (pa_cons (pv 1) pa_nil)) pe_int (nomark _))))) (pss_one (ps_ret pe_non)) pss_nil)
      (pss_cons (ps_set (i := 3) sc_only_text.nd rfl (.inl rfl) (pe_own C_signs hr (by decide) (by rfl) (pa_cons (pv 0) (pa_cons (pe_ix ix_tup (pv 1) pe_int (fun _ _ => rfl)) pa_nil))))
      (pss_one (ps_ret (pe_mid (pe_ifExp (pt_cmpR op_in_sign (pe_cst B.SEVERAL (by rfl)) (pv 3) (by rfl)) pe_non (pv 3)))))))), ?_⟩
    refine ⟨_, rfl, a, ws, rfl, hV, fun T S sm b G1 s1 eT eS L => ?_⟩
    refine ⟨T, _, rfl, .inl (.inl eT), rfl, _, _, rfl, _, _, rfl, rfl, ?_⟩
    refine ⟨_, rfl, rfl, _, rfl, ?_⟩
    rcases L with ⟨rfl, e, n80⟩ | ⟨m, rfl, _⟩
    · refine iteNS rfl ⟨_, rfl, _, _, rfl, .inr ⟨_, .inl (.inl eS), rfl⟩, rfl, _, rfl, ?_⟩
      have ll : (natV sm).length = sm.length := by
        unfold natV
        rw [List.length_map]
      rw [ll]
      by_cases h1 : sm.length = 1
      · rw [decide_eq_true (show V.int (sm.length : Int) = V.int 1 by rw [h1]; rfl)]
        obtain ⟨n, rfl⟩ := List.length_eq_one_iff.mp h1
        have hn := (possL_head e.symm).1
        refine iteF ⟨_, rfl, _, rfl, S, _, _, _, rfl, rfl, .inl (.inl eS), (rfl : atI (natV [n]) 0 = some (V.int (n : Int))), a, n, ws, rfl, hV.same s1, by omega, fun v G2 s2 hv => ?_⟩
        rcases hv with ⟨rfl, no⟩ | ⟨kvs, y, rfl, kn, ey⟩
        · obtain ⟨cs, l, h⟩ := (possL_head e.symm).2.1
          exact absurd h (no cs l)
        · refine ⟨fun v J => J = G2 ∧ Sole ws v, ?_, ?_⟩
          · refine ⟨_, rfl, 63, y, by decide +kernel, rfl, _, rfl, ?_⟩
            by_cases h63 : 63 ∈ y.cps.toList
            · rw [decide_eq_true h63]
              exact iteT ⟨rfl, .inl rfl⟩
            · rw [decide_eq_false h63]
              exact iteF ⟨_, rfl, rfl, .inr ⟨n, kvs, y, rfl, e.symm, n80, kn, ey, h63⟩⟩
          · rintro v _ ⟨rfl, hv⟩
            exact k v _ (s1.trans s2) hv
      · rw [decide_eq_false (show ¬ V.int (sm.length : Int) = V.int 1 from fun h => h1 (by have := V.int.inj h; omega))]
        exact iteT (k _ _ s1 (.inl rfl))
    · rw [decide_eq_false (fun h => by cases h)]
      exact iteT (iteT (k _ _ s1 (.inl rfl)))
end
end Gu
namespace Gu
open PySem PySem.Spec PyProof.Rows L2
/-! ### what refuses rows, lengths, texts -/
section
variable {P : Program} {w : World} {K : PySem.W.Frag} {mg : Str → Option Value} {base : Heap} {C CR CL CT : Addr}
def sp1X (K : PySem.W.Frag) (C CR : Addr) : Sp := fun vs H _ E => ∃ v spot : V, vs = [v] ∧ RowBad K C H v spot ∧ Raised CR "index" spot H E
def sp2X (K : PySem.W.Frag) (C CR : Addr) : Sp := fun vs H _ E => ∃ v u spot : V, vs = [v, u] ∧ (RowBad K C H v spot ∨ (RowOk C H v ∧ RowBad K C H u spot)) ∧ Raised CR "index" spot H E
def spLX (K : PySem.W.Frag) (C CR CL : Addr) : Sp := fun vs H _ E => ∃ v n : V, vs = [v, n] ∧ ((∃ spot, RowBad K C H v spot ∧ Raised CR "index" spot H E) ∨ (RowOk C H v ∧ NoNum K H 500 n ∧ Raised CL "value" n H E))
def spTX (K : PySem.W.Frag) (C CR CT : Addr) : Sp := fun vs H _ E => ∃ v n : V, vs = [v, n] ∧ ((∃ spot, RowBad K C H v spot ∧ Raised CR "index" spot H E) ∨ (RowOk C H v ∧ NoTxt K H 200 n ∧ Raised CT "value" n H E))
theorem cx_first_unstable (B : Bi mg) (D : At K mg "first_unstable" s_first_unstable ps_first_unstable) (CX_check_row : CalX P w K mg base 2 "check_row" ps_check_row (spRowE K C CR)) : CalX P w K mg base 3 "first_unstable" ps_first_unstable (sp1X K C CR) := by
  refine D.calX sc_first_unstable (fun vs H Q E h => ?_) (fun f cdv A outer s H vs Q E hr h => ?_)
  · obtain ⟨v, spot, rfl, _⟩ := h
    rfl
  · obtain ⟨v, spot, rfl, bad, k⟩ := h
    refine ⟨_, (pss_cons (ps_expr (pe_ownX CX_check_row hr (by decide) (takes_of rfl rfl rfl rfl) (fun _ _ _ _ h => h) (by rfl) (pa_cons (pv 0) pa_nil)))
      pss_never), ?_⟩
    exact ⟨_, rfl, v, rfl, .inr ⟨spot, bad, k⟩⟩
theorem cx_least_pair (B : Bi mg) (D : At K mg "least_pair" s_least_pair ps_least_pair) (CX_check_row : CalX P w K mg base 2 "check_row" ps_check_row (spRowE K C CR)) : CalX P w K mg base 3 "least_pair" ps_least_pair (sp1X K C CR) := by
  refine D.calX sc_least_pair (fun vs H Q E h => ?_) (fun f cdv A outer s H vs Q E hr h => ?_)
  · obtain ⟨v, spot, rfl, _⟩ := h
    rfl
  · obtain ⟨v, spot, rfl, bad, k⟩ := h
    refine ⟨_, (pss_cons (ps_expr (pe_ownX CX_check_row hr (by decide) (takes_of rfl rfl rfl rfl) (fun _ _ _ _ h => h) (by rfl) (pa_cons (pv 0) pa_nil)))
      pss_never), ?_⟩
    exact ⟨_, rfl, v, rfl, .inr ⟨spot, bad, k⟩⟩
theorem cx_first_unlike (B : Bi mg) (D : At K mg "first_unlike" s_first_unlike ps_first_unlike) (CX_check_row : CalX P w K mg base 2 "check_row" ps_check_row (spRowE K C CR)) : CalX P w K mg base 3 "first_unlike" ps_first_unlike (sp2X K C CR) := by
  refine D.calX sc_first_unlike (fun vs H Q E h => ?_) (fun f cdv A outer s H vs Q E hr h => ?_)
  · obtain ⟨v, u, spot, rfl, _⟩ := h
    rfl
  · obtain ⟨v, u, spot, rfl, bad | ⟨ok, bad⟩, k⟩ := h
    · refine ⟨_, (pss_cons (ps_expr (pe_ownX CX_check_row hr (by decide) (takes_of rfl rfl rfl rfl) (fun _ _ _ _ h => h) (by rfl) (pa_cons (pv 0) pa_nil)))
      (pss_cons (ps_expr (pe_ownX CX_check_row hr (by decide) (takes_of rfl rfl rfl rfl) (fun _ _ _ _ h => h) (by rfl) (pa_cons (pv 1) pa_nil)))
      pss_never)), ?_⟩
      exact ⟨_, rfl, v, rfl, .inr ⟨spot, bad, k⟩⟩
    · refine ⟨_, (pss_cons (ps_expr (pe_ownX CX_check_row hr (by decide) (takes_of rfl rfl rfl rfl) (fun _ _ _ _ h => h) (by rfl) (pa_cons (pv 0) pa_nil)))
      (pss_cons (ps_expr (pe_ownX CX_check_row hr (by decide) (takes_of rfl rfl rfl rfl) (fun _ _ _ _ h => h) (by rfl) (pa_cons (pv 1) pa_nil)))
      pss_never)), ?_⟩
      exact ⟨_, rfl, v, rfl, .inl ⟨ok, fun G s => ⟨_, rfl, u, rfl, .inr ⟨spot, bad.same s, k.same s⟩⟩⟩⟩
end
end Gu
namespace Gu
open PySem PySem.Spec PyProof.Rows L2
/-! ### views refused -/
/-- no row: what isinstance says of each part is known -/
def RowNo (K : PySem.W.Frag) (C : Addr) (H : Hp) (v : V) : Prop := NoTup K H 1 4 v ∨ ∃ (l : Addr) (xs : List V) (bs : List Bool), v = .ref l ∧ SqT K H l xs ∧ 1 ≤ xs.length ∧ xs.length ≤ 4 ∧ bs.length = xs.length ∧ (∀ (j : Nat) (y : V), xs[j]? = some y → ∃ b : Bool, bs[j]? = some b ∧ IsaC K H y C b) ∧ bs.all id = false
theorem RowNo.same {K : PySem.W.Frag} {C : Addr} {H G : Hp} {v : V} (s : Same H G) (h : RowNo K C H v) : RowNo K C G v := h.imp (NoTup.same s) fun ⟨l, xs, bs, e, q, l1, l4, lb, each, n⟩ => ⟨l, xs, bs, e, stE s q, l1, l4, lb, fun j y hy => by
  obtain ⟨b, h1, h2⟩ := each j y hy
  exact ⟨b, h1, h2.same s⟩, n⟩
def ViewOk (K : PySem.W.Frag) (C : Addr) (H : Hp) (v : V) : Prop := ∃ (l : Addr) (a : V) (z : Str), v = .ref l ∧ SqT K H l [a, .str z] ∧ RowOk C H a ∧ z.length ≤ 1000 ∧ isTxt z 200 = true
theorem ViewOk.same {K : PySem.W.Frag} {C : Addr} {H G : Hp} {v : V} (s : Same H G) (h : ViewOk K C H v) : ViewOk K C G v := by
  obtain ⟨l, a, z, e, q, r, b, t⟩ := h
  exact ⟨l, a, z, e, stE s q, r.same s, b, t⟩
def ViewNo (K : PySem.W.Frag) (C : Addr) (H : Hp) (v : V) : Prop := NoTup K H 2 2 v ∨ ∃ (l : Addr) (a b : V), v = .ref l ∧ SqT K H l [a, b] ∧ (RowNo K C H a ∨ (RowOk C H a ∧ NoTxt K H 200 b))
theorem ViewNo.same {K : PySem.W.Frag} {C : Addr} {H G : Hp} {v : V} (s : Same H G) (h : ViewNo K C H v) : ViewNo K C G v := h.imp (NoTup.same s) fun ⟨l, a, b, e, q, r⟩ => ⟨l, a, b, e, stE s q, r.imp (RowNo.same s) fun ⟨x, y⟩ => ⟨x.same s, y.same s⟩⟩
def ViewsOk (K : PySem.W.Frag) (C : Addr) (H : Hp) (v : V) : Prop := ∃ (l : Addr) (xs : List V), v = .ref l ∧ SqT K H l xs ∧ 1 ≤ xs.length ∧ xs.length ≤ 4 ∧ ∀ y ∈ xs, ViewOk K C H y
theorem ViewsOk.same {K : PySem.W.Frag} {C : Addr} {H G : Hp} {v : V} (s : Same H G) (h : ViewsOk K C H v) : ViewsOk K C G v := by
  obtain ⟨l, xs, e, q, l1, l4, a⟩ := h
  exact ⟨l, xs, e, stE s q, l1, l4, fun y hy => (a y hy).same s⟩
/-- no views: the place of the first wrong one, or None -/
def ViewsBad (K : PySem.W.Frag) (C : Addr) (H : Hp) (v spot : V) : Prop := (spot = .non ∧ NoTup K H 1 4 v) ∨
  ∃ (l : Addr) (xs : List V) (i : Nat) (x : V), v = .ref l ∧ SqT K H l xs ∧ 1 ≤ xs.length ∧ xs.length ≤ 4 ∧ (∀ j y, j < i → xs[j]? = some y → ViewOk K C H y) ∧ xs[i]? = some x ∧ ViewNo K C H x ∧ spot = .int (i : Int)
theorem ViewsBad.same {K : PySem.W.Frag} {C : Addr} {H G : Hp} {v spot : V} (s : Same H G) (h : ViewsBad K C H v spot) : ViewsBad K C G v spot := h.imp (And.imp id (NoTup.same s)) fun ⟨l, xs, i, x, e, q, l1, l4, b, hx, n, es⟩ => ⟨l, xs, i, x, e, stE s q, l1, l4, fun j y hj hy => (b j y hj hy).same s, hx, n.same s, es⟩
section
variable {P : Program} {w : World} {K : PySem.W.Frag} {mg : Str → Option Value} {base : Heap} {C U CV CL : Addr}
def spRowG (K : PySem.W.Frag) (C : Addr) : Sp := fun vs H Q _ => ∃ v : V, vs = [v] ∧ ((NoTup K H 1 4 v ∧ Q (.bl false) H) ∨ ∃ (l : Addr) (xs : List V) (bs : List Bool), v = .ref l ∧ SqT K H l xs ∧ 1 ≤ xs.length ∧ xs.length ≤ 4 ∧ bs.length = xs.length ∧ (∀ (j : Nat) (y : V), xs[j]? = some y → ∃ b : Bool, bs[j]? = some b ∧ IsaC K H y C b) ∧ ∀ G, Same H G → Q (.bl (bs.all id)) G)
theorem cal_rowG (B : Bi mg) (S : ShC K mg C) (D : At K mg "is_row" s_is_row ps_is_row) (C_is_tuple : Cal P w K mg base 1 "is_tuple" ps_is_tuple (spTup K)) : Cal P w K mg base 2 "is_row" ps_is_row (spRowG K C) := by
  refine D.cal sc_is_row (fun vs H Q E h => ?_) (fun f cdv A outer s H vs Q E hr h => ?_)
  · obtain ⟨v, rfl, _⟩ := h
    rfl
  · obtain ⟨v, rfl, way⟩ := h
    refine ⟨_, (pss_one (ps_ret (pe_and (pe_own C_is_tuple hr (by decide) (by rfl) (pa_cons (pv 0) (pa_cons pe_int (pa_cons (pe_cst B.MOST_ROW (by rfl)) pa_nil)))) (pe_one (pe_callB (cr_all rfl) (by rfl) B.all (by decide +kernel) (pa_cons (pe_lc (own := [("part", 1)]) (by rfl) sc_is_row.nd (pi_tup (pv 0)) (blkOk_by (own := [("part", 1)]) (N := ["value", "part"]) (sc := defScope s_is_row) (by decide +kernel)) (fun _ _ _ _ _ => pg_name (i := 1) sc_is_row.nd rfl (.inl rfl)) (fun _ _ _ _ _ => pts_nil) (fun _ _ _ _ _ => (pe_callB (id := "isinstance") (r := rIsi K) call_isi (by rfl) B.isinstance (by decide +kernel) (pa_cons (pv 1) (pa_cons (pe_glob (v := .ref C) (by rfl) S.g rfl) pa_nil))))) pa_nil)))))), ?_⟩
    refine ⟨_, rfl, _, 1, 4, rfl, ?_⟩
    rcases way with ⟨no, q⟩ | ⟨l, xs, bs, rfl, hs, l1, l4, lb, each, k⟩
    · exact .inr ⟨no, _, rfl, iteF q⟩
    · refine .inl ⟨l, xs, rfl, hs, l1, l4, _, rfl, iteT ⟨_, rfl, l, rfl, ⟨_, hs⟩, fun M nM => lc_tup (K := K) (a := l) (xs := xs) (fun i J => J M = some (.lst ((bs.take i).map V.bl)) ∧ Same H J) ⟨upd_same, same_new nM⟩ (fun i J _ ⟨_, sJ⟩ => stE sJ hs) ?_ ?_⟩⟩
      · rintro i v J hi ⟨eM, sJ⟩
        have il := (List.getElem?_eq_some_iff.mp hi).1
        obtain ⟨b, hb, t, i1, i2⟩ := each i v hi
        refine ⟨rfl, yes (iteT ⟨_, rfl, _, _, t, _, b, rfl, .own C, TyX.same sJ i1, i2, _, eM, small1000 (by rw [List.length_map, List.length_take]; omega), ?_, same_offF sJ nM⟩)⟩
        rw [upd_same, List.take_add_one, hb, List.map_append]
        rfl
      · rintro J ⟨eM, sJ⟩
        refine ⟨M, bs, rfl, .inl (.inl ?_), k J sJ⟩
        rw [eM, ← lb, List.take_length]
/-- a row, or none -/
def spRowB (K : PySem.W.Frag) (C : Addr) : Sp := fun vs H Q _ => ∃ v : V, vs = [v] ∧ ((RowOk C H v ∧ ∀ G, Same H G → Q (.bl true) G) ∨ (RowNo K C H v ∧ ∀ G, Same H G → Q (.bl false) G))
theorem rowB_of (S : ShC K mg C) (c : Cal P w K mg base 2 "is_row" ps_is_row (spRowG K C)) : Cal P w K mg base 2 "is_row" ps_is_row (spRowB K C) := c.imp fun vs H Q E ⟨v, e, h⟩ => by
  refine ⟨v, e, ?_⟩
  rcases h with ⟨⟨a, rs, rfl, row, l1, l4⟩, k⟩ | ⟨no | ⟨l, xs, bs, rfl, hs, l1, l4, lb, each, n⟩, k⟩
  · refine .inr ⟨a, _, List.replicate rs.length true, rfl, .inl (.inl row.tp), by rw [List.length_map]; exact l1, by rw [List.length_map]; exact l4, by rw [List.length_replicate, List.length_map], fun j y hy => ?_, fun G s => ?_⟩
    · have jl := (List.getElem?_eq_some_iff.mp hy).1
      rw [List.length_map] at jl
      obtain ⟨q, hq, rfl⟩ : ∃ q ∈ rs, y = .ref q.1 := by
        obtain ⟨q, h1, h2⟩ := List.mem_map.mp (List.mem_of_getElem? hy)
        exact ⟨q, h1, h2.symm⟩
      obtain ⟨⟨dx, b, ex, _⟩, _⟩ := row.sh q hq
      exact ⟨true, by rw [List.getElem?_replicate, if_pos jl], isaC_sh S ex⟩
    · rw [show (List.replicate rs.length true).all id = true by rw [List.all_eq_true]; intro b hb; exact List.eq_of_mem_replicate hb]
      exact k G s
  · exact .inl ⟨no, k H (Same.refl H)⟩
  · exact .inr ⟨l, xs, bs, rfl, hs, l1, l4, lb, each, fun G s => by rw [n]; exact k G s⟩
/-- a view, or none -/
def spViewB (K : PySem.W.Frag) (C : Addr) : Sp := fun vs H Q _ => ∃ v : V, vs = [v] ∧ ((ViewOk K C H v ∧ ∀ G, Same H G → Q (.bl true) G) ∨ (ViewNo K C H v ∧ ∀ G, Same H G → Q (.bl false) G))
theorem cal_viewB (B : Bi mg) (D : At K mg "is_view" s_is_view ps_is_view) (C_is_tuple : Cal P w K mg base 1 "is_tuple" ps_is_tuple (spTup K)) (C_is_text : Cal P w K mg base 1 "is_text" ps_is_text (spTxt K)) (C_is_row : Cal P w K mg base 2 "is_row" ps_is_row (spRowB K C)) : Cal P w K mg base 3 "is_view" ps_is_view (spViewB K C) := by
  refine D.cal sc_is_view (fun vs H Q E h => ?_) (fun f cdv A outer s H vs Q E hr h => ?_)
  · obtain ⟨v, rfl, _⟩ := h
    rfl
  · obtain ⟨v, rfl, way⟩ := h
    refine ⟨_, (pss_one (ps_ret (pe_and (pe_own C_is_tuple hr (by decide) (by rfl) (pa_cons (pv 0) (pa_cons pe_int (pa_cons pe_int pa_nil)))) (pe_and (pe_own C_is_row hr (by decide) (by rfl) (pa_cons (pe_ix ix_tup (pv 0) pe_int (fun _ _ => rfl)) pa_nil)) (pe_one (pe_own C_is_text hr (by decide) (by rfl) (pa_cons (pe_ix ix_tup (pv 0) pe_int (fun _ _ => rfl)) (pa_cons (pe_cst B.MOST_TEXT (by rfl)) pa_nil)))))))), ?_⟩
    refine ⟨_, rfl, _, 2, 2, rfl, ?_⟩
    rcases way with ⟨⟨l, a, z, rfl, hs, ro, zl, zt⟩, k⟩ | ⟨no | ⟨l, a, b, rfl, hs, way⟩, k⟩
    · refine .inl ⟨l, _, rfl, hs, by show 2 ≤ 2; decide, by show 2 ≤ 2; decide, _, rfl, iteT ⟨_, rfl, l, _, _, _, rfl, rfl, hs, (rfl : atI [a, V.str z] 0 = some a), ?_⟩⟩
      refine ⟨a, rfl, .inl ⟨ro, fun G sG => ⟨_, rfl, iteT ?_⟩⟩⟩
      refine ⟨_, rfl, l, _, _, _, rfl, rfl, stE sG hs, (rfl : atI [a, V.str z] 1 = some (V.str z)), ?_⟩
      exact ⟨_, 200, rfl, .inl ⟨z, rfl, zl, zt, fun G2 s2 => k G2 (sG.trans s2)⟩⟩
    · exact .inr ⟨no, _, rfl, iteF (k H (Same.refl H))⟩
    · refine .inl ⟨l, _, rfl, hs, by show 2 ≤ 2; decide, by show 2 ≤ 2; decide, _, rfl, iteT ⟨_, rfl, l, _, _, _, rfl, rfl, hs, (rfl : atI [a, b] 0 = some a), ?_⟩⟩
      rcases way with rn | ⟨ro, nt⟩
      · exact ⟨a, rfl, .inr ⟨rn, fun G sG => ⟨_, rfl, iteF (k G sG)⟩⟩⟩
      · refine ⟨a, rfl, .inl ⟨ro, fun G sG => ⟨_, rfl, iteT ?_⟩⟩⟩
        refine ⟨_, rfl, l, _, _, _, rfl, rfl, stE sG hs, (rfl : atI [a, b] 1 = some b), ?_⟩
        exact ⟨_, 200, rfl, .inr ⟨nt.same sG, fun G2 s2 => k G2 (sG.trans s2)⟩⟩
def spViewsE (K : PySem.W.Frag) (C CV : Addr) : Sp := fun vs H Q E => ∃ v : V, vs = [v] ∧ ((ViewsOk K C H v ∧ ∀ G, Same H G → Q .non G) ∨ ∃ spot, ViewsBad K C H v spot ∧ Raised CV "index" spot H E)
theorem cal_viewsE (B : Bi mg) (D : At K mg "check_views" s_check_views ps_check_views) (T_InvalidViews : ErrK K mg bVE U "InvalidViews" CV) (S_InvalidViews : ErrF K "InvalidViews" "index" CV) (C_is_tuple : Cal P w K mg base 1 "is_tuple" ps_is_tuple (spTup K)) (C_is_view : Cal P w K mg base 3 "is_view" ps_is_view (spViewB K C)) : CalX P w K mg base 4 "check_views" ps_check_views (spViewsE K C CV) := by
  refine D.calX sc_check_views (fun vs H Q E h => ?_) (fun f cdv A outer s H vs Q E hr h => ?_)
  · obtain ⟨v, rfl, _⟩ := h
    rfl
  · obtain ⟨v, rfl, way⟩ := h
    refine ⟨_, (pss_cons (ps_if (pt_not (pt_val (pe_own C_is_tuple hr (by decide) (by rfl) (pa_cons (pv 0) (pa_cons pe_int (pa_cons (pe_cst B.MOST_VIEWS (by rfl)) pa_nil)))))) (pss_one (ps_raiseE T_InvalidViews S_InvalidViews rfl hr (takes_of rfl rfl rfl rfl) (pa_cons pe_non pa_nil) (by rfl))) pss_nil)
      (pss_one (ps_for (passes_of rfl) rfl (pi_enT (by rfl) B.enumerate (pa_cons (pv 0) pa_nil)) (pg_tup rfl (pgs_cons (pg_name (i := 1) sc_check_views.nd rfl (.inl rfl)) (pgs_cons (pg_name (i := 2) sc_check_views.nd rfl (.inl rfl)) pgs_nil)))
      (pss_one (ps_if (pt_not (pt_val (pe_own C_is_view hr (by decide) (by rfl) (pa_cons (pv 2) pa_nil)))) (pss_one (ps_raiseE T_InvalidViews S_InvalidViews rfl hr (takes_of rfl rfl rfl rfl) (pa_cons (pv 1) pa_nil) (by rfl))) pss_nil))))), ?_⟩
    rcases way with ⟨⟨a, xs, rfl, hs, l1, l4, all⟩, k⟩ | ⟨spot, ⟨rfl, no⟩ | ⟨l, xs, i, x, rfl, hs, l1, l4, before, hx, bad, rfl⟩, k⟩
    · refine ⟨_, rfl, _, 1, 4, rfl, .inl ⟨a, _, rfl, hs, l1, l4, _, rfl, iteF ?_⟩⟩
      refine ⟨_, rfl, a, _, rfl, hs, for_it walk_enT (fun i σ J => ∃ u v, σ = [some (.ref a), u, v] ∧ Same H J) ⟨none, none, rfl, Same.refl H⟩ (fun i σ J _ ⟨_, _, _, sJ⟩ => stE sJ hs) ?_ ?_⟩
      · rintro i x σ J J1 hi ⟨u, v2, rfl, sJ⟩ ⟨T, z, hz, rfl, nT, rfl⟩
        have sT : Same H (upd J T (.tup [.int (i : Nat), z])) := sJ.trans (same_new nT)
        exact ⟨T, _, rfl, .inl (.inl upd_same), rfl, _, _, rfl, _, _, rfl, rfl, _, rfl, z, rfl, .inl ⟨(all z (List.mem_of_getElem? hz)).same sT, fun G sG => ⟨_, rfl, iteF ⟨_, _, rfl, sT.trans sG⟩⟩⟩⟩
      · rintro σ J ⟨u, v, rfl, sJ⟩
        exact k J sJ
    · exact ⟨_, rfl, v, 1, 4, rfl, .inr ⟨no, _, rfl, iteT ⟨_, rfl, fun d nd => k d _ (same_new nd) upd_same⟩⟩⟩
    · refine ⟨_, rfl, _, 1, 4, rfl, .inl ⟨l, _, rfl, hs, l1, l4, _, rfl, iteF ?_⟩⟩
      refine ⟨_, rfl, l, _, rfl, hs, for_it walk_enT (fun j σ J => ∃ u v, σ = [some (.ref l), u, v] ∧ Same H J ∧ j ≤ i) ⟨none, none, rfl, Same.refl H, Nat.zero_le _⟩ (fun i σ J _ ⟨_, _, _, sJ, _⟩ => stE sJ hs) ?_ ?_⟩
      · rintro j y σ J J1 hj ⟨u, v2, rfl, sJ, ji⟩ ⟨T, z, hz, rfl, nT, rfl⟩
        have sT : Same H (upd J T (.tup [.int (j : Nat), z])) := sJ.trans (same_new nT)
        refine ⟨T, _, rfl, .inl (.inl upd_same), rfl, _, _, rfl, _, _, rfl, rfl, ?_⟩
        rcases Nat.lt_or_ge j i with lt | ge
        · exact ⟨_, rfl, z, rfl, .inl ⟨(before j z lt hz).same sT, fun G sG => ⟨_, rfl, iteF ⟨_, _, rfl, sT.trans sG, lt⟩⟩⟩⟩
        · have ej : j = i := by omega
          subst ej
          rw [hx] at hz
          cases hz
          exact ⟨_, rfl, x, rfl, .inr ⟨bad.same sT, fun G sG => ⟨_, rfl, iteT ⟨_, rfl, _, rfl, fun d nd => k d _ ((sT.trans sG).trans (same_new nd)) upd_same⟩⟩⟩⟩
      · rintro σ J ⟨u, v, rfl, sJ, ji⟩
        have := (List.getElem?_eq_some_iff.mp hx).1
        omega
end
end Gu
namespace Gu
open PySem PySem.Spec PyProof.Rows L2
/-! ### what refuses views -/
section
variable {P : Program} {w : World} {K : PySem.W.Frag} {mg : Str → Option Value} {base : Heap} {C CV CL : Addr}
def sp1V (K : PySem.W.Frag) (C CV : Addr) : Sp := fun vs H _ E => ∃ v spot : V, vs = [v] ∧ ViewsBad K C H v spot ∧ Raised CV "index" spot H E
def spLV (K : PySem.W.Frag) (C CV CL : Addr) : Sp := fun vs H _ E => ∃ v n : V, vs = [v, n] ∧ ((∃ spot, ViewsBad K C H v spot ∧ Raised CV "index" spot H E) ∨ (ViewsOk K C H v ∧ NoNum K H 500 n ∧ Raised CL "value" n H E))
theorem cv_lengths (B : Bi mg) (D : At K mg "lengths" s_lengths ps_lengths) (CX_check_views : CalX P w K mg base 4 "check_views" ps_check_views (spViewsE K C CV)) : CalX P w K mg base 5 "lengths" ps_lengths (sp1V K C CV) := by
  refine D.calX sc_lengths (fun vs H Q E h => ?_) (fun f cdv A outer s H vs Q E hr h => ?_)
  · obtain ⟨v, spot, rfl, _⟩ := h
    rfl
  · obtain ⟨v, spot, rfl, bad, k⟩ := h
    refine ⟨_, (pss_cons (ps_expr (pe_ownX CX_check_views hr (by decide) (takes_of rfl rfl rfl rfl) (fun _ _ _ _ h => h) (by rfl) (pa_cons (pv 0) pa_nil)))
      pss_never), ?_⟩
    exact ⟨_, rfl, v, rfl, .inr ⟨spot, bad, k⟩⟩
theorem cv_least_text (B : Bi mg) (D : At K mg "least_text" s_least_text ps_least_text) (CX_lengths : CalX P w K mg base 5 "lengths" ps_lengths (sp1V K C CV)) : CalX P w K mg base 6 "least_text" ps_least_text (sp1V K C CV) := by
  refine D.calX sc_least_text (fun vs H Q E h => ?_) (fun f cdv A outer s H vs Q E hr h => ?_)
  · obtain ⟨v, spot, rfl, _⟩ := h
    rfl
  · obtain ⟨v, spot, rfl, bad, k⟩ := h
    refine ⟨_, (pss_cons (ps_asg (pe_ownX CX_lengths hr (by decide) (takes_of rfl rfl rfl rfl) (fun _ _ _ _ h => h) (by rfl) (pa_cons (pv 0) pa_nil)) (pg_tup rfl (pgs_cons (pg_name (i := 1) sc_least_text.nd rfl (.inl rfl)) (pgs_cons (pg_name (i := 2) sc_least_text.nd rfl (.inl rfl)) pgs_nil))))
      pss_never), ?_⟩
    exact ⟨_, rfl, v, spot, rfl, bad, k⟩
theorem cv_only_text (B : Bi mg) (D : At K mg "only_text" s_only_text ps_only_text) (CX_lengths : CalX P w K mg base 5 "lengths" ps_lengths (sp1V K C CV)) : CalX P w K mg base 6 "only_text" ps_only_text (sp1V K C CV) := by
  refine D.calX sc_only_text (fun vs H Q E h => ?_) (fun f cdv A outer s H vs Q E hr h => ?_)
  · obtain ⟨v, spot, rfl, _⟩ := h
    rfl
  · obtain ⟨v, spot, rfl, bad, k⟩ := h
    refine ⟨_, (pss_cons (ps_asg (pe_ownX CX_lengths hr (by decide) (takes_of rfl rfl rfl rfl) (fun _ _ _ _ h => h) (by rfl) (pa_cons (pv 0) pa_nil)) (pg_tup rfl (pgs_cons (pg_name (i := 1) sc_only_text.nd rfl (.inl rfl)) (pgs_cons (pg_name (i := 2) sc_only_text.nd rfl (.inl rfl)) pgs_nil))))
      pss_never), ?_⟩
    exact ⟨_, rfl, v, spot, rfl, bad, k⟩
theorem cv_signs (B : Bi mg) (D : At K mg "signs" s_signs ps_signs) (CX_check_views : CalX P w K mg base 4 "check_views" ps_check_views (spViewsE K C CV)) (CX_check_length : CalX P w K mg base 2 "check_length" ps_check_length (spLenE K CL)) : CalX P w K mg base 5 "signs" ps_signs (spLV K C CV CL) := by
  refine D.calX sc_signs (fun vs H Q E h => ?_) (fun f cdv A outer s H vs Q E hr h => ?_)
  · obtain ⟨v, u, rfl, _⟩ := h
    rfl
  · obtain ⟨v, u, rfl, ⟨spot, bad, k⟩ | ⟨ok, bad, k⟩⟩ := h
    · refine ⟨_, (pss_cons (ps_expr (pe_ownX CX_check_views hr (by decide) (takes_of rfl rfl rfl rfl) (fun _ _ _ _ h => h) (by rfl) (pa_cons (pv 0) pa_nil)))
      (pss_cons (ps_expr (pe_ownX CX_check_length hr (by decide) (takes_of rfl rfl rfl rfl) (fun _ _ _ _ h => h) (by rfl) (pa_cons (pv 1) pa_nil)))
      pss_never)), ?_⟩
      exact ⟨_, rfl, v, rfl, .inr ⟨spot, bad, k⟩⟩
    · refine ⟨_, (pss_cons (ps_expr (pe_ownX CX_check_views hr (by decide) (takes_of rfl rfl rfl rfl) (fun _ _ _ _ h => h) (by rfl) (pa_cons (pv 0) pa_nil)))
      (pss_cons (ps_expr (pe_ownX CX_check_length hr (by decide) (takes_of rfl rfl rfl rfl) (fun _ _ _ _ h => h) (by rfl) (pa_cons (pv 1) pa_nil)))
      pss_never)), ?_⟩
      exact ⟨_, rfl, v, rfl, .inl ⟨ok, fun G s => ⟨_, rfl, u, rfl, bad.same s, k.same s⟩⟩⟩
end
end Gu
namespace Gu
open PySem PySem.Spec PyProof.Rows L2
/-! ### certificates and reports refused -/
section
variable {P : Program} {w : World} {K : PySem.W.Frag} {mg : Str → Option Value} {base : Heap} {C U CR CL CT CV : Addr}
/-- a text, or none -/
def spTextB (K : PySem.W.Frag) (CT : Addr) : Sp := fun vs H Q E => ∃ v : V, vs = [v] ∧ ((∃ z : Str, v = .str z ∧ z.length ≤ 1000 ∧ isTxt z 200 = true ∧ ∀ G, Same H G → Q .non G) ∨ (NoTxt K H 200 v ∧ Raised CT "value" v H E))
theorem cal_textB (B : Bi mg) (D : At K mg "check_text" s_check_text ps_check_text) (T_InvalidText : ErrK K mg bVE U "InvalidText" CT) (S_InvalidText : ErrF K "InvalidText" "value" CT) (C_is_text : Cal P w K mg base 1 "is_text" ps_is_text (spTxt K)) : CalX P w K mg base 2 "check_text" ps_check_text (spTextB K CT) := by
  refine D.calX sc_check_text (fun vs H Q E h => ?_) (fun f cdv A outer s H vs Q E hr h => ?_)
  · obtain ⟨v, rfl, _⟩ := h
    rfl
  · obtain ⟨v, rfl, ⟨z, rfl, zl, zt, k⟩ | ⟨no, k⟩⟩ := h
    · refine ⟨_, (pss_one (ps_if (pt_not (pt_val (pe_own C_is_text hr (by decide) (by rfl) (pa_cons (pv 0) (pa_cons (pe_cst B.MOST_TEXT (by rfl)) pa_nil))))) (pss_one (ps_raiseE T_InvalidText S_InvalidText rfl hr (takes_of rfl rfl rfl rfl) (pa_cons (pv 0) pa_nil) (by rfl))) pss_nil)), ?_⟩
      exact ⟨_, rfl, _, 200, rfl, .inl ⟨z, rfl, zl, zt, fun G s => ⟨_, rfl, iteF (k G s)⟩⟩⟩
    · refine ⟨_, (pss_one (ps_if (pt_not (pt_val (pe_own C_is_text hr (by decide) (by rfl) (pa_cons (pv 0) (pa_cons (pe_cst B.MOST_TEXT (by rfl)) pa_nil))))) (pss_one (ps_raiseE T_InvalidText S_InvalidText rfl hr (takes_of rfl rfl rfl rfl) (pa_cons (pv 0) pa_nil) (by rfl))) pss_nil)), ?_⟩
      exact ⟨_, rfl, v, 200, rfl, .inr ⟨no, fun G s => ⟨_, rfl, iteT ⟨_, rfl, v, rfl, fun d nd => k d _ (s.trans (same_new nd)) upd_same⟩⟩⟩⟩
theorem cw_certify_alike (B : Bi mg) (D : At K mg "certify_alike" s_certify_alike ps_certify_alike) (CX_first_unlike : CalX P w K mg base 3 "first_unlike" ps_first_unlike (sp2X K C CR)) : CalX P w K mg base 4 "certify_alike" ps_certify_alike (sp2X K C CR) := by
  refine D.calX sc_certify_alike (fun vs H Q E h => ?_) (fun f cdv A outer s H vs Q E hr h => ?_)
  · obtain ⟨v, u, spot, rfl, _⟩ := h
    rfl
  · obtain ⟨v, u, spot, rfl, bad, k⟩ := h
    refine ⟨_, (pss_cons (ps_set (i := 2) sc_certify_alike.nd rfl (.inl rfl) (pe_ownX CX_first_unlike hr (by decide) (takes_of rfl rfl rfl rfl) (fun _ _ _ _ h => h) (by rfl) (pa_cons (pv 0) (pa_cons (pv 1) pa_nil))))
      pss_never), ?_⟩
    exact ⟨_, rfl, _, rfl, v, u, spot, rfl, bad, k⟩
theorem cw_certify_stable (B : Bi mg) (D : At K mg "certify_stable" s_certify_stable ps_certify_stable) (CX_first_unstable : CalX P w K mg base 3 "first_unstable" ps_first_unstable (sp1X K C CR)) : CalX P w K mg base 4 "certify_stable" ps_certify_stable (sp1X K C CR) := by
  refine D.calX sc_certify_stable (fun vs H Q E h => ?_) (fun f cdv A outer s H vs Q E hr h => ?_)
  · obtain ⟨v, spot, rfl, _⟩ := h
    rfl
  · obtain ⟨v, spot, rfl, bad, k⟩ := h
    refine ⟨_, (pss_cons (ps_set (i := 1) sc_certify_stable.nd rfl (.inl rfl) (pe_ownX CX_first_unstable hr (by decide) (takes_of rfl rfl rfl rfl) (fun _ _ _ _ h => h) (by rfl) (pa_cons (pv 0) pa_nil)))
      pss_never), ?_⟩
    exact ⟨_, rfl, v, spot, rfl, bad, k⟩
theorem cw_certify_confused (B : Bi mg) (D : At K mg "certify_confused" s_certify_confused ps_certify_confused) (CX_least_pair : CalX P w K mg base 3 "least_pair" ps_least_pair (sp1X K C CR)) : CalX P w K mg base 4 "certify_confused" ps_certify_confused (sp1X K C CR) := by
  refine D.calX sc_certify_confused (fun vs H Q E h => ?_) (fun f cdv A outer s H vs Q E hr h => ?_)
  · obtain ⟨v, spot, rfl, _⟩ := h
    rfl
  · obtain ⟨v, spot, rfl, bad, k⟩ := h
    refine ⟨_, (pss_cons (ps_set (i := 1) sc_certify_confused.nd rfl (.inl rfl) (pe_ownX CX_least_pair hr (by decide) (takes_of rfl rfl rfl rfl) (fun _ _ _ _ h => h) (by rfl) (pa_cons (pv 0) pa_nil)))
      pss_never), ?_⟩
    exact ⟨_, rfl, v, spot, rfl, bad, k⟩
def spPX (K : PySem.W.Frag) (C CR CT CL : Addr) : Sp := fun vs H _ E => ∃ v t n : V, vs = [v, t, n] ∧ ((∃ spot, RowBad K C H v spot ∧ Raised CR "index" spot H E) ∨ (RowOk C H v ∧ NoTxt K H 200 t ∧ Raised CT "value" t H E) ∨ (RowOk C H v ∧ (∃ z : Str, t = .str z ∧ z.length ≤ 1000 ∧ isTxt z 200 = true) ∧ NoNum K H 500 n ∧ Raised CL "value" n H E))
theorem cw_certify_possible (B : Bi mg) (D : At K mg "certify_possible" s_certify_possible ps_certify_possible) (CX_check_row : CalX P w K mg base 2 "check_row" ps_check_row (spRowE K C CR)) (CX_check_text : CalX P w K mg base 2 "check_text" ps_check_text (spTextB K CT)) (CX_check_length : CalX P w K mg base 2 "check_length" ps_check_length (spLenE K CL)) : CalX P w K mg base 4 "certify_possible" ps_certify_possible (spPX K C CR CT CL) := by
  refine D.calX sc_certify_possible (fun vs H Q E h => ?_) (fun f cdv A outer s H vs Q E hr h => ?_)
  · obtain ⟨v, t, n, rfl, _⟩ := h
    rfl
  · obtain ⟨v, t, n, rfl, ⟨spot, bad, k⟩ | ⟨ok, bad, k⟩ | ⟨ok, ⟨z, rfl, zl, zt⟩, bad, k⟩⟩ := h
    · refine ⟨_, (pss_cons (ps_expr (pe_ownX CX_check_row hr (by decide) (takes_of rfl rfl rfl rfl) (fun _ _ _ _ h => h) (by rfl) (pa_cons (pv 0) pa_nil)))
      (pss_cons (ps_expr (pe_ownX CX_check_text hr (by decide) (takes_of rfl rfl rfl rfl) (fun _ _ _ _ h => h) (by rfl) (pa_cons (pv 1) pa_nil)))
      (pss_cons (ps_expr (pe_ownX CX_check_length hr (by decide) (takes_of rfl rfl rfl rfl) (fun _ _ _ _ h => h) (by rfl) (pa_cons (pv 2) pa_nil)))
      pss_never))), ?_⟩
      exact ⟨_, rfl, v, rfl, .inr ⟨spot, bad, k⟩⟩
    · refine ⟨_, (pss_cons (ps_expr (pe_ownX CX_check_row hr (by decide) (takes_of rfl rfl rfl rfl) (fun _ _ _ _ h => h) (by rfl) (pa_cons (pv 0) pa_nil)))
      (pss_cons (ps_expr (pe_ownX CX_check_text hr (by decide) (takes_of rfl rfl rfl rfl) (fun _ _ _ _ h => h) (by rfl) (pa_cons (pv 1) pa_nil)))
      (pss_cons (ps_expr (pe_ownX CX_check_length hr (by decide) (takes_of rfl rfl rfl rfl) (fun _ _ _ _ h => h) (by rfl) (pa_cons (pv 2) pa_nil)))
      pss_never))), ?_⟩
      exact ⟨_, rfl, v, rfl, .inl ⟨ok, fun G s => ⟨_, rfl, t, rfl, .inr ⟨bad.same s, k.same s⟩⟩⟩⟩
    · refine ⟨_, (pss_cons (ps_expr (pe_ownX CX_check_row hr (by decide) (takes_of rfl rfl rfl rfl) (fun _ _ _ _ h => h) (by rfl) (pa_cons (pv 0) pa_nil)))
      (pss_cons (ps_expr (pe_ownX CX_check_text hr (by decide) (takes_of rfl rfl rfl rfl) (fun _ _ _ _ h => h) (by rfl) (pa_cons (pv 1) pa_nil)))
      (pss_cons (ps_expr (pe_ownX CX_check_length hr (by decide) (takes_of rfl rfl rfl rfl) (fun _ _ _ _ h => h) (by rfl) (pa_cons (pv 2) pa_nil)))
      pss_never))), ?_⟩
      exact ⟨_, rfl, v, rfl, .inl ⟨ok, fun G s => ⟨_, rfl, _, rfl, .inl ⟨z, rfl, zl, zt, fun G2 s2 => ⟨_, rfl, n, rfl, bad.same (s.trans s2), k.same (s.trans s2)⟩⟩⟩⟩⟩
def spPT (K : PySem.W.Frag) (C CR CL : Addr) : Sp := fun vs H _ E => ∃ v n : V, vs = [v, n] ∧ ((∃ spot, RowBad K C H v spot ∧ Raised CR "index" spot H E) ∨ (RowOk C H v ∧ NoNum K H 100 n ∧ Raised CL "value" n H E))
theorem cw_plan_table (B : Bi mg) (D : At K mg "plan_table" s_plan_table ps_plan_table) (T_InvalidLength : ErrK K mg bVE U "InvalidLength" CL) (S_InvalidLength : ErrF K "InvalidLength" "value" CL) (C_is_integer : Cal P w K mg base 1 "is_integer" ps_is_integer (spNum K)) (CX_check_row : CalX P w K mg base 2 "check_row" ps_check_row (spRowE K C CR)) : CalX P w K mg base 3 "plan_table" ps_plan_table (spPT K C CR CL) := by
  refine D.calX sc_plan_table (fun vs H Q E h => ?_) (fun f cdv A outer s H vs Q E hr h => ?_)
  · obtain ⟨v, n, rfl, _⟩ := h
    rfl
  · obtain ⟨v, n, rfl, ⟨spot, bad, k⟩ | ⟨ok, bad, k⟩⟩ := h
    · refine ⟨_, (pss_cons (ps_expr (pe_ownX CX_check_row hr (by decide) (takes_of rfl rfl rfl rfl) (fun _ _ _ _ h => h) (by rfl) (pa_cons (pv 0) pa_nil)))
      (pss_cons (ps_if (pt_not (pt_val (pe_own C_is_integer hr (by decide) (by rfl) (pa_cons (pv 1) (pa_cons pe_int (pa_cons (pe_cst B.MOST_TABLED (by rfl)) pa_nil)))))) (pss_one (ps_raiseE T_InvalidLength S_InvalidLength rfl hr (takes_of rfl rfl rfl rfl) (pa_cons (pv 1) pa_nil) (by rfl))) pss_nil)
      pss_never)), ?_⟩
      exact ⟨_, rfl, v, rfl, .inr ⟨spot, bad, k⟩⟩
    · refine ⟨_, (pss_cons (ps_expr (pe_ownX CX_check_row hr (by decide) (takes_of rfl rfl rfl rfl) (fun _ _ _ _ h => h) (by rfl) (pa_cons (pv 0) pa_nil)))
      (pss_cons (ps_if (pt_not (pt_val (pe_own C_is_integer hr (by decide) (by rfl) (pa_cons (pv 1) (pa_cons pe_int (pa_cons (pe_cst B.MOST_TABLED (by rfl)) pa_nil)))))) (pss_one (ps_raiseE T_InvalidLength S_InvalidLength rfl hr (takes_of rfl rfl rfl rfl) (pa_cons (pv 1) pa_nil) (by rfl))) pss_nil)
      pss_never)), ?_⟩
      exact ⟨_, rfl, v, rfl, .inl ⟨ok, fun G s => ⟨_, rfl, n, 100, rfl, .inr ⟨bad.same s, _, rfl, iteT ⟨_, rfl, n, rfl, fun d nd => k d _ (s.trans (same_new nd)) upd_same⟩⟩⟩⟩⟩
theorem cw_view_report (B : Bi mg) (D : At K mg "view_report" s_view_report ps_view_report) (CX_lengths : CalX P w K mg base 5 "lengths" ps_lengths (sp1V K C CV)) : CalX P w K mg base 6 "view_report" ps_view_report (sp1V K C CV) := by
  refine D.calX sc_view_report (fun vs H Q E h => ?_) (fun f cdv A outer s H vs Q E hr h => ?_)
  · obtain ⟨v, spot, rfl, _⟩ := h
    rfl
  · obtain ⟨v, spot, rfl, bad, k⟩ := h
    refine ⟨_, (pss_cons (ps_asg (pe_ownX CX_lengths hr (by decide) (takes_of rfl rfl rfl rfl) (fun _ _ _ _ h => h) (by rfl) (pa_cons (pv 0) pa_nil)) (pg_tup rfl (pgs_cons (pg_name (i := 1) sc_view_report.nd rfl (.inl rfl)) (pgs_cons (pg_name (i := 2) sc_view_report.nd rfl (.inl rfl)) pgs_nil))))
      pss_never), ?_⟩
    exact ⟨_, rfl, v, spot, rfl, bad, k⟩
end
end Gu
namespace Gu
open PySem PySem.Spec PyProof.Rows L2 LamX
theorem KeepP.sh {p x C : Addr} {H G : Hp} {r : Rec} (h : ShAt C H x r) (hp : Pot H p) (k : KeepP p H G) : ShAt C G x r := by
  obtain ⟨dx, b, h1, h2⟩ := h
  exact ⟨dx, b, k.ins hp h1, k.tup hp h2⟩
section
variable {T : List (Addr × Str)} {p : Addr}
/-- f(lambda: what surely raises) -/
theorem lam_raise {hs : List (Str × Str × Addr)} {H : Hp} {C : Addr} {N Fl : Str} {v : V} {t : XK → TE} {σ : L2.St} {Q : VK} (m : (N, Fl, C) ∈ hs) (L : LadT T p H H) (k : ∀ q J, LadT T p H J → J q = some (.lst [.str N, v, .bl true]) → Q (.ref q) J)
    (go : ∀ (E : XK) (H1 : Hp), LadT T p H H1 → Raised C Fl v H1 E → t E σ H1 fun _ _ => False) : tLam T (TEnd hs) t σ H Q := by
  refine ⟨L.tabs, fun H1 e1 t1 => ?_⟩
  have L1 : LadT T p H H1 := L.ext e1 t1
  refine ⟨fun cls d G => ∃ dd : Addr, cls = .ref C ∧ d = some dd ∧ LadT T p H G ∧ G dd = some (.xd [(Fl, v)]), fun _ _ => False, go _ H1 L1 fun d G s e => ⟨d, rfl, rfl, L1.same s, e⟩, fun cls d G ⟨dd, h1, h3, h4, h5⟩ => ⟨N, Fl, C, dd, v, m, h1, h3, h5, fun q J s e => k q J (h4.same s) e⟩, fun _ _ z => z.elim⟩
end
end Gu
namespace Gu
open PySem PySem.Spec PyProof.Rows L2 LamX
/-! ### what is seen, by itself -/
abbrev one05 : Rec := ⟨3, 2, 1, ("~" : String)⟩
theorem one05_fit : one05.fit := ⟨⟨by decide, by decide⟩, ⟨by decide, by decide⟩, ⟨by decide, by decide⟩, by decide +kernel⟩
theorem a201 {y : Str} (h : y.cps.toList = (List.replicate (201 : Int).toNat ("a" : Str).cps.toList).flatten) : y = ⟨(List.replicate 201 97).toArray⟩ := str_ext (by rw [h]; decide +kernel)
theorem a200 {y : Str} (h : y.cps.toList = (List.replicate (200 : Int).toNat ("a" : Str).cps.toList).flatten) : y = ⟨(List.replicate 200 97).toArray⟩ := str_ext (by rw [h]; decide +kernel)
theorem pot_neL {H : Hp} {p q : Addr} {xs : List V} (h : Pot H p) (e : H q = some (.lst xs)) (l : xs.length ≠ 3) : q ≠ p := fun y => by
  obtain ⟨a, b, c, f⟩ := h
  rw [← y, e] at f
  cases f
  exact l rfl
theorem pot_neR {H : Hp} {p q r : Addr} {xs : List V} (h : Pot H p) (e : H q = some (.lst (.ref r :: xs))) : q ≠ p := fun y => by
  obtain ⟨a, b, c, f⟩ := h
  rw [← y, e] at f
  cases f
def SpotOk (v : V) : Prop := v = .non ∨ ∃ n : Nat, n < 3 ∧ v = .int (n : Int)
/-- a pair of something wrong, and of the place that is due -/
def BadP (R : Hp → V → V → Prop) (p : Addr) (H : Hp) (t : Addr) : Prop := ∃ v spot : V, H t = some (.tup [v, spot]) ∧ SpotOk spot ∧ ∀ J, KeepP p H J → R J v spot
theorem BadP.keep {R : Hp → V → V → Prop} {p t : Addr} {H G : Hp} (h : BadP R p H t) (hp : Pot H p) (k : KeepP p H G) : BadP R p G t := by
  obtain ⟨v, spot, e, o, b⟩ := h
  exact ⟨v, spot, k.tup hp e, o, fun J kp => b J (k.trans kp)⟩
theorem spot_thing {K : PySem.W.Frag} {p : Addr} {H : Hp} {v : V} (h : SpotOk v) : ∃ d, Thing K p H v d fun _ _ => True := by
  rcases h with rfl | ⟨n, h, rfl⟩
  · exact th_non fun _ => trivial
  · exact th_int (by omega) fun _ => trivial
theorem bef1 {P : V → Prop} {a b : V} {l : List V} (h : P a) : ∀ j y, j < 1 → (a :: b :: l)[j]? = some y → P y := fun j y hj hy => by
  obtain rfl : j = 0 := by omega
  cases hy
  exact h
theorem bef2 {P : V → Prop} {a b : V} {l : List V} (h : P a) (g : P b) : ∀ j y, j < 2 → (a :: b :: l)[j]? = some y → P y := fun j y hj hy => by
  match j, hj with
  | 0, _ => cases hy; exact h
  | 1, _ => cases hy; exact g
theorem row1_ok {C a x : Addr} {J : Hp} (e : J a = some (.tup [.ref x])) (h : ShAt C J x one05) : RowOk C J (.ref a) := ⟨a, [(x, one05)], rfl, ⟨e, fun q hq => by
  rw [List.mem_singleton.mp hq]
  exact ⟨h, one05_fit⟩⟩, by show 1 ≤ 1; decide, by show 1 ≤ 4; decide⟩
theorem row1_at {C a x : Addr} {J : Hp} {r : Rec} (e : J a = some (.tup [.ref x])) (h : ShAt C J x r) (f : r.fit) : RowAt C J a [(x, r)] := ⟨e, fun q hq => by
  rw [List.mem_singleton.mp hq]
  exact ⟨h, f⟩⟩
structure One (T : List (Addr × Str)) (p : Addr) (G J : Hp) (S : Addr) (us : List (Str × V)) : Prop where
  lad : LadT T p G J
  fs : S ≠ p ∧ ∀ o, G S = some o → ∃ ps, o = .tbl ps
  seen : ∃ qs : List (Addr × Str × V), qs.map (·.2) = us ∧ SeenAt p J S qs
section
variable {T : List (Addr × Str)} {p S : Addr} {G J I : Hp} {us : List (Str × V)}
theorem One.kp (h : One T p G J S us) : KeepP p G J := h.lad.kp
theorem One.first {q : Addr} {N : Str} {v : V} (L : LadT T p G J) (nS : J S = none) (e : J q = some (.lst [.str N, v, .bl true])) : One T p G (upd J S (.lst [.ref q])) S [(N, v)] := ⟨L.same (same_new nS), L.free nS, _, rfl, SeenAt.first L.pot nS e⟩
theorem One.none (L : LadT T p G J) (nS : J S = none) : One T p G (upd J S (.lst [])) S [] := ⟨L.same (same_new nS), L.free nS, [], rfl, SeenAt.none L.pot nS⟩
theorem One.keep (h : One T p G J S us) (L : LadT T p J I) : One T p G I S us := by
  obtain ⟨q1, a1, b1⟩ := h.seen
  exact ⟨h.lad.trans L, h.fs, q1, a1, b1.keep h.lad.pot L.kp⟩
theorem One.same (h : One T p G J S us) (s : Same J I) : One T p G I S us := h.keep ((LadT.refl h.lad.pot h.lad.tabs h.lad.sys).same s)
theorem One.lsS (h : One T p G J S us) : ∃ xs : List V, J S = some (.lst xs) ∧ xs.length = us.length := by
  obtain ⟨q1, a1, b1⟩ := h.seen
  exact ⟨_, b1.ls, by rw [List.length_map, ← a1, List.length_map]⟩
theorem seenOne_ne {J : Hp} {S q : Addr} {N : Str} {ys : List V} {qs : List (Addr × Str × V)} (hS : J S = some (.lst (qs.map fun q => V.ref q.1))) (e : J q = some (.lst (.str N :: ys))) : q ≠ S := fun z => by
  rw [z, hS] at e
  cases qs with
  | nil => cases e
  | cons a l => cases e
theorem One.say (h : One T p G J S us) {q : Addr} {N : Str} {v : V} {xs : List V} (e : J q = some (.lst [.str N, v, .bl true])) (ex : J S = some (.lst xs)) : One T p G (upd J S (.lst (xs ++ [.ref q]))) S (us ++ [(N, v)]) := by
  obtain ⟨q1, a1, b1⟩ := h.seen
  cases ex.symm.trans b1.ls
  exact ⟨h.lad.mut h.fs ex, h.fs, _, by rw [List.map_append, a1]; rfl, b1.more e (seenOne_ne b1.ls e)⟩
theorem One.data {K : PySem.W.Frag} (h : One T p G J S us) {ds : List PyData} (all : DpEs K J (us.map (·.2)) ds) : DpE K J (.ref S) (.list ((us.zip ds).map fun x => said x.1.1 x.2)) := by
  obtain ⟨q1, a1, b1⟩ := h.seen
  subst a1
  have z := seen_data b1 (ds := ds) (by rw [List.map_map] at all; exact all)
  have e : (q1.zip ds).map (fun x => PyData.list [.str x.1.2.1, x.2, .bool true]) = ((q1.map (·.2)).zip ds).map fun x => said x.1.1 x.2 := by
    rw [List.zip_map_left, List.map_map]
    rfl
  rw [← e]
  exact z
end
end Gu
namespace Gu
open PySem PySem.Spec PyProof.Rows L2 LamX
theorem kit_tyR {K : PySem.W.Frag} {C : Addr} {b : Bool} (h : PySem.W.mroIn K C (.type "tuple") = some b) : PySem.W.kitOne K (.ref C) (.type "tuple") = some b := by
  unfold PySem.W.kitOne
  rw [if_neg (fun z => by have y := eq_of_beq z; cases y)]
  show (if PySem.W.kitMeta "tuple" = true then PySem.W.mroIn K C (.type "tuple") else none) = some b
  rw [if_pos (by decide +kernel)]
  exact h
theorem isa_insT {K : PySem.W.Frag} {mg : Str → Option Value} {C : Addr} (S : ShC K mg C) (Z : ShX K C) {H : Hp} {x dx : Addr} {fs : List (Str × V)} (e : H x = some (.ins C dx fs)) : Isa K H (.ref x) "tuple" false := ⟨_, .base (.ins e S.cl S.ha S.hn S.ht S.hm), kit_tyR Z.nt⟩
end Gu
namespace Gu
open PySem PySem.Spec PyProof.Rows L2
/-! ### reports: plans written out -/
/-- an f-string's parts -/
def tFs (ts : List TE) : TE := fun σ H Q => tJs ts Str.empty σ H fun out G => Q (.str out) G
theorem pe_fs {X : Cx} {v1 v2 : Expr} {rest : List Expr} {ts : List TE} {pos : Pos} (h : PJ X (v1 :: v2 :: rest) ts) : PE X (.JoinedStr (v1 :: v2 :: rest) pos) (tFs ts) := pe_joined h
def nm (i : Int) : Str := toString i
theorem empty_app (y : Str) : Str.empty ++ y = y := str_ext (by
  rw [app_cps]
  rfl)
theorem nm_len {i : Int} (h : i.natAbs < 2 ^ 70) : (nm i).length ≤ 71 := by
  have l : i.natAbs.log2 < 70 := PySem.Flt.log2_lt_of (by decide) h
  have e := int_text_length_le (a := i) (k := 70) (by decide) l
  show (Str.ofString (toString i)).length ≤ 71
  rw [PySem.ofString_length]
  omega
theorem nm_log {i : Int} (h : i.natAbs < 2 ^ 70) : i.natAbs.log2 < 1920 := Nat.lt_of_lt_of_le (PySem.Flt.log2_lt_of (k := 70) (by decide) h) (by decide)
def partS : V → Str
  | .int i => ("<" : Str) ++ nm i ++ (">" : Str)
  | .str s => s
  | _ => Str.empty
theorem app_lenR (a b : Str) : (a ++ b).length = a.length + b.length := by
  show (a ++ b).cps.toList.length = a.cps.toList.length + b.cps.toList.length
  rw [app_cps, List.length_append]
theorem part_len {n : Nat} {x : V} (hn : n ≤ 500) (h : Plain n x) : (partS x).length ≤ 80 := by
  rcases h with ⟨i, rfl, h0, h1⟩ | ⟨c, rfl, _⟩
  · have a := nm_len (i := i) (by omega)
    have e1 : (("<" : String) : Str).length = 1 := by decide +kernel
    have e2 : ((">" : String) : Str).length = 1 := by decide +kernel
    show (("<" : Str) ++ nm i ++ (">" : Str)).length ≤ 80
    rw [app_lenR, app_lenR]
    omega
  · show 1 ≤ 80
    decide
theorem sum_le {ys : List Str} {b : Nat} (h : ∀ y ∈ ys, y.length ≤ b) : (ys.map (·.length)).sum ≤ ys.length * b := by
  induction ys with
  | nil => exact Nat.zero_le _
  | cons y ys ih =>
    have a := h y (List.mem_cons_self ..)
    have c := ih fun z hz => h z (List.mem_cons_of_mem _ hz)
    rw [List.map_cons, List.sum_cons, List.length_cons, Nat.succ_mul]
    omega
theorem tjoin_len {sep : Str} {ys : List Str} {b : Nat} (h : ∀ y ∈ ys, y.length ≤ b) : (Txt.join sep ys).length ≤ ys.length * (b + sep.length) := by
  have j := StrLaws.join_length_le sep ys
  have q : Txt.join sep ys = Str.join sep ys := StrLaws.glued_eq_join _ _
  rw [q]
  have a := sum_le h
  rw [Nat.mul_add]
  omega
def wpS (xs : List V) : Str := Txt.join "" (xs.map partS)
theorem wp_len {n : Nat} {xs : List V} (hn : n ≤ 500) (h : ∀ x ∈ xs, Plain n x) (l : xs.length ≤ 600) : (wpS xs).length ≤ 48000 := by
  have a : ∀ y ∈ xs.map partS, y.length ≤ 80 := fun y hy => by
    obtain ⟨x, hx, rfl⟩ := List.mem_map.mp hy
    exact part_len hn (h x hx)
  have b := tjoin_len (sep := "") a
  have e0 : (("" : String) : Str).length = 0 := by decide +kernel
  rw [e0, List.length_map] at b
  unfold wpS
  omega
def lineS (rs : List Rec) (n : Nat) : Str := nm (n : Int) ++ (": " : Str) ++ wpS (planV rs n)
theorem line_lenS {rs : List Rec} (hf : ∀ r ∈ rs, r.fit) {n : Nat} (hn : n ≤ 500) : (lineS rs n).length ≤ 48100 := by
  have a := nm_len (i := (n : Int)) (by omega)
  have e1 : ((": " : String) : Str).length = 2 := by decide +kernel
  have b := wp_len (n := n) (xs := planV rs n) hn (plan_plain hf) (Nat.le_trans (plan_len hf hn) (by decide))
  unfold lineS
  rw [app_lenR, app_lenR]
  omega
def tableS (rs : List Rec) (m : Nat) : Str := Txt.join "\n" ((List.range m).map (lineS rs))
theorem bigS {n : Nat} (h : n ≤ 10000000) : n ≤ sizeLine := Nat.le_trans h (by decide)
section
variable {P : Program} {w : World} {K : PySem.W.Frag} {mg : Str → Option Value} {base : Heap} {C : Addr}
def spWPlan (K : PySem.W.Frag) : Sp := fun vs H Q _ => ∃ (a : Addr) (xs : List V) (n : Nat), vs = [.ref a] ∧ SqT K H a xs ∧ n ≤ 500 ∧ (∀ x ∈ xs, Plain n x) ∧ xs.length ≤ 600 ∧ ∀ G, Same H G → Q (.str (wpS xs)) G
theorem cal_wplan (B : Bi mg) (D : At K mg "written_plan" s_written_plan ps_written_plan) : Cal P w K mg base 1 "written_plan" ps_written_plan (spWPlan K) := by
  refine D.cal sc_written_plan (fun vs H Q E h => ?_) (fun f cdv A outer s H vs Q E hr h => ?_)
  · obtain ⟨a, xs, n, rfl, _⟩ := h
    rfl
  · obtain ⟨a, xs, n, rfl, ha, hn, hp, xl, k⟩ := h
    have e1 : Str.empty ++ (("<" : String) : Str) = ("<" : Str) := empty_app _
    have l1 : (("<" : String) : Str).length = 1 := by decide +kernel
    have l2 : ((">" : String) : Str).length = 1 := by decide +kernel
    refine ⟨_, (pss_one (ps_ret (pe_join pe_str (pe_lc (own := [("source", 1)]) (by rfl) sc_written_plan.nd (pi_tup (pv 0)) (blkOk_by (own := [("source", 1)]) (N := ["sources", "source"]) (sc := defScope s_written_plan) (by decide +kernel)) (fun _ _ _ _ _ => pg_name (i := 1) sc_written_plan.nd rfl (.inl rfl)) (fun _ _ _ _ _ => pts_nil) (fun _ _ _ _ _ => (pe_mid (pe_ifExp (pt_val (pe_callB (id := "isinstance") (r := rIsi K) call_isi (by rfl) B.isinstance (by decide +kernel) (pa_cons (pv 1) (pa_cons (pe_bltn (v := .ty "int") (by rfl) B.int (by decide +kernel) rfl) pa_nil)))) (pe_joined (.cons pe_str (.cons (pe_fmt (pv 1)) (.cons pe_str .nil)))) (pv 1)))))))), ?_⟩
    refine ⟨⟨_, rfl⟩, _, rfl, a, rfl, ⟨_, ha⟩, fun M nM => lc_tup (K := K) (a := a) (xs := xs) (fun i J => J M = some (.lst (((xs.take i).map partS).map V.str)) ∧ Same H J)
      ⟨upd_same, same_new nM⟩ (fun i J _ ⟨_, sJ⟩ => stF_same sJ ha) ?_ ?_⟩
    · rintro i x J hi ⟨eM, sJ⟩
      refine ⟨rfl, yes (iteT ⟨fun v J1 => v = .str (partS x) ∧ J1 = J, ?_, ?_⟩)⟩
      · rcases hp x (List.mem_of_getElem? hi) with ⟨j, rfl, j0, j1⟩ | ⟨c, rfl, _⟩
        · obtain ⟨t, i1, i2⟩ := Isa.int_int (K := K) (H := J) (i := j)
          have jl := nm_len (i := j) (by omega)
          refine ⟨_, rfl, _, _, t, _, true, rfl, .ty _, i1, i2, _, rfl, iteT ?_⟩
          refine ⟨_, rfl, by rw [e1]; exact bigS (by omega), _, rfl, .inr ⟨j, rfl, nm_log (by omega), _, rfl, ?_, _, rfl, ?_, ?_, rfl⟩⟩
          · show (Str.empty ++ ("<" : Str) ++ nm j).length ≤ sizeLine
            rw [e1, app_lenR]
            exact bigS (by omega)
          · show (Str.empty ++ ("<" : Str) ++ nm j ++ (">" : Str)).length ≤ sizeLine
            rw [e1, app_lenR, app_lenR]
            exact bigS (by omega)
          · show V.str (Str.empty ++ ("<" : Str) ++ nm j ++ (">" : Str)) = _
            rw [e1]
            rfl
        · obtain ⟨t, i1, i2⟩ := Isa.str_int (K := K) (H := J) (z := one c)
          exact ⟨_, rfl, _, _, t, _, false, rfl, .ty _, i1, i2, _, rfl, iteF ⟨_, rfl, rfl, rfl⟩⟩
      · rintro _ _ ⟨rfl, rfl⟩
        refine ⟨_, eM, small1000 ?_, ?_, same_offF sJ nM⟩
        · rw [List.length_map, List.length_map, List.length_take]
          omega
        · rw [upd_same, takeF_next hi, List.map_append, List.map_append]
          rfl
    · rintro J ⟨eM, sJ⟩
      rw [List.take_length] at eM
      refine ⟨_, M, _, rfl, rfl, .inl (.inl (.inl eM)), ?_, k J sJ⟩
      have a := sum_le (ys := xs.map partS) (b := 80) fun y hy => by
        obtain ⟨x, hx, rfl⟩ := List.mem_map.mp hy
        exact part_len hn (hp x hx)
      have e0 : (("" : String) : Str).length = 0 := by decide +kernel
      rw [e0]
      rw [List.length_map] at a
      omega
def spPTable (C : Addr) : Sp := fun vs H Q _ => ∃ (a : Addr) (m : Nat) (rs : List (Addr × Rec)), vs = [.ref a, .int (m : Int)] ∧ RowAt C H a rs ∧ 1 ≤ rs.length ∧ rs.length ≤ 4 ∧ m ≤ 100 ∧ ∀ G, Same H G → Q (.str (tableS (rs.map (·.2)) (m + 1))) G
theorem cal_ptable (B : Bi mg) (D : At K mg "plan_table" s_plan_table ps_plan_table) (C_check_row : Cal P w K mg base 2 "check_row" ps_check_row (spCheckRow C)) (C_is_integer : Cal P w K mg base 1 "is_integer" ps_is_integer (spIsInteger K)) (C_planned : Cal P w K mg base 2 "planned" ps_planned (spPlanned C)) (C_written_plan : Cal P w K mg base 1 "written_plan" ps_written_plan (spWPlan K)) : Cal P w K mg base 3 "plan_table" ps_plan_table (spPTable C) := by
  refine D.cal sc_plan_table (fun vs H Q E h => ?_) (fun f cdv A outer s H vs Q E hr h => ?_)
  · obtain ⟨a, m, rs, rfl, _⟩ := h
    rfl
  · obtain ⟨a, m, rs, rfl, hR, l1, l4, hm, k⟩ := h
    have hf := hR.fits
    refine ⟨_, (pss_cons (ps_expr (pe_own C_check_row hr (by decide) (by rfl) (pa_cons (pv 0) pa_nil)))
      (pss_cons (ps_if (pt_not (pt_val (pe_own C_is_integer hr (by decide) (by rfl) (pa_cons (pv 1) (pa_cons pe_int (pa_cons (pe_cst B.MOST_TABLED (by rfl)) pa_nil)))))) pss_never pss_nil)
      (pss_one (ps_ret (pe_join pe_str (pe_lc (own := [("length", 2)]) (by rfl) sc_plan_table.nd (pi_range1 (by rfl) B.range (pa_cons (pe_op op_add (pv 1) pe_int) pa_nil)) (blkOk_by (own := [("length", 2)]) (N := ["row", "most", "length"]) (sc := defScope s_plan_table) (by decide +kernel)) (fun _ _ _ _ _ => pg_name (i := 2) sc_plan_table.nd rfl (.inl rfl)) (fun _ _ _ _ _ => pts_nil) (fun _ _ _ _ _ => (pe_fs (.cons (pe_fmt (pv 2)) (.cons pe_str (.cons (pe_fmt (pe_own C_written_plan hr (by decide) (by rfl) (pa_cons (pe_own C_planned hr (by decide) (by rfl) (pa_cons (pv 0) (pa_cons (pv 2) pa_nil))) pa_nil))) .nil))))))))))), ?_⟩
    obtain ⟨rr, hrr⟩ : ∃ rr : List Rec, rr = rs.map (·.2) := ⟨_, rfl⟩
    rw [← hrr] at k hf
    refine ⟨_, rfl, a, rs, rfl, hR, l1, l4, fun G1 s1 => ?_⟩
    refine ⟨_, rfl, _, _, _, rfl, .inl ⟨_, rfl, _, rfl, ?_⟩⟩
    rw [decide_eq_true (show (0 : Int) ≤ (m : Int) ∧ (m : Int) ≤ 100 by omega)]
    have e2 : ((": " : String) : Str).length = 2 := by decide +kernel
    refine iteF ⟨⟨_, rfl⟩, _, rfl, _, _, rfl, rfl, _, rfl, by omega, by omega, fun M nM => lc_range (lo := 0) (n := ((m : Int) + 1).toNat) (fun i J => J M = some (.lst (((List.range i).map (lineS rr)).map V.str)) ∧ Same G1 J) ⟨upd_same, same_new nM⟩ ?_ ?_⟩
    · rintro i J hi ⟨eM, sJ⟩
      have i100 : i ≤ 100 := by omega
      have nl := nm_len (i := (i : Int)) (by omega)
      refine ⟨rfl, yes (iteT ?_)⟩
      rw [Int.zero_add]
      refine ⟨_, rfl, .inr ⟨(i : Int), rfl, nm_log (by omega), _, rfl, ?_, _, rfl, ?_, ?_⟩⟩
      · show (Str.empty ++ nm (i : Int)).length ≤ sizeLine
        rw [empty_app]
        exact bigS (by omega)
      · show (Str.empty ++ nm (i : Int) ++ (": " : Str)).length ≤ sizeLine
        rw [empty_app, app_lenR]
        exact bigS (by omega)
      refine ⟨_, rfl, _, rfl, a, i, rs, rfl, hR.same (s1.trans sJ), by omega, fun U G sG eU => ?_⟩
      rw [← hrr] at eU
      have pp : ∀ x ∈ planV rr i, Plain i x := plan_plain hf
      have pl := plan_len hf (n := i) (by omega)
      refine ⟨U, planV rr i, i, rfl, .inl (.inl eU), by omega, pp, Nat.le_trans pl (by decide), fun G2 s2 => .inl ⟨_, rfl, ?_, _, rfl, ?_, _, s2 _ _ (sG _ _ eM), small1000 ?_, ?_, same_offF (sJ.trans (sG.trans s2)) nM⟩⟩
      · exact bigS (Nat.le_trans (wp_len (n := i) (by omega) pp (Nat.le_trans pl (by decide))) (by decide))
      · show (Str.empty ++ nm (i : Int) ++ (": " : Str) ++ wpS (planV rr i)).length ≤ sizeLine
        rw [empty_app]
        exact bigS (Nat.le_trans (line_lenS hf (n := i) (by omega)) (by decide))
      · rw [List.length_map, List.length_map, List.length_range]
        omega
      · rw [upd_same, List.range_succ, List.map_append, List.map_append]
        show some (HO.lst (_ ++ [V.str (Str.empty ++ nm (i : Int) ++ (": " : Str) ++ wpS (planV rr i))])) = _
        rw [empty_app]
        rfl
    · rintro J ⟨eM, sJ⟩
      have e3 : ((m : Int) + 1).toNat = m + 1 := by omega
      rw [e3] at eM
      refine ⟨_, M, _, rfl, rfl, .inl (.inl (.inl eM)), ?_, k J (s1.trans sJ)⟩
      have a := sum_le (ys := (List.range (m + 1)).map (lineS rr)) (b := 48100) fun y hy => by
        obtain ⟨n, hn, rfl⟩ := List.mem_map.mp hy
        have := List.mem_range.mp hn
        exact line_lenS hf (by omega)
      have e0 : (("\n" : String) : Str).length = 1 := by decide +kernel
      rw [e0]
      rw [List.length_map, List.length_range] at a
      rw [List.length_map, List.length_range]
      have : (m + 1) * 48100 ≤ 101 * 48100 := Nat.mul_le_mul_right _ (by omega)
      omega
end
end Gu
namespace Gu
open PySem PySem.Spec PyProof.Rows L2 LamX
abbrev lamQ_law_right : Str := (envOfC "_law_right" (defScope s_law_right) 0 0 .none).qual ++ "<lambda>"
def spRightT (T : List (Addr × Str)) : Sp := fun vs H Q _ => ∃ (p : Addr), vs = [.ref p] ∧ Pot H p ∧ Tabs T H ∧ Sys H ∧ ∀ G, LadT T p H G → Q (.bl true) G
theorem table_size : (tableS [one05] 101).length + 2 ≤ sizeLine := by
  have a : (Txt.join "\n" ((List.range 101).map (lineS [one05]))).length ≤ ((List.range 101).map (lineS [one05])).length * (48100 + (("\n" : String) : Str).length) := tjoin_len fun y hy => by
    obtain ⟨n, hn, rfl⟩ := List.mem_map.mp hy
    have := List.mem_range.mp hn
    exact line_lenS (fun r hr => by rw [List.mem_singleton.mp hr]; exact one05_fit) (by omega)
  have e0 : (("\n" : String) : Str).length = 1 := by decide +kernel
  rw [e0, List.length_map, List.length_range] at a
  have b : (tableS [one05] 101).length ≤ 101 * 48101 := a
  exact bigS (by omega)
theorem table_lines : (Txt.split (tableS [one05] 101) "\n").length = 101 := by
  unfold tableS
  rw [TL.split_join (s := 10) (S := []) (by decide +kernel) (by decide +kernel) (by decide) fun z hz => ?_]
  · rw [List.length_map, List.length_range]
  · obtain ⟨n, hn, rfl⟩ := List.mem_map.mp hz
    have a : ∀ n ∈ List.range 101, ((lineS [one05] n).cps.toList.all fun c => decide (c ≠ 10)) = true := by decide +kernel
    have b := a n hn
    rw [List.all_eq_true] at b
    exact fun h => of_decide_eq_true (b _ h) rfl
section
variable {P : Program} {w : World} {K : PySem.W.Frag} {mg : Str → Option Value} {base : Heap} {C U CL CR CT CV c PT : Addr}
set_option maxHeartbeats 8000000 in
theorem cal_right (B : Bi mg) (SC : ShC K mg C) (Xs : ShX K C) (D : AtC K mg "_law_right" s_law_right ps_law_right c) (TB : TabB base mg c PT) (A_ended : At K mg "_law_ended" s_law_ended ps_law_ended) (UI : UpK K mg bVE "InputError" U) (T0 : ErrK K mg bVE U "InvalidLength" CL) (S0 : ErrF K "InvalidLength" "value" CL) (T1 : ErrK K mg bVE U "InvalidRow" CR) (S1 : ErrF K "InvalidRow" "index" CR) (T2 : ErrK K mg bVE U "InvalidText" CT) (S2 : ErrF K "InvalidText" "value" CT) (T3 : ErrK K mg bVE U "InvalidViews" CV) (S3 : ErrF K "InvalidViews" "index" CV)
    (C_law_one_of : Cal P w K mg base 2 "_law_one_of" ps_law_one_of (spOneOf K)) (M_sh : Mak P w K mg base 3 "Shortener" C (spInit C))
    (CX_certify_alike : CalX P w K mg base 4 "certify_alike" ps_certify_alike (sp2X K C CR)) (CX_certify_stable : CalX P w K mg base 4 "certify_stable" ps_certify_stable (sp1X K C CR)) (CX_certify_confused : CalX P w K mg base 4 "certify_confused" ps_certify_confused (sp1X K C CR)) (CX_certify_possible : CalX P w K mg base 4 "certify_possible" ps_certify_possible (spPX K C CR CT CL)) (CX_plan_table : CalX P w K mg base 3 "plan_table" ps_plan_table (spPT K C CR CL)) (CX_view_report : CalX P w K mg base 6 "view_report" ps_view_report (sp1V K C CV))
    (C_plan_table : Cal P w K mg base 3 "plan_table" ps_plan_table (spPTable C)) : CalG P w K mg base 10 "_law_right" ps_law_right (spRightT [(PT, lamQ_law_right)]) := by
  have mL : (("InvalidLength" : Str), ("value" : Str), CL) ∈ [(("InvalidLength" : Str), ("value" : Str), CL), (("InvalidRow" : Str), ("index" : Str), CR), (("InvalidText" : Str), ("value" : Str), CT), (("InvalidViews" : Str), ("index" : Str), CV)] := by simp
  have mR : (("InvalidRow" : Str), ("index" : Str), CR) ∈ [(("InvalidLength" : Str), ("value" : Str), CL), (("InvalidRow" : Str), ("index" : Str), CR), (("InvalidText" : Str), ("value" : Str), CT), (("InvalidViews" : Str), ("index" : Str), CV)] := by simp
  have mT : (("InvalidText" : Str), ("value" : Str), CT) ∈ [(("InvalidLength" : Str), ("value" : Str), CL), (("InvalidRow" : Str), ("index" : Str), CR), (("InvalidText" : Str), ("value" : Str), CT), (("InvalidViews" : Str), ("index" : Str), CV)] := by simp
  have mV : (("InvalidViews" : Str), ("index" : Str), CV) ∈ [(("InvalidLength" : Str), ("value" : Str), CL), (("InvalidRow" : Str), ("index" : Str), CR), (("InvalidText" : Str), ("value" : Str), CT), (("InvalidViews" : Str), ("index" : Str), CV)] := by simp
  refine D.calG sc_law_right (fun vs H Q E h => ?_) (fun f A outer s H vs Q E hr quiet h => ?_)
  · obtain ⟨p, rfl, _⟩ := h
    rfl
  · obtain ⟨p, rfl, hp, hT, hY, k⟩ := h
    refine ⟨_, (pss_cons (ps_set (i := 1) sc_law_right.nd rfl (.inr rfl) (pe_new M_sh hr (by decide) (by rfl) (pa_cons pe_int (pa_cons pe_int (pa_cons pe_int (pa_cons pe_str pa_nil))))))
      (pss_cons (ps_set (i := 2) sc_law_right.nd rfl (.inl rfl) (pe_lst (pa_cons (pe_tup (pa_cons pe_non (pa_cons pe_non pa_nil))) (pa_cons (pe_tup (pa_cons (pe_tup pa_nil) (pa_cons pe_non pa_nil))) (pa_cons (pe_tup (pa_cons (pe_lst (pa_cons (pv 1) pa_nil)) (pa_cons pe_non pa_nil))) (pa_cons (pe_tup (pa_cons (pe_op op_repT (pe_tup (pa_cons (pv 1) pa_nil)) pe_int) (pa_cons pe_non pa_nil))) (pa_cons (pe_tup (pa_cons (pe_tup (pa_cons (pv 1) (pa_cons pe_non pa_nil))) (pa_cons pe_int pa_nil))) (pa_cons (pe_tup (pa_cons (pe_tup (pa_cons pe_int (pa_cons (pv 1) pa_nil))) (pa_cons pe_int pa_nil))) pa_nil))))))))
      (pss_cons (ps_asg (pe_tup (pa_cons (pe_own C_law_one_of hr (by decide) (by rfl) (pa_cons (pv 0) (pa_cons (pv 2) pa_nil))) (pa_cons (pe_own C_law_one_of hr (by decide) (by rfl) (pa_cons (pv 0) (pa_cons (pv 2) pa_nil))) pa_nil))) (pg_tup rfl (pgs_cons (pg_tup rfl (pgs_cons (pg_name (i := 3) sc_law_right.nd rfl (.inr rfl)) (pgs_cons (pg_name (i := 4) sc_law_right.nd rfl (.inl rfl)) pgs_nil))) (pgs_cons (pg_tup rfl (pgs_cons (pg_name (i := 5) sc_law_right.nd rfl (.inr rfl)) (pgs_cons (pg_name (i := 6) sc_law_right.nd rfl (.inl rfl)) pgs_nil))) pgs_nil))))
      (pss_cons (ps_set (i := 7) sc_law_right.nd rfl (.inr rfl) (pe_own C_law_one_of hr (by decide) (by rfl) (pa_cons (pv 0) (pa_cons (pe_lst (pa_cons pe_non (pa_cons pe_str (pa_cons pe_str (pa_cons (pe_op op_mul_strN pe_str pe_int) (pa_cons pe_int (pa_cons (pe_tup (pa_cons pe_str pa_nil)) (pa_cons pe_bl (pa_cons pe_dnewK pa_nil))))))))) pa_nil))))
      (pss_cons (ps_set (i := 8) sc_law_right.nd rfl (.inr rfl) (pe_own C_law_one_of hr (by decide) (by rfl) (pa_cons (pv 0) (pa_cons (pe_lst (pa_cons pe_non (pa_cons (pe_un un_neg pe_int) (pa_cons pe_int (pa_cons pe_bl (pa_cons pe_str (pa_cons (pe_tup (pa_cons pe_int pa_nil)) (pa_cons (pe_lst pa_nil) (pa_cons (pe_op op_pow pe_int pe_int) pa_nil))))))))) pa_nil))))
      (pss_cons (ps_set (i := 9) sc_law_right.nd rfl (.inr rfl) (pe_own C_law_one_of hr (by decide) (by rfl) (pa_cons (pv 0) (pa_cons (pe_lst (pa_cons pe_non (pa_cons (pe_un un_neg pe_int) (pa_cons pe_int (pa_cons pe_bl (pa_cons pe_str (pa_cons (pe_tup (pa_cons pe_int pa_nil)) (pa_cons (pe_lst pa_nil) (pa_cons (pe_op op_pow pe_int pe_int) pa_nil))))))))) pa_nil))))
      (pss_cons (ps_set (i := 10) sc_law_right.nd rfl (.inr rfl) (pe_own C_law_one_of hr (by decide) (by rfl) (pa_cons (pv 0) (pa_cons (pe_lst (pa_cons (pe_tup (pa_cons pe_non (pa_cons pe_non pa_nil))) (pa_cons (pe_tup (pa_cons (pe_tup pa_nil) (pa_cons pe_non pa_nil))) (pa_cons (pe_tup (pa_cons (pe_tup (pa_cons (pe_tup (pa_cons (pe_tup (pa_cons (pv 1) pa_nil)) (pa_cons pe_str pa_nil))) pa_nil)) (pa_cons pe_int pa_nil))) (pa_cons (pe_tup (pa_cons (pe_tup (pa_cons (pe_tup pa_nil) (pa_cons pe_str pa_nil))) (pa_cons pe_int pa_nil))) (pa_cons (pe_tup (pa_cons pe_str (pa_cons pe_non pa_nil))) pa_nil)))))) pa_nil))))
      (C8.pss_cut (ps_set (i := 11) sc_law_right.nd rfl (.inl rfl) (pe_lst (pa_cons (pe_lamE A_ended sc_law_ended (fun g cdv => ended_gives B UI T0 S0 T1 S1 T2 S2 T3 S3) TB hr (by decide) (by rfl) rfl (.inl rfl) rfl (List.mem_singleton.mpr rfl) (fun p hp _ => by rw [List.mem_singleton.mp hp]; rfl) (lamS_by (sc := defScope s_law_right) (by decide +kernel)) rfl (fun _ _ _ _ _ => rfl) (k := 6) (T := [(PT, lamQ_law_right)]) (fun A2 outer2 s2 H2 E2 f2 c2 hr => (pe_ownX CX_certify_alike hr (by decide) (takes_of rfl rfl rfl rfl) (fun _ _ _ _ h => h) (by rfl) (pa_cons (pv 3) (pa_cons (pv 5) pa_nil))))) pa_nil)))
      (C8.pss_cut (ps_expr (pe_bm PySem.F.plainAttrs_list PySem.F.slot_list_append PySem.F.type_list_append mt_append (pv 11) (pa_cons (pe_lamE A_ended sc_law_ended (fun g cdv => ended_gives B UI T0 S0 T1 S1 T2 S2 T3 S3) TB hr (by decide) (by rfl) rfl (.inl rfl) rfl (List.mem_singleton.mpr rfl) (fun p hp _ => by rw [List.mem_singleton.mp hp]; rfl) (lamS_by (sc := defScope s_law_right) (by decide +kernel)) rfl (fun _ _ _ _ _ => rfl) (k := 6) (T := [(PT, lamQ_law_right)]) (fun A2 outer2 s2 H2 E2 f2 c2 hr => (pe_ownX CX_certify_alike hr (by decide) (takes_of rfl rfl rfl rfl) (fun _ _ _ _ h => h) (by rfl) (pa_cons (pe_tup (pa_cons (pv 1) pa_nil)) (pa_cons (pv 5) pa_nil))))) pa_nil)))
      (C8.pss_cut (ps_expr (pe_bm PySem.F.plainAttrs_list PySem.F.slot_list_append PySem.F.type_list_append mt_append (pv 11) (pa_cons (pe_lamE A_ended sc_law_ended (fun g cdv => ended_gives B UI T0 S0 T1 S1 T2 S2 T3 S3) TB hr (by decide) (by rfl) rfl (.inl rfl) rfl (List.mem_singleton.mpr rfl) (fun p hp _ => by rw [List.mem_singleton.mp hp]; rfl) (lamS_by (sc := defScope s_law_right) (by decide +kernel)) rfl (fun _ _ _ _ _ => rfl) (k := 6) (T := [(PT, lamQ_law_right)]) (fun A2 outer2 s2 H2 E2 f2 c2 hr => (pe_ownX CX_certify_stable hr (by decide) (takes_of rfl rfl rfl rfl) (fun _ _ _ _ h => h) (by rfl) (pa_cons (pv 3) pa_nil)))) pa_nil)))
      (C8.pss_cut (ps_expr (pe_bm PySem.F.plainAttrs_list PySem.F.slot_list_append PySem.F.type_list_append mt_append (pv 11) (pa_cons (pe_lamE A_ended sc_law_ended (fun g cdv => ended_gives B UI T0 S0 T1 S1 T2 S2 T3 S3) TB hr (by decide) (by rfl) rfl (.inl rfl) rfl (List.mem_singleton.mpr rfl) (fun p hp _ => by rw [List.mem_singleton.mp hp]; rfl) (lamS_by (sc := defScope s_law_right) (by decide +kernel)) rfl (fun _ _ _ _ _ => rfl) (k := 6) (T := [(PT, lamQ_law_right)]) (fun A2 outer2 s2 H2 E2 f2 c2 hr => (pe_ownX CX_certify_confused hr (by decide) (takes_of rfl rfl rfl rfl) (fun _ _ _ _ h => h) (by rfl) (pa_cons (pv 3) pa_nil)))) pa_nil)))
      (C8.pss_cut (ps_expr (pe_bm PySem.F.plainAttrs_list PySem.F.slot_list_append PySem.F.type_list_append mt_append (pv 11) (pa_cons (pe_lamE A_ended sc_law_ended (fun g cdv => ended_gives B UI T0 S0 T1 S1 T2 S2 T3 S3) TB hr (by decide) (by rfl) rfl (.inl rfl) rfl (List.mem_singleton.mpr rfl) (fun p hp _ => by rw [List.mem_singleton.mp hp]; rfl) (lamS_by (sc := defScope s_law_right) (by decide +kernel)) rfl (fun _ _ _ _ _ => rfl) (k := 6) (T := [(PT, lamQ_law_right)]) (fun A2 outer2 s2 H2 E2 f2 c2 hr => (pe_ownX CX_certify_possible hr (by decide) (takes_of rfl rfl rfl rfl) (fun _ _ _ _ h => h) (by rfl) (pa_cons (pv 3) (pa_cons (pv 7) (pa_cons (pv 8) pa_nil)))))) pa_nil)))
      (C8.pss_cut (ps_expr (pe_bm PySem.F.plainAttrs_list PySem.F.slot_list_append PySem.F.type_list_append mt_append (pv 11) (pa_cons (pe_lamE A_ended sc_law_ended (fun g cdv => ended_gives B UI T0 S0 T1 S1 T2 S2 T3 S3) TB hr (by decide) (by rfl) rfl (.inl rfl) rfl (List.mem_singleton.mpr rfl) (fun p hp _ => by rw [List.mem_singleton.mp hp]; rfl) (lamS_by (sc := defScope s_law_right) (by decide +kernel)) rfl (fun _ _ _ _ _ => rfl) (k := 6) (T := [(PT, lamQ_law_right)]) (fun A2 outer2 s2 H2 E2 f2 c2 hr => (pe_ownX CX_certify_possible hr (by decide) (takes_of rfl rfl rfl rfl) (fun _ _ _ _ h => h) (by rfl) (pa_cons (pe_tup (pa_cons (pv 1) pa_nil)) (pa_cons (pv 7) (pa_cons (pv 8) pa_nil)))))) pa_nil)))
      (C8.pss_cut (ps_expr (pe_bm PySem.F.plainAttrs_list PySem.F.slot_list_append PySem.F.type_list_append mt_append (pv 11) (pa_cons (pe_lamE A_ended sc_law_ended (fun g cdv => ended_gives B UI T0 S0 T1 S1 T2 S2 T3 S3) TB hr (by decide) (by rfl) rfl (.inl rfl) rfl (List.mem_singleton.mpr rfl) (fun p hp _ => by rw [List.mem_singleton.mp hp]; rfl) (lamS_by (sc := defScope s_law_right) (by decide +kernel)) rfl (fun _ _ _ _ _ => rfl) (k := 6) (T := [(PT, lamQ_law_right)]) (fun A2 outer2 s2 H2 E2 f2 c2 hr => (pe_ownX CX_certify_possible hr (by decide) (takes_of rfl rfl rfl rfl) (fun _ _ _ _ h => h) (by rfl) (pa_cons (pe_tup (pa_cons (pv 1) pa_nil)) (pa_cons pe_str (pa_cons (pv 8) pa_nil)))))) pa_nil)))
      (C8.pss_cut (ps_expr (pe_bm PySem.F.plainAttrs_list PySem.F.slot_list_append PySem.F.type_list_append mt_append (pv 11) (pa_cons (pe_lamE A_ended sc_law_ended (fun g cdv => ended_gives B UI T0 S0 T1 S1 T2 S2 T3 S3) TB hr (by decide) (by rfl) rfl (.inl rfl) rfl (List.mem_singleton.mpr rfl) (fun p hp _ => by rw [List.mem_singleton.mp hp]; rfl) (lamS_by (sc := defScope s_law_right) (by decide +kernel)) rfl (fun _ _ _ _ _ => rfl) (k := 6) (T := [(PT, lamQ_law_right)]) (fun A2 outer2 s2 H2 E2 f2 c2 hr => (pe_ownX CX_plan_table hr (by decide) (takes_of rfl rfl rfl rfl) (fun _ _ _ _ h => h) (by rfl) (pa_cons (pv 3) (pa_cons (pv 9) pa_nil))))) pa_nil)))
      (C8.pss_cut (ps_expr (pe_bm PySem.F.plainAttrs_list PySem.F.slot_list_append PySem.F.type_list_append mt_append (pv 11) (pa_cons (pe_lamE A_ended sc_law_ended (fun g cdv => ended_gives B UI T0 S0 T1 S1 T2 S2 T3 S3) TB hr (by decide) (by rfl) rfl (.inl rfl) rfl (List.mem_singleton.mpr rfl) (fun p hp _ => by rw [List.mem_singleton.mp hp]; rfl) (lamS_by (sc := defScope s_law_right) (by decide +kernel)) rfl (fun _ _ _ _ _ => rfl) (k := 6) (T := [(PT, lamQ_law_right)]) (fun A2 outer2 s2 H2 E2 f2 c2 hr => (pe_ownX CX_plan_table hr (by decide) (takes_of rfl rfl rfl rfl) (fun _ _ _ _ h => h) (by rfl) (pa_cons (pe_tup (pa_cons (pv 1) pa_nil)) (pa_cons (pv 9) pa_nil))))) pa_nil)))
      (C8.pss_cut (ps_expr (pe_bm PySem.F.plainAttrs_list PySem.F.slot_list_append PySem.F.type_list_append mt_append (pv 11) (pa_cons (pe_lamE A_ended sc_law_ended (fun g cdv => ended_gives B UI T0 S0 T1 S1 T2 S2 T3 S3) TB hr (by decide) (by rfl) rfl (.inl rfl) rfl (List.mem_singleton.mpr rfl) (fun p hp _ => by rw [List.mem_singleton.mp hp]; rfl) (lamS_by (sc := defScope s_law_right) (by decide +kernel)) rfl (fun _ _ _ _ _ => rfl) (k := 6) (T := [(PT, lamQ_law_right)]) (fun A2 outer2 s2 H2 E2 f2 c2 hr => (pe_ownX CX_view_report hr (by decide) (takes_of rfl rfl rfl rfl) (fun _ _ _ _ h => h) (by rfl) (pa_cons (pe_ix (r := rIxT K) ix_tup (pv 10) pe_int (fun _ _ => rfl)) pa_nil)))) pa_nil)))
      (pss_cons (ps_set (i := 12) sc_law_right.nd rfl (.inl rfl) (pe_op op_cat (pe_lst (pa_cons (pe_lst (pa_cons pe_str (pa_cons (pv 4) (pa_cons pe_bl pa_nil)))) (pa_cons (pe_lst (pa_cons pe_str (pa_cons (pv 6) (pa_cons pe_bl pa_nil)))) pa_nil))) (pe_op op_rep (pe_lst (pa_cons (pe_lst (pa_cons pe_str (pa_cons (pv 4) (pa_cons pe_bl pa_nil)))) pa_nil)) pe_int)))
      (pss_cons (ps_set (i := 12) sc_law_right.nd rfl (.inl rfl) (pe_op op_cat (pv 12) (pe_lst (pa_cons (pe_lst (pa_cons pe_str (pa_cons (pv 7) (pa_cons pe_bl pa_nil)))) (pa_cons (pe_lst (pa_cons pe_str (pa_cons (pv 8) (pa_cons pe_bl pa_nil)))) pa_nil)))))
      (pss_cons (ps_set (i := 12) sc_law_right.nd rfl (.inl rfl) (pe_op op_cat (pv 12) (pe_lst (pa_cons (pe_lst (pa_cons pe_str (pa_cons (pv 4) (pa_cons pe_bl pa_nil)))) (pa_cons (pe_lst (pa_cons pe_str (pa_cons (pv 9) (pa_cons pe_bl pa_nil)))) (pa_cons (pe_lst (pa_cons pe_str (pa_cons (pe_ix ix_tup (pv 10) pe_int (fun _ _ => rfl)) (pa_cons pe_bl pa_nil)))) pa_nil))))))
      (pss_one (ps_ret (pe_and (pe_cmpR op_eq (pe_callB (call_reprE quiet hr.units) (by rfl) B.repr (by decide +kernel) (pa_cons (pv 11) pa_nil)) (pe_callB (call_reprE quiet hr.units) (by rfl) B.repr (by decide +kernel) (pa_cons (pv 12) pa_nil)) (nomark _)) (pe_one (pe_cmpR op_eq (pe_callB call_len (by rfl) B.len (by decide +kernel) (pa_cons (pe_split (pe_own C_plan_table hr (by decide) (by rfl) (pa_cons (pe_tup (pa_cons (pv 1) pa_nil)) (pa_cons pe_int pa_nil))) pe_str) pa_nil)) pe_int (nomark _)))))))))))))))))))))))))), ?_⟩
    have LI : LadT [(PT, lamQ_law_right)] p H H := .refl hp hT hY
    refine fun x dx nx nd ne => ?_
    have s1 : Same H (upd (upd H dx (.own x)) x (.ins C dx [])) := (same_new nd).trans (same_new (by rw [upd_ne (Ne.symm ne)]; exact nx))
    have e1 : upd (upd H dx (.own x)) x (.ins C dx []) x = some (.ins C dx []) := upd_same
    have i1 : H x = none := nx
    generalize upd (upd H dx (.own x)) x (.ins C dx []) = H1 at s1 e1
    refine ⟨x, dx, one05, rfl, e1, one05_fit, fun t1 Gx nt1 g1 g2 g3 => ⟨rfl, ?_⟩⟩
    have s2 : Same H Gx := fun b o e => g3 b o (s1 _ _ e) (ne_of_none e i1)
    have kq := KeepP.ofSame (p := p) s2
    have LI := LI.same s2
    have shx : ShAt C Gx x one05 := ⟨dx, t1, g1, g2⟩
    clear g3 g2 g1 s1 s2 e1 nt1 i1 nx nd ne kq
    obtain ⟨dz, tz, exx, _⟩ := id shx
    refine ⟨by show 2 ≤ sizeLine; decide, fun oa1 noa1 => ?_⟩
    have soa1 : Same Gx (upd Gx oa1 (.tup [.non, .non])) := same_new noa1
    have eoa1 : upd Gx oa1 (.tup [.non, .non]) oa1 = some (.tup [.non, .non]) := upd_same
    generalize upd Gx oa1 (.tup [.non, .non]) = Koa1 at soa1 eoa1
    refine ⟨by show 0 ≤ sizeLine; decide, fun oa2 noa2 => ?_⟩
    have soa2 : Same Koa1 (upd Koa1 oa2 (.tup [])) := same_new noa2
    have eoa2 : upd Koa1 oa2 (.tup []) oa2 = some (.tup []) := upd_same
    generalize upd Koa1 oa2 (.tup []) = Koa2 at soa2 eoa2
    refine ⟨by show 2 ≤ sizeLine; decide, fun oa3 noa3 => ?_⟩
    have soa3 : Same Koa2 (upd Koa2 oa3 (.tup [.ref oa2, .non])) := same_new noa3
    have eoa3 : upd Koa2 oa3 (.tup [.ref oa2, .non]) oa3 = some (.tup [.ref oa2, .non]) := upd_same
    generalize upd Koa2 oa3 (.tup [.ref oa2, .non]) = Koa3 at soa3 eoa3
    refine ⟨_, rfl, by show 1 ≤ sizeLine; decide, fun oa4 noa4 => ?_⟩
    have soa4 : Same Koa3 (upd Koa3 oa4 (.lst [.ref x])) := same_new noa4
    have eoa4 : upd Koa3 oa4 (.lst [.ref x]) oa4 = some (.lst [.ref x]) := upd_same
    generalize upd Koa3 oa4 (.lst [.ref x]) = Koa4 at soa4 eoa4
    refine ⟨by show 2 ≤ sizeLine; decide, fun oa5 noa5 => ?_⟩
    have soa5 : Same Koa4 (upd Koa4 oa5 (.tup [.ref oa4, .non])) := same_new noa5
    have eoa5 : upd Koa4 oa5 (.tup [.ref oa4, .non]) oa5 = some (.tup [.ref oa4, .non]) := upd_same
    generalize upd Koa4 oa5 (.tup [.ref oa4, .non]) = Koa5 at soa5 eoa5
    refine ⟨_, rfl, by show 1 ≤ sizeLine; decide, fun oa6 noa6 => ?_⟩
    have soa6 : Same Koa5 (upd Koa5 oa6 (.tup [.ref x])) := same_new noa6
    have eoa6 : upd Koa5 oa6 (.tup [.ref x]) oa6 = some (.tup [.ref x]) := upd_same
    generalize upd Koa5 oa6 (.tup [.ref x]) = Koa6 at soa6 eoa6
    refine ⟨_, _, [.ref x], rfl, rfl, .inl (.inl eoa6), List.cons_ne_nil _ _, by decide, by decide, by show 1 ≤ 1000; decide, fun oa7 noa7 => ?_⟩
    have soa7 : Same Koa6 (upd Koa6 oa7 (.tup (List.replicate (5 : Int).toNat [.ref x]).flatten)) := same_new noa7
    have eoa7 : upd Koa6 oa7 (.tup (List.replicate (5 : Int).toNat [.ref x]).flatten) oa7 = some (.tup [.ref x, .ref x, .ref x, .ref x, .ref x]) := upd_same
    generalize upd Koa6 oa7 (.tup (List.replicate (5 : Int).toNat [.ref x]).flatten) = Koa7 at soa7 eoa7
    refine ⟨by show 2 ≤ sizeLine; decide, fun oa8 noa8 => ?_⟩
    have soa8 : Same Koa7 (upd Koa7 oa8 (.tup [.ref oa7, .non])) := same_new noa8
    have eoa8 : upd Koa7 oa8 (.tup [.ref oa7, .non]) oa8 = some (.tup [.ref oa7, .non]) := upd_same
    generalize upd Koa7 oa8 (.tup [.ref oa7, .non]) = Koa8 at soa8 eoa8
    refine ⟨_, rfl, by show 2 ≤ sizeLine; decide, fun oa9 noa9 => ?_⟩
    have soa9 : Same Koa8 (upd Koa8 oa9 (.tup [.ref x, .non])) := same_new noa9
    have eoa9 : upd Koa8 oa9 (.tup [.ref x, .non]) oa9 = some (.tup [.ref x, .non]) := upd_same
    generalize upd Koa8 oa9 (.tup [.ref x, .non]) = Koa9 at soa9 eoa9
    refine ⟨by show 2 ≤ sizeLine; decide, fun oa10 noa10 => ?_⟩
    have soa10 : Same Koa9 (upd Koa9 oa10 (.tup [.ref oa9, .int 1])) := same_new noa10
    have eoa10 : upd Koa9 oa10 (.tup [.ref oa9, .int 1]) oa10 = some (.tup [.ref oa9, .int 1]) := upd_same
    generalize upd Koa9 oa10 (.tup [.ref oa9, .int 1]) = Koa10 at soa10 eoa10
    refine ⟨_, rfl, by show 2 ≤ sizeLine; decide, fun oa11 noa11 => ?_⟩
    have soa11 : Same Koa10 (upd Koa10 oa11 (.tup [.int 7, .ref x])) := same_new noa11
    have eoa11 : upd Koa10 oa11 (.tup [.int 7, .ref x]) oa11 = some (.tup [.int 7, .ref x]) := upd_same
    generalize upd Koa10 oa11 (.tup [.int 7, .ref x]) = Koa11 at soa11 eoa11
    refine ⟨by show 2 ≤ sizeLine; decide, fun oa12 noa12 => ?_⟩
    have soa12 : Same Koa11 (upd Koa11 oa12 (.tup [.ref oa11, .int 0])) := same_new noa12
    have eoa12 : upd Koa11 oa12 (.tup [.ref oa11, .int 0]) oa12 = some (.tup [.ref oa11, .int 0]) := upd_same
    generalize upd Koa11 oa12 (.tup [.ref oa11, .int 0]) = Koa12 at soa12 eoa12
    refine ⟨by show 6 ≤ sizeLine; decide, fun oa13 noa13 => ?_⟩
    have soa13 : Same Koa12 (upd Koa12 oa13 (.lst [.ref oa1, .ref oa3, .ref oa5, .ref oa8, .ref oa10, .ref oa12])) := same_new noa13
    have eoa13 : upd Koa12 oa13 (.lst [.ref oa1, .ref oa3, .ref oa5, .ref oa8, .ref oa10, .ref oa12]) oa13 = some (.lst [.ref oa1, .ref oa3, .ref oa5, .ref oa8, .ref oa10, .ref oa12]) := upd_same
    generalize upd Koa12 oa13 (.lst [.ref oa1, .ref oa3, .ref oa5, .ref oa8, .ref oa10, .ref oa12]) = Koa13 at soa13 eoa13
    have toa13 : Same Koa12 Koa13 := soa13
    have toa12 : Same Koa11 Koa13 := soa12.trans toa13
    have toa11 : Same Koa10 Koa13 := soa11.trans toa12
    have toa10 : Same Koa9 Koa13 := soa10.trans toa11
    have toa9 : Same Koa8 Koa13 := soa9.trans toa10
    have toa8 : Same Koa7 Koa13 := soa8.trans toa9
    have toa7 : Same Koa6 Koa13 := soa7.trans toa8
    have toa6 : Same Koa5 Koa13 := soa6.trans toa7
    have toa5 : Same Koa4 Koa13 := soa5.trans toa6
    have toa4 : Same Koa3 Koa13 := soa4.trans toa5
    have toa3 : Same Koa2 Koa13 := soa3.trans toa4
    have toa2 : Same Koa1 Koa13 := soa2.trans toa3
    have toa1 : Same Gx Koa13 := soa1.trans toa2
    have eoa1 := toa2 _ _ eoa1
    have eoa2 := toa3 _ _ eoa2
    have eoa3 := toa4 _ _ eoa3
    have eoa4 := toa5 _ _ eoa4
    have eoa5 := toa6 _ _ eoa5
    have eoa6 := toa7 _ _ eoa6
    have eoa7 := toa8 _ _ eoa7
    have eoa8 := toa9 _ _ eoa8
    have eoa9 := toa10 _ _ eoa9
    have eoa10 := toa11 _ _ eoa10
    have eoa11 := toa12 _ _ eoa11
    have eoa12 := toa13 _ _ eoa12
    have Toa : Same Gx Koa13 := toa1
    have kT := KeepP.ofSame (p := p) Toa
    replace exx := Toa _ _ exx
    have shx := KeepP.sh shx LI.pot kT
    have LI := LI.same Toa
    have qoa1 : BadP (RowBad K C) p Koa13 oa1 := ⟨.non, .non, eoa1, .inl rfl, fun J kp => .inl ⟨rfl, (.inl (isa_non (kit_ty (by decide +kernel))))⟩⟩
    have qoa3 : BadP (RowBad K C) p Koa13 oa3 := ⟨.ref oa2, .non, eoa3, .inl rfl, fun J kp => .inl ⟨rfl, (.inr ⟨oa2, _, rfl, .inl (.inl (kp.tup LI.pot eoa2)), fun z => absurd z (by show ¬ (1 ≤ 0 ∧ 0 ≤ 4); decide)⟩)⟩⟩
    have qoa5 : BadP (RowBad K C) p Koa13 oa5 := ⟨.ref oa4, .non, eoa5, .inl rfl, fun J kp => .inl ⟨rfl, (.inl (isa_lst (kp.lst0 LI.pot eoa4 (by show 1 ≠ 3; decide)) (kit_ty (by decide +kernel))))⟩⟩
    have qoa8 : BadP (RowBad K C) p Koa13 oa8 := ⟨.ref oa7, .non, eoa8, .inl rfl, fun J kp => .inl ⟨rfl, (.inr ⟨oa7, _, rfl, .inl (.inl (kp.tup LI.pot eoa7)), fun z => absurd z (by show ¬ (1 ≤ 5 ∧ 5 ≤ 4); decide)⟩)⟩⟩
    have qoa10 : BadP (RowBad K C) p Koa13 oa10 := ⟨.ref oa9, .int 1, eoa10, .inr ⟨1, by decide, rfl⟩, fun J kp => .inr ⟨oa9, _, 1, .non, rfl, .inl (.inl (kp.tup LI.pot eoa9)), by show 1 ≤ 2; decide, by show 2 ≤ 4; decide, (bef1 (isaC_sh SC (kp.ins LI.pot exx))), rfl, isaC_no (T := "NoneType") Xs (.base .non) rfl, rfl⟩⟩
    have qoa12 : BadP (RowBad K C) p Koa13 oa12 := ⟨.ref oa11, .int 0, eoa12, .inr ⟨0, by decide, rfl⟩, fun J kp => .inr ⟨oa11, _, 0, .int 7, rfl, .inl (.inl (kp.tup LI.pot eoa11)), by show 1 ≤ 2; decide, by show 2 ≤ 4; decide, (fun j y hj hy => absurd hj (Nat.not_lt_zero j)), rfl, isaC_no (T := "int") Xs (.base (.int _)) rfl, rfl⟩⟩
    have ball : ∀ v ∈ [V.ref oa1, V.ref oa3, V.ref oa5, V.ref oa8, V.ref oa10, V.ref oa12], ∃ t, v = .ref t ∧ BadP (RowBad K C) p Koa13 t := fun v mem => by
      simp only [List.mem_cons, List.not_mem_nil, or_false] at mem
      rcases mem with rfl | rfl | rfl | rfl | rfl | rfl
      · exact ⟨_, rfl, qoa1⟩
      · exact ⟨_, rfl, qoa3⟩
      · exact ⟨_, rfl, qoa5⟩
      · exact ⟨_, rfl, qoa8⟩
      · exact ⟨_, rfl, qoa10⟩
      · exact ⟨_, rfl, qoa12⟩
    have nla := pot_neR LI.pot eoa13
    have ela := eoa13
    clear qoa1 qoa3 qoa5 qoa8 qoa10 qoa12 kT exx
    clear soa1 eoa1 noa1 toa1 soa2 eoa2 noa2 toa2 soa3 eoa3 noa3 toa3 soa4 eoa4 noa4 toa4 soa5 eoa5 noa5 toa5 soa6 eoa6 noa6 toa6 soa7 eoa7 noa7 toa7 soa8 eoa8 noa8 toa8 soa9 eoa9 noa9 toa9 soa10 eoa10 noa10 toa10 soa11 eoa11 noa11 toa11 soa12 eoa12 noa12 toa12 soa13 noa13 toa13 Toa
    clear eoa13
    refine ⟨_, rfl, _, rfl, p, LI.pot, .inl ⟨oa13, _, rfl, .inl (.inl ela), nla, by show 0 < 6; decide, by show 6 < 1000; decide, fun w1 Pa1 mem Lv => ?_⟩⟩
    obtain ⟨ta, rfl, B1⟩ := ball _ mem
    have kq := KeepP.ofL Lv
    have B1 := B1.keep LI.pot kq
    have ball : ∀ v ∈ [V.ref oa1, V.ref oa3, V.ref oa5, V.ref oa8, V.ref oa10, V.ref oa12], ∃ t : Addr, v = .ref t ∧ BadP (RowBad K C) p Pa1 t := fun v mem => let ⟨t, e, b⟩ := ball v mem; ⟨t, e, b.keep LI.pot kq⟩
    have ela := kq.lst nla ela
    have shx := KeepP.sh shx LI.pot kq
    have LI := LI.lad Lv
    clear mem Lv kq
    refine ⟨_, rfl, _, rfl, p, LI.pot, .inl ⟨oa13, _, rfl, .inl (.inl ela), nla, by show 0 < 6; decide, by show 6 < 1000; decide, fun w2 Pa2 mem Lv => ?_⟩⟩
    obtain ⟨tb, rfl, B2⟩ := ball _ mem
    have kq := KeepP.ofL Lv
    have B2 := B2.keep LI.pot kq
    have shx := KeepP.sh shx LI.pot kq
    have B1 := B1.keep LI.pot kq
    have LI := LI.lad Lv
    clear mem Lv kq
    clear ball ela nla
    refine ⟨by show 2 ≤ sizeLine; decide, fun W nW => ?_⟩
    have sW : Same Pa2 (upd Pa2 W (.tup [.ref ta, .ref tb])) := same_new nW
    have eW : upd Pa2 W (.tup [.ref ta, .ref tb]) W = some (.tup [.ref ta, .ref tb]) := upd_same
    generalize upd Pa2 W (.tup [.ref ta, .ref tb]) = G3 at sW eW
    have kq := KeepP.ofSame (p := p) sW
    have shx := KeepP.sh shx LI.pot kq
    have B1 := B1.keep LI.pot kq
    have B2 := B2.keep LI.pot kq
    have LI := LI.same sW
    obtain ⟨v1, s1, ea, so1, bad1⟩ := B1
    obtain ⟨v2, s2, eb, so2, bad2⟩ := B2
    refine ⟨W, _, rfl, .inl (.inl eW), rfl, _, _, rfl, ta, _, rfl, .inl (.inl ea), rfl, _, _, rfl, _, _, rfl, rfl, _, _, rfl, tb, _, rfl, .inl (.inl eb), rfl, _, _, rfl, _, _, rfl, rfl, rfl, ?_⟩
    clear ea eb eW sW nW kq
    refine ⟨_, rfl, _, _, rfl, rfl, by decide, by decide, by decide +kernel, fun yo3_1 hyo3_1 => ?_⟩
    have hyo3_1 := a201 hyo3_1
    subst hyo3_1
    refine ⟨by show 1 ≤ sizeLine; decide, fun o3_2 no3_2 => ?_⟩
    have so3_2 : Same G3 (upd G3 o3_2 (.tup [.str "a"])) := same_new no3_2
    have eo3_2 : upd G3 o3_2 (.tup [.str "a"]) o3_2 = some (.tup [.str "a"]) := upd_same
    generalize upd G3 o3_2 (.tup [.str "a"]) = Ko3_2 at so3_2 eo3_2
    refine fun o3_3 no3_3 => ?_
    have so3_3 : Same Ko3_2 (upd Ko3_2 o3_3 (.dK [])) := same_new no3_3
    have eo3_3 : upd Ko3_2 o3_3 (.dK []) o3_3 = some (.dK []) := upd_same
    generalize upd Ko3_2 o3_3 (.dK []) = Ko3_3 at so3_3 eo3_3
    refine ⟨by show 8 ≤ sizeLine; decide, fun o3_4 no3_4 => ?_⟩
    have so3_4 : Same Ko3_3 (upd Ko3_3 o3_4 (.lst [.non, .str "A", .str " ", .str ⟨(List.replicate 201 97).toArray⟩, .int 5, .ref o3_2, .bl true, .ref o3_3])) := same_new no3_4
    have eo3_4 : upd Ko3_3 o3_4 (.lst [.non, .str "A", .str " ", .str ⟨(List.replicate 201 97).toArray⟩, .int 5, .ref o3_2, .bl true, .ref o3_3]) o3_4 = some (.lst [.non, .str "A", .str " ", .str ⟨(List.replicate 201 97).toArray⟩, .int 5, .ref o3_2, .bl true, .ref o3_3]) := upd_same
    generalize upd Ko3_3 o3_4 (.lst [.non, .str "A", .str " ", .str ⟨(List.replicate 201 97).toArray⟩, .int 5, .ref o3_2, .bl true, .ref o3_3]) = Ko3_4 at so3_4 eo3_4
    have to3_4 : Same Ko3_3 Ko3_4 := so3_4
    have to3_3 : Same Ko3_2 Ko3_4 := so3_3.trans to3_4
    have to3_2 : Same G3 Ko3_4 := so3_2.trans to3_3
    have eo3_2 := to3_3 _ _ eo3_2
    have eo3_3 := to3_4 _ _ eo3_3
    have To3_ : Same G3 Ko3_4 := to3_2
    have LK := LI.same To3_
    refine ⟨p, LK.pot, .inl ⟨o3_4, _, rfl, .inl (.inl eo3_4), pot_neL LK.pot eo3_4 (by show 8 ≠ 3; decide), by show 0 < 8; decide, by show 8 < 1000; decide, fun v3 P3 mem Lv => ?_⟩⟩
    have b3 : ∃ d, Thing K p Ko3_4 v3 d (fun G v => NoTxt K G 200 v) := by
      simp only [List.mem_cons, List.not_mem_nil, or_false] at mem
      rcases mem with rfl | rfl | rfl | rfl | rfl | rfl | rfl | rfl
      · exact th_non fun G => nt_non
      · exact th_str (by decide +kernel) (by decide +kernel) fun G => nt_str (by decide +kernel) (by decide +kernel)
      · exact th_str (by decide +kernel) (by decide +kernel) fun G => nt_str (by decide +kernel) (by decide +kernel)
      · exact th_str (by decide +kernel) (by decide +kernel) fun G => nt_str (by decide +kernel) (by decide +kernel)
      · exact th_int (by decide) fun G => nt_int
      · exact th_tup (ds := [.str "a"]) LK.pot eo3_2 ((FineAll.of fun d hd => by rw [List.mem_singleton.mp hd]; exact Fine.str (W := 1) (by decide +kernel) (by decide +kernel)).tup.e.mono (by decide) (by decide)) (fun G _ => (.cons (.str _) .nil)) fun G e => nt_tup e
      · exact th_bl fun G => nt_bl
      · exact th_dict LK.pot eo3_3 fun G e => nt_dict e
    obtain ⟨D3, b3⟩ := b3
    have kv := KeepP.ofL Lv
    have b3 := b3.at kv
    have kq := (KeepP.ofSame To3_).trans kv
    have shx := KeepP.sh shx LI.pot kq
    have bad1 := fun J (h : KeepP p P3 J) => bad1 J (kq.trans h)
    have bad2 := fun J (h : KeepP p P3 J) => bad2 J (kq.trans h)
    have LI := LK.lad Lv
    clear mem Lv LK kv kq
    clear so3_2 eo3_2 no3_2 to3_2 so3_3 eo3_3 no3_3 to3_3 so3_4 eo3_4 no3_4 to3_4 To3_
    refine ⟨_, rfl, _, rfl, by show 1 ≤ sizeLine; decide, fun o4_1 no4_1 => ?_⟩
    have so4_1 : Same P3 (upd P3 o4_1 (.tup [.int 3])) := same_new no4_1
    have eo4_1 : upd P3 o4_1 (.tup [.int 3]) o4_1 = some (.tup [.int 3]) := upd_same
    generalize upd P3 o4_1 (.tup [.int 3]) = Ko4_1 at so4_1 eo4_1
    refine ⟨by show 0 ≤ sizeLine; decide, fun o4_2 no4_2 => ?_⟩
    have so4_2 : Same Ko4_1 (upd Ko4_1 o4_2 (.lst [])) := same_new no4_2
    have eo4_2 : upd Ko4_1 o4_2 (.lst []) o4_2 = some (.lst []) := upd_same
    generalize upd Ko4_1 o4_2 (.lst []) = Ko4_2 at so4_2 eo4_2
    refine ⟨_, _, rfl, rfl, ⟨by decide, by decide, by decide⟩, by show 8 ≤ sizeLine; decide, fun o4_3 no4_3 => ?_⟩
    have so4_3 : Same Ko4_2 (upd Ko4_2 o4_3 (.lst [.non, .int (-1), .int 501, .bl true, .str "3", .ref o4_1, .ref o4_2, .int (10 ^ (19 : Int).toNat)])) := same_new no4_3
    have eo4_3 : upd Ko4_2 o4_3 (.lst [.non, .int (-1), .int 501, .bl true, .str "3", .ref o4_1, .ref o4_2, .int (10 ^ (19 : Int).toNat)]) o4_3 = some (.lst [.non, .int (-1), .int 501, .bl true, .str "3", .ref o4_1, .ref o4_2, .int (10 ^ (19 : Int).toNat)]) := upd_same
    generalize upd Ko4_2 o4_3 (.lst [.non, .int (-1), .int 501, .bl true, .str "3", .ref o4_1, .ref o4_2, .int (10 ^ (19 : Int).toNat)]) = Ko4_3 at so4_3 eo4_3
    have to4_3 : Same Ko4_2 Ko4_3 := so4_3
    have to4_2 : Same Ko4_1 Ko4_3 := so4_2.trans to4_3
    have to4_1 : Same P3 Ko4_3 := so4_1.trans to4_2
    have eo4_1 := to4_2 _ _ eo4_1
    have eo4_2 := to4_3 _ _ eo4_2
    have To4_ : Same P3 Ko4_3 := to4_1
    have LK := LI.same To4_
    refine ⟨p, LK.pot, .inl ⟨o4_3, _, rfl, .inl (.inl eo4_3), pot_neL LK.pot eo4_3 (by show 8 ≠ 3; decide), by show 0 < 8; decide, by show 8 < 1000; decide, fun v4 P4 mem Lv => ?_⟩⟩
    have b4 : ∃ d, Thing K p Ko4_3 v4 d (fun G v => NoNum K G 500 v) := by
      simp only [List.mem_cons, List.not_mem_nil, or_false] at mem
      rcases mem with rfl | rfl | rfl | rfl | rfl | rfl | rfl | rfl
      · exact th_non fun G => nn_non
      · exact th_int (by decide) fun G => nn_int (by decide)
      · exact th_int (by decide) fun G => nn_int (by decide)
      · exact th_bl fun G => nn_bl
      · exact th_str (by decide +kernel) (by decide +kernel) fun G => nn_str
      · exact th_tup (ds := [.int 3]) LK.pot eo4_1 ((FineAll.of fun d hd => by rw [List.mem_singleton.mp hd]; exact Fine.int (by decide)).tup.e.mono (by decide) (by decide)) (fun G _ => (.cons (.int _) .nil)) fun G e => nn_tup e
      · exact th_lst (ds := []) (pot_neL LK.pot eo4_2 (by show 0 ≠ 3; decide)) eo4_2 ((FineAll.of (n := 0) (W := 0) (ds := []) fun d hd => by cases hd).list.e.mono (by decide) (by decide)) (fun G _ => .nil) fun G e => nn_lst e
      · exact th_int (by decide) fun G => nn_int (by decide)
    obtain ⟨D4, b4⟩ := b4
    have kv := KeepP.ofL Lv
    have b4 := b4.at kv
    have kq := (KeepP.ofSame To4_).trans kv
    have shx := KeepP.sh shx LI.pot kq
    have bad1 := fun J (h : KeepP p P4 J) => bad1 J (kq.trans h)
    have bad2 := fun J (h : KeepP p P4 J) => bad2 J (kq.trans h)
    have b3 := b3.at kq
    have LI := LK.lad Lv
    clear mem Lv LK kv kq
    clear so4_1 eo4_1 no4_1 to4_1 so4_2 eo4_2 no4_2 to4_2 so4_3 eo4_3 no4_3 to4_3 To4_
    refine ⟨_, rfl, _, rfl, by show 1 ≤ sizeLine; decide, fun o5_1 no5_1 => ?_⟩
    have so5_1 : Same P4 (upd P4 o5_1 (.tup [.int 3])) := same_new no5_1
    have eo5_1 : upd P4 o5_1 (.tup [.int 3]) o5_1 = some (.tup [.int 3]) := upd_same
    generalize upd P4 o5_1 (.tup [.int 3]) = Ko5_1 at so5_1 eo5_1
    refine ⟨by show 0 ≤ sizeLine; decide, fun o5_2 no5_2 => ?_⟩
    have so5_2 : Same Ko5_1 (upd Ko5_1 o5_2 (.lst [])) := same_new no5_2
    have eo5_2 : upd Ko5_1 o5_2 (.lst []) o5_2 = some (.lst []) := upd_same
    generalize upd Ko5_1 o5_2 (.lst []) = Ko5_2 at so5_2 eo5_2
    refine ⟨_, _, rfl, rfl, ⟨by decide, by decide, by decide⟩, by show 8 ≤ sizeLine; decide, fun o5_3 no5_3 => ?_⟩
    have so5_3 : Same Ko5_2 (upd Ko5_2 o5_3 (.lst [.non, .int (-1), .int 101, .bl true, .str "3", .ref o5_1, .ref o5_2, .int (10 ^ (19 : Int).toNat)])) := same_new no5_3
    have eo5_3 : upd Ko5_2 o5_3 (.lst [.non, .int (-1), .int 101, .bl true, .str "3", .ref o5_1, .ref o5_2, .int (10 ^ (19 : Int).toNat)]) o5_3 = some (.lst [.non, .int (-1), .int 101, .bl true, .str "3", .ref o5_1, .ref o5_2, .int (10 ^ (19 : Int).toNat)]) := upd_same
    generalize upd Ko5_2 o5_3 (.lst [.non, .int (-1), .int 101, .bl true, .str "3", .ref o5_1, .ref o5_2, .int (10 ^ (19 : Int).toNat)]) = Ko5_3 at so5_3 eo5_3
    have to5_3 : Same Ko5_2 Ko5_3 := so5_3
    have to5_2 : Same Ko5_1 Ko5_3 := so5_2.trans to5_3
    have to5_1 : Same P4 Ko5_3 := so5_1.trans to5_2
    have eo5_1 := to5_2 _ _ eo5_1
    have eo5_2 := to5_3 _ _ eo5_2
    have To5_ : Same P4 Ko5_3 := to5_1
    have LK := LI.same To5_
    refine ⟨p, LK.pot, .inl ⟨o5_3, _, rfl, .inl (.inl eo5_3), pot_neL LK.pot eo5_3 (by show 8 ≠ 3; decide), by show 0 < 8; decide, by show 8 < 1000; decide, fun v5 P5 mem Lv => ?_⟩⟩
    have b5 : ∃ d, Thing K p Ko5_3 v5 d (fun G v => NoNum K G 100 v) := by
      simp only [List.mem_cons, List.not_mem_nil, or_false] at mem
      rcases mem with rfl | rfl | rfl | rfl | rfl | rfl | rfl | rfl
      · exact th_non fun G => nn_non
      · exact th_int (by decide) fun G => nn_int (by decide)
      · exact th_int (by decide) fun G => nn_int (by decide)
      · exact th_bl fun G => nn_bl
      · exact th_str (by decide +kernel) (by decide +kernel) fun G => nn_str
      · exact th_tup (ds := [.int 3]) LK.pot eo5_1 ((FineAll.of fun d hd => by rw [List.mem_singleton.mp hd]; exact Fine.int (by decide)).tup.e.mono (by decide) (by decide)) (fun G _ => (.cons (.int _) .nil)) fun G e => nn_tup e
      · exact th_lst (ds := []) (pot_neL LK.pot eo5_2 (by show 0 ≠ 3; decide)) eo5_2 ((FineAll.of (n := 0) (W := 0) (ds := []) fun d hd => by cases hd).list.e.mono (by decide) (by decide)) (fun G _ => .nil) fun G e => nn_lst e
      · exact th_int (by decide) fun G => nn_int (by decide)
    obtain ⟨D5, b5⟩ := b5
    have kv := KeepP.ofL Lv
    have b5 := b5.at kv
    have kq := (KeepP.ofSame To5_).trans kv
    have shx := KeepP.sh shx LI.pot kq
    have bad1 := fun J (h : KeepP p P5 J) => bad1 J (kq.trans h)
    have bad2 := fun J (h : KeepP p P5 J) => bad2 J (kq.trans h)
    have b3 := b3.at kq
    have b4 := b4.at kq
    have LI := LK.lad Lv
    clear mem Lv LK kv kq
    clear so5_1 eo5_1 no5_1 to5_1 so5_2 eo5_2 no5_2 to5_2 so5_3 eo5_3 no5_3 to5_3 To5_
    obtain ⟨dz, tz, exx, _⟩ := id shx
    refine ⟨_, rfl, by show 2 ≤ sizeLine; decide, fun ov1 nov1 => ?_⟩
    have sov1 : Same P5 (upd P5 ov1 (.tup [.non, .non])) := same_new nov1
    have eov1 : upd P5 ov1 (.tup [.non, .non]) ov1 = some (.tup [.non, .non]) := upd_same
    generalize upd P5 ov1 (.tup [.non, .non]) = Kov1 at sov1 eov1
    refine ⟨by show 0 ≤ sizeLine; decide, fun ov2 nov2 => ?_⟩
    have sov2 : Same Kov1 (upd Kov1 ov2 (.tup [])) := same_new nov2
    have eov2 : upd Kov1 ov2 (.tup []) ov2 = some (.tup []) := upd_same
    generalize upd Kov1 ov2 (.tup []) = Kov2 at sov2 eov2
    refine ⟨by show 2 ≤ sizeLine; decide, fun ov3 nov3 => ?_⟩
    have sov3 : Same Kov2 (upd Kov2 ov3 (.tup [.ref ov2, .non])) := same_new nov3
    have eov3 : upd Kov2 ov3 (.tup [.ref ov2, .non]) ov3 = some (.tup [.ref ov2, .non]) := upd_same
    generalize upd Kov2 ov3 (.tup [.ref ov2, .non]) = Kov3 at sov3 eov3
    refine ⟨_, rfl, by show 1 ≤ sizeLine; decide, fun ov4 nov4 => ?_⟩
    have sov4 : Same Kov3 (upd Kov3 ov4 (.tup [.ref x])) := same_new nov4
    have eov4 : upd Kov3 ov4 (.tup [.ref x]) ov4 = some (.tup [.ref x]) := upd_same
    generalize upd Kov3 ov4 (.tup [.ref x]) = Kov4 at sov4 eov4
    refine ⟨by show 2 ≤ sizeLine; decide, fun ov5 nov5 => ?_⟩
    have sov5 : Same Kov4 (upd Kov4 ov5 (.tup [.ref ov4, .str "A"])) := same_new nov5
    have eov5 : upd Kov4 ov5 (.tup [.ref ov4, .str "A"]) ov5 = some (.tup [.ref ov4, .str "A"]) := upd_same
    generalize upd Kov4 ov5 (.tup [.ref ov4, .str "A"]) = Kov5 at sov5 eov5
    refine ⟨by show 1 ≤ sizeLine; decide, fun ov6 nov6 => ?_⟩
    have sov6 : Same Kov5 (upd Kov5 ov6 (.tup [.ref ov5])) := same_new nov6
    have eov6 : upd Kov5 ov6 (.tup [.ref ov5]) ov6 = some (.tup [.ref ov5]) := upd_same
    generalize upd Kov5 ov6 (.tup [.ref ov5]) = Kov6 at sov6 eov6
    refine ⟨by show 2 ≤ sizeLine; decide, fun ov7 nov7 => ?_⟩
    have sov7 : Same Kov6 (upd Kov6 ov7 (.tup [.ref ov6, .int 0])) := same_new nov7
    have eov7 : upd Kov6 ov7 (.tup [.ref ov6, .int 0]) ov7 = some (.tup [.ref ov6, .int 0]) := upd_same
    generalize upd Kov6 ov7 (.tup [.ref ov6, .int 0]) = Kov7 at sov7 eov7
    refine ⟨by show 0 ≤ sizeLine; decide, fun ov8 nov8 => ?_⟩
    have sov8 : Same Kov7 (upd Kov7 ov8 (.tup [])) := same_new nov8
    have eov8 : upd Kov7 ov8 (.tup []) ov8 = some (.tup []) := upd_same
    generalize upd Kov7 ov8 (.tup []) = Kov8 at sov8 eov8
    refine ⟨by show 2 ≤ sizeLine; decide, fun ov9 nov9 => ?_⟩
    have sov9 : Same Kov8 (upd Kov8 ov9 (.tup [.ref ov8, .str "a"])) := same_new nov9
    have eov9 : upd Kov8 ov9 (.tup [.ref ov8, .str "a"]) ov9 = some (.tup [.ref ov8, .str "a"]) := upd_same
    generalize upd Kov8 ov9 (.tup [.ref ov8, .str "a"]) = Kov9 at sov9 eov9
    refine ⟨by show 2 ≤ sizeLine; decide, fun ov10 nov10 => ?_⟩
    have sov10 : Same Kov9 (upd Kov9 ov10 (.tup [.ref ov9, .int 0])) := same_new nov10
    have eov10 : upd Kov9 ov10 (.tup [.ref ov9, .int 0]) ov10 = some (.tup [.ref ov9, .int 0]) := upd_same
    generalize upd Kov9 ov10 (.tup [.ref ov9, .int 0]) = Kov10 at sov10 eov10
    refine ⟨by show 2 ≤ sizeLine; decide, fun ov11 nov11 => ?_⟩
    have sov11 : Same Kov10 (upd Kov10 ov11 (.tup [.str "a", .non])) := same_new nov11
    have eov11 : upd Kov10 ov11 (.tup [.str "a", .non]) ov11 = some (.tup [.str "a", .non]) := upd_same
    generalize upd Kov10 ov11 (.tup [.str "a", .non]) = Kov11 at sov11 eov11
    refine ⟨by show 5 ≤ sizeLine; decide, fun ov12 nov12 => ?_⟩
    have sov12 : Same Kov11 (upd Kov11 ov12 (.lst [.ref ov1, .ref ov3, .ref ov7, .ref ov10, .ref ov11])) := same_new nov12
    have eov12 : upd Kov11 ov12 (.lst [.ref ov1, .ref ov3, .ref ov7, .ref ov10, .ref ov11]) ov12 = some (.lst [.ref ov1, .ref ov3, .ref ov7, .ref ov10, .ref ov11]) := upd_same
    generalize upd Kov11 ov12 (.lst [.ref ov1, .ref ov3, .ref ov7, .ref ov10, .ref ov11]) = Kov12 at sov12 eov12
    have tov12 : Same Kov11 Kov12 := sov12
    have tov11 : Same Kov10 Kov12 := sov11.trans tov12
    have tov10 : Same Kov9 Kov12 := sov10.trans tov11
    have tov9 : Same Kov8 Kov12 := sov9.trans tov10
    have tov8 : Same Kov7 Kov12 := sov8.trans tov9
    have tov7 : Same Kov6 Kov12 := sov7.trans tov8
    have tov6 : Same Kov5 Kov12 := sov6.trans tov7
    have tov5 : Same Kov4 Kov12 := sov5.trans tov6
    have tov4 : Same Kov3 Kov12 := sov4.trans tov5
    have tov3 : Same Kov2 Kov12 := sov3.trans tov4
    have tov2 : Same Kov1 Kov12 := sov2.trans tov3
    have tov1 : Same P5 Kov12 := sov1.trans tov2
    have eov1 := tov2 _ _ eov1
    have eov2 := tov3 _ _ eov2
    have eov3 := tov4 _ _ eov3
    have eov4 := tov5 _ _ eov4
    have eov5 := tov6 _ _ eov5
    have eov6 := tov7 _ _ eov6
    have eov7 := tov8 _ _ eov7
    have eov8 := tov9 _ _ eov8
    have eov9 := tov10 _ _ eov9
    have eov10 := tov11 _ _ eov10
    have eov11 := tov12 _ _ eov11
    have Tov : Same P5 Kov12 := tov1
    have kT := KeepP.ofSame (p := p) Tov
    replace exx := Tov _ _ exx
    have shx := KeepP.sh shx LI.pot kT
    have bad1 := fun J (h : KeepP p Kov12 J) => bad1 J (kT.trans h)
    have bad2 := fun J (h : KeepP p Kov12 J) => bad2 J (kT.trans h)
    have b3 := b3.at kT
    have b4 := b4.at kT
    have b5 := b5.at kT
    have LI := LI.same Tov
    have qov1 : BadP (ViewsBad K C) p Kov12 ov1 := ⟨.non, .non, eov1, .inl rfl, fun J kp => .inl ⟨rfl, (.inl (isa_non (kit_ty (by decide +kernel))))⟩⟩
    have qov3 : BadP (ViewsBad K C) p Kov12 ov3 := ⟨.ref ov2, .non, eov3, .inl rfl, fun J kp => .inl ⟨rfl, (.inr ⟨ov2, _, rfl, .inl (.inl (kp.tup LI.pot eov2)), fun z => absurd z (by show ¬ (1 ≤ 0 ∧ 0 ≤ 4); decide)⟩)⟩⟩
    have qov7 : BadP (ViewsBad K C) p Kov12 ov7 := ⟨.ref ov6, .int 0, eov7, .inr ⟨0, by decide, rfl⟩, fun J kp => .inr ⟨ov6, _, 0, .ref ov5, rfl, .inl (.inl (kp.tup LI.pot eov6)), by show 1 ≤ 1; decide, by show 1 ≤ 4; decide, (fun j y hj hy => absurd hj (Nat.not_lt_zero j)), rfl, (.inr ⟨ov5, _, _, rfl, .inl (.inl (kp.tup LI.pot eov5)), .inr ⟨(row1_ok (kp.tup LI.pot eov4) (KeepP.sh shx LI.pot kp)), (nt_str (by decide +kernel) (by decide +kernel))⟩⟩), rfl⟩⟩
    have qov10 : BadP (ViewsBad K C) p Kov12 ov10 := ⟨.ref ov9, .int 0, eov10, .inr ⟨0, by decide, rfl⟩, fun J kp => .inr ⟨ov9, _, 0, .ref ov8, rfl, .inl (.inl (kp.tup LI.pot eov9)), by show 1 ≤ 2; decide, by show 2 ≤ 4; decide, (fun j y hj hy => absurd hj (Nat.not_lt_zero j)), rfl, (.inl (.inr ⟨ov8, _, rfl, .inl (.inl (kp.tup LI.pot eov8)), fun z => absurd z (by show ¬ (2 ≤ 0 ∧ 0 ≤ 2); decide)⟩)), rfl⟩⟩
    have qov11 : BadP (ViewsBad K C) p Kov12 ov11 := ⟨.str "a", .non, eov11, .inl rfl, fun J kp => .inl ⟨rfl, (.inl (isa_str (kit_ty (by decide +kernel))))⟩⟩
    have ball : ∀ v ∈ [V.ref ov1, V.ref ov3, V.ref ov7, V.ref ov10, V.ref ov11], ∃ t, v = .ref t ∧ BadP (ViewsBad K C) p Kov12 t := fun v mem => by
      simp only [List.mem_cons, List.not_mem_nil, or_false] at mem
      rcases mem with rfl | rfl | rfl | rfl | rfl
      · exact ⟨_, rfl, qov1⟩
      · exact ⟨_, rfl, qov3⟩
      · exact ⟨_, rfl, qov7⟩
      · exact ⟨_, rfl, qov10⟩
      · exact ⟨_, rfl, qov11⟩
    refine ⟨p, LI.pot, .inl ⟨ov12, _, rfl, .inl (.inl eov12), pot_neR LI.pot eov12, by show 0 < 5; decide, by show 5 < 1000; decide, fun w6 G0 mem Lv => ?_⟩⟩
    obtain ⟨vt, rfl, B6⟩ := ball _ mem
    have kq := KeepP.ofL Lv
    have B6 := B6.keep LI.pot kq
    have shx := KeepP.sh shx LI.pot kq
    have bad1 := fun J (h : KeepP p G0 J) => bad1 J (kq.trans h)
    have bad2 := fun J (h : KeepP p G0 J) => bad2 J (kq.trans h)
    have b3 := b3.at kq
    have b4 := b4.at kq
    have b5 := b5.at kq
    have LI := LI.lad Lv
    clear ball mem Lv kq kT exx qov1 qov3 qov7 qov10 qov11
    clear sov1 eov1 nov1 tov1 sov2 eov2 nov2 tov2 sov3 eov3 nov3 tov3 sov4 eov4 nov4 tov4 sov5 eov5 nov5 tov5 sov6 eov6 nov6 tov6 sov7 eov7 nov7 tov7 sov8 eov8 nov8 tov8 sov9 eov9 nov9 tov9 sov10 eov10 nov10 tov10 sov11 eov11 nov11 tov11 sov12 eov12 nov12 tov12 Tov
    obtain ⟨v6, s6, ev, so6, bad6⟩ := B6
    have LG : LadT [(PT, lamQ_law_right)] p G0 G0 := .refl LI.pot LI.tabs LI.sys
    refine ⟨fun σ J => ∃ S : Addr, σ = [some (.ref p), some (.ref x), some (.ref oa13), some v1, some s1, some v2, some s2, some v3, some v4, some v5, some (.ref vt), some (.ref S), none] ∧ One [(PT, lamQ_law_right)] p G0 J S [(("InvalidRow" : Str), s1)], ?_, ?_⟩
    · refine lam_raise (C := CR) (Fl := "index") (N := "InvalidRow") (v := s1) mR LG (fun q J1 M e => ?_) (fun E J1 M r => ⟨_, rfl, _, rfl, v1, v2, s1, rfl, .inl (bad1 J1 M.kp), r⟩)
      exact ⟨by show 1 ≤ sizeLine; decide, fun S nS => ⟨S, rfl, One.first M nS e⟩⟩
    rintro σ I1 ⟨S, rfl, Z1⟩
    refine ⟨fun σ J => σ = [some (.ref p), some (.ref x), some (.ref oa13), some v1, some s1, some v2, some s2, some v3, some v4, some v5, some (.ref vt), some (.ref S), none] ∧ One [(PT, lamQ_law_right)] p G0 J S [(("InvalidRow" : Str), s1), (("InvalidRow" : Str), s2)], ?_, ?_⟩
    · obtain ⟨xs, eS, lx⟩ := Z1.lsS
      refine ⟨_, rfl, .inl ⟨rfl, _, .inl (.inl eS)⟩, ?_⟩
      refine lam_raise (C := CR) (Fl := "index") (N := "InvalidRow") (v := s2) mR Z1.lad.here (fun q J1 M e => ?_) (fun E J1 M r => ⟨_, rfl, by show 1 ≤ sizeLine; decide, fun a na => ⟨_, rfl, .ref a, v2, s2, rfl, .inr ⟨row1_ok upd_same ((KeepP.sh shx LG.pot (Z1.kp.trans M.kp)).same (same_new na)), (bad2 J1 (Z1.kp.trans M.kp)).same (same_new na)⟩, r.same (same_new na)⟩⟩)
      have Y := Z1.keep M
      clear eS lx xs
      obtain ⟨xs, eS, lx⟩ := Y.lsS
      exact ⟨S, xs, _, rfl, rfl, eS, by rw [lx, sizeLine_eq]; show 1 < 16777216; decide, rfl, Y.say e eS⟩
    clear Z1
    rintro σ I2 ⟨rfl, Z2⟩
    refine ⟨fun σ J => σ = [some (.ref p), some (.ref x), some (.ref oa13), some v1, some s1, some v2, some s2, some v3, some v4, some v5, some (.ref vt), some (.ref S), none] ∧ One [(PT, lamQ_law_right)] p G0 J S [(("InvalidRow" : Str), s1), (("InvalidRow" : Str), s2), (("InvalidRow" : Str), s1)], ?_, ?_⟩
    · obtain ⟨xs, eS, lx⟩ := Z2.lsS
      refine ⟨_, rfl, .inl ⟨rfl, _, .inl (.inl eS)⟩, ?_⟩
      refine lam_raise (C := CR) (Fl := "index") (N := "InvalidRow") (v := s1) mR Z2.lad.here (fun q J1 M e => ?_) (fun E J1 M r => ⟨_, rfl, v1, s1, rfl, bad1 J1 (Z2.kp.trans M.kp), r⟩)
      have Y := Z2.keep M
      clear eS lx xs
      obtain ⟨xs, eS, lx⟩ := Y.lsS
      exact ⟨S, xs, _, rfl, rfl, eS, by rw [lx, sizeLine_eq]; show 2 < 16777216; decide, rfl, Y.say e eS⟩
    clear Z2
    rintro σ I3 ⟨rfl, Z3⟩
    refine ⟨fun σ J => σ = [some (.ref p), some (.ref x), some (.ref oa13), some v1, some s1, some v2, some s2, some v3, some v4, some v5, some (.ref vt), some (.ref S), none] ∧ One [(PT, lamQ_law_right)] p G0 J S [(("InvalidRow" : Str), s1), (("InvalidRow" : Str), s2), (("InvalidRow" : Str), s1), (("InvalidRow" : Str), s1)], ?_, ?_⟩
    · obtain ⟨xs, eS, lx⟩ := Z3.lsS
      refine ⟨_, rfl, .inl ⟨rfl, _, .inl (.inl eS)⟩, ?_⟩
      refine lam_raise (C := CR) (Fl := "index") (N := "InvalidRow") (v := s1) mR Z3.lad.here (fun q J1 M e => ?_) (fun E J1 M r => ⟨_, rfl, v1, s1, rfl, bad1 J1 (Z3.kp.trans M.kp), r⟩)
      have Y := Z3.keep M
      clear eS lx xs
      obtain ⟨xs, eS, lx⟩ := Y.lsS
      exact ⟨S, xs, _, rfl, rfl, eS, by rw [lx, sizeLine_eq]; show 3 < 16777216; decide, rfl, Y.say e eS⟩
    clear Z3
    rintro σ I4 ⟨rfl, Z4⟩
    refine ⟨fun σ J => σ = [some (.ref p), some (.ref x), some (.ref oa13), some v1, some s1, some v2, some s2, some v3, some v4, some v5, some (.ref vt), some (.ref S), none] ∧ One [(PT, lamQ_law_right)] p G0 J S [(("InvalidRow" : Str), s1), (("InvalidRow" : Str), s2), (("InvalidRow" : Str), s1), (("InvalidRow" : Str), s1), (("InvalidRow" : Str), s1)], ?_, ?_⟩
    · obtain ⟨xs, eS, lx⟩ := Z4.lsS
      refine ⟨_, rfl, .inl ⟨rfl, _, .inl (.inl eS)⟩, ?_⟩
      refine lam_raise (C := CR) (Fl := "index") (N := "InvalidRow") (v := s1) mR Z4.lad.here (fun q J1 M e => ?_) (fun E J1 M r => ⟨_, rfl, _, rfl, _, rfl, v1, v3, v4, rfl, .inl ⟨s1, bad1 J1 (Z4.kp.trans M.kp), r⟩⟩)
      have Y := Z4.keep M
      clear eS lx xs
      obtain ⟨xs, eS, lx⟩ := Y.lsS
      exact ⟨S, xs, _, rfl, rfl, eS, by rw [lx, sizeLine_eq]; show 4 < 16777216; decide, rfl, Y.say e eS⟩
    clear Z4
    rintro σ I5 ⟨rfl, Z5⟩
    refine ⟨fun σ J => σ = [some (.ref p), some (.ref x), some (.ref oa13), some v1, some s1, some v2, some s2, some v3, some v4, some v5, some (.ref vt), some (.ref S), none] ∧ One [(PT, lamQ_law_right)] p G0 J S [(("InvalidRow" : Str), s1), (("InvalidRow" : Str), s2), (("InvalidRow" : Str), s1), (("InvalidRow" : Str), s1), (("InvalidRow" : Str), s1), (("InvalidText" : Str), v3)], ?_, ?_⟩
    · obtain ⟨xs, eS, lx⟩ := Z5.lsS
      refine ⟨_, rfl, .inl ⟨rfl, _, .inl (.inl eS)⟩, ?_⟩
      refine lam_raise (C := CT) (Fl := "value") (N := "InvalidText") (v := v3) mT Z5.lad.here (fun q J1 M e => ?_) (fun E J1 M r => ⟨_, rfl, by show 1 ≤ sizeLine; decide, fun a na => ⟨_, rfl, _, rfl, .ref a, v3, v4, rfl, .inr (.inl ⟨row1_ok upd_same ((KeepP.sh shx LG.pot (Z5.kp.trans M.kp)).same (same_new na)), ((b3.2 J1 (Z5.kp.trans M.kp)).2).same (same_new na), r.same (same_new na)⟩)⟩⟩)
      have Y := Z5.keep M
      clear eS lx xs
      obtain ⟨xs, eS, lx⟩ := Y.lsS
      exact ⟨S, xs, _, rfl, rfl, eS, by rw [lx, sizeLine_eq]; show 5 < 16777216; decide, rfl, Y.say e eS⟩
    clear Z5
    rintro σ I6 ⟨rfl, Z6⟩
    refine ⟨fun σ J => σ = [some (.ref p), some (.ref x), some (.ref oa13), some v1, some s1, some v2, some s2, some v3, some v4, some v5, some (.ref vt), some (.ref S), none] ∧ One [(PT, lamQ_law_right)] p G0 J S [(("InvalidRow" : Str), s1), (("InvalidRow" : Str), s2), (("InvalidRow" : Str), s1), (("InvalidRow" : Str), s1), (("InvalidRow" : Str), s1), (("InvalidText" : Str), v3), (("InvalidLength" : Str), v4)], ?_, ?_⟩
    · obtain ⟨xs, eS, lx⟩ := Z6.lsS
      refine ⟨_, rfl, .inl ⟨rfl, _, .inl (.inl eS)⟩, ?_⟩
      refine lam_raise (C := CL) (Fl := "value") (N := "InvalidLength") (v := v4) mL Z6.lad.here (fun q J1 M e => ?_) (fun E J1 M r => ⟨_, rfl, by show 1 ≤ sizeLine; decide, fun a na => ⟨_, rfl, .ref a, .str "ab", v4, rfl, .inr (.inr ⟨row1_ok upd_same ((KeepP.sh shx LG.pot (Z6.kp.trans M.kp)).same (same_new na)), ⟨"ab", rfl, by decide +kernel, by decide +kernel⟩, ((b4.2 J1 (Z6.kp.trans M.kp)).2).same (same_new na), r.same (same_new na)⟩)⟩⟩)
      have Y := Z6.keep M
      clear eS lx xs
      obtain ⟨xs, eS, lx⟩ := Y.lsS
      exact ⟨S, xs, _, rfl, rfl, eS, by rw [lx, sizeLine_eq]; show 6 < 16777216; decide, rfl, Y.say e eS⟩
    clear Z6
    rintro σ I7 ⟨rfl, Z7⟩
    refine ⟨fun σ J => σ = [some (.ref p), some (.ref x), some (.ref oa13), some v1, some s1, some v2, some s2, some v3, some v4, some v5, some (.ref vt), some (.ref S), none] ∧ One [(PT, lamQ_law_right)] p G0 J S [(("InvalidRow" : Str), s1), (("InvalidRow" : Str), s2), (("InvalidRow" : Str), s1), (("InvalidRow" : Str), s1), (("InvalidRow" : Str), s1), (("InvalidText" : Str), v3), (("InvalidLength" : Str), v4), (("InvalidRow" : Str), s1)], ?_, ?_⟩
    · obtain ⟨xs, eS, lx⟩ := Z7.lsS
      refine ⟨_, rfl, .inl ⟨rfl, _, .inl (.inl eS)⟩, ?_⟩
      refine lam_raise (C := CR) (Fl := "index") (N := "InvalidRow") (v := s1) mR Z7.lad.here (fun q J1 M e => ?_) (fun E J1 M r => ⟨_, rfl, _, rfl, v1, v5, rfl, .inl ⟨s1, bad1 J1 (Z7.kp.trans M.kp), r⟩⟩)
      have Y := Z7.keep M
      clear eS lx xs
      obtain ⟨xs, eS, lx⟩ := Y.lsS
      exact ⟨S, xs, _, rfl, rfl, eS, by rw [lx, sizeLine_eq]; show 7 < 16777216; decide, rfl, Y.say e eS⟩
    clear Z7
    rintro σ I8 ⟨rfl, Z8⟩
    refine ⟨fun σ J => σ = [some (.ref p), some (.ref x), some (.ref oa13), some v1, some s1, some v2, some s2, some v3, some v4, some v5, some (.ref vt), some (.ref S), none] ∧ One [(PT, lamQ_law_right)] p G0 J S [(("InvalidRow" : Str), s1), (("InvalidRow" : Str), s2), (("InvalidRow" : Str), s1), (("InvalidRow" : Str), s1), (("InvalidRow" : Str), s1), (("InvalidText" : Str), v3), (("InvalidLength" : Str), v4), (("InvalidRow" : Str), s1), (("InvalidLength" : Str), v5)], ?_, ?_⟩
    · obtain ⟨xs, eS, lx⟩ := Z8.lsS
      refine ⟨_, rfl, .inl ⟨rfl, _, .inl (.inl eS)⟩, ?_⟩
      refine lam_raise (C := CL) (Fl := "value") (N := "InvalidLength") (v := v5) mL Z8.lad.here (fun q J1 M e => ?_) (fun E J1 M r => ⟨_, rfl, by show 1 ≤ sizeLine; decide, fun a na => ⟨_, rfl, .ref a, v5, rfl, .inr ⟨row1_ok upd_same ((KeepP.sh shx LG.pot (Z8.kp.trans M.kp)).same (same_new na)), ((b5.2 J1 (Z8.kp.trans M.kp)).2).same (same_new na), r.same (same_new na)⟩⟩⟩)
      have Y := Z8.keep M
      clear eS lx xs
      obtain ⟨xs, eS, lx⟩ := Y.lsS
      exact ⟨S, xs, _, rfl, rfl, eS, by rw [lx, sizeLine_eq]; show 8 < 16777216; decide, rfl, Y.say e eS⟩
    clear Z8
    rintro σ I9 ⟨rfl, Z9⟩
    refine ⟨fun σ J => σ = [some (.ref p), some (.ref x), some (.ref oa13), some v1, some s1, some v2, some s2, some v3, some v4, some v5, some (.ref vt), some (.ref S), none] ∧ One [(PT, lamQ_law_right)] p G0 J S [(("InvalidRow" : Str), s1), (("InvalidRow" : Str), s2), (("InvalidRow" : Str), s1), (("InvalidRow" : Str), s1), (("InvalidRow" : Str), s1), (("InvalidText" : Str), v3), (("InvalidLength" : Str), v4), (("InvalidRow" : Str), s1), (("InvalidLength" : Str), v5), (("InvalidViews" : Str), s6)], ?_, ?_⟩
    · obtain ⟨xs, eS, lx⟩ := Z9.lsS
      refine ⟨_, rfl, .inl ⟨rfl, _, .inl (.inl eS)⟩, ?_⟩
      refine lam_raise (C := CV) (Fl := "index") (N := "InvalidViews") (v := s6) mV Z9.lad.here (fun q J1 M e => ?_) (fun E J1 M r => ⟨_, rfl, vt, _, _, _, rfl, rfl, .inl (.inl ((Z9.kp.trans M.kp).tup LG.pot ev)), rfl, v6, s6, rfl, bad6 J1 (Z9.kp.trans M.kp), r⟩)
      have Y := Z9.keep M
      clear eS lx xs
      obtain ⟨xs, eS, lx⟩ := Y.lsS
      exact ⟨S, xs, _, rfl, rfl, eS, by rw [lx, sizeLine_eq]; show 9 < 16777216; decide, rfl, Y.say e eS⟩
    clear Z9
    rintro σ I10 ⟨rfl, Z10⟩
    have ev1 := Z10.kp.tup LG.pot ev
    refine ⟨_, rfl, by show 3 ≤ sizeLine; decide, fun w1 nw1 => ?_⟩
    have sw1 : Same I10 (upd I10 w1 (.lst [.str "InvalidRow", s1, .bl true])) := same_new nw1
    have ew1 : upd I10 w1 (.lst [.str "InvalidRow", s1, .bl true]) w1 = some (.lst [.str "InvalidRow", s1, .bl true]) := upd_same
    generalize upd I10 w1 (.lst [.str "InvalidRow", s1, .bl true]) = Kw1 at sw1 ew1
    refine ⟨_, rfl, by show 3 ≤ sizeLine; decide, fun w2 nw2 => ?_⟩
    have sw2 : Same Kw1 (upd Kw1 w2 (.lst [.str "InvalidRow", s2, .bl true])) := same_new nw2
    have ew2 : upd Kw1 w2 (.lst [.str "InvalidRow", s2, .bl true]) w2 = some (.lst [.str "InvalidRow", s2, .bl true]) := upd_same
    generalize upd Kw1 w2 (.lst [.str "InvalidRow", s2, .bl true]) = Kw2 at sw2 ew2
    refine ⟨by show 2 ≤ sizeLine; decide, fun w3 nw3 => ?_⟩
    have sw3 : Same Kw2 (upd Kw2 w3 (.lst [.ref w1, .ref w2])) := same_new nw3
    have ew3 : upd Kw2 w3 (.lst [.ref w1, .ref w2]) w3 = some (.lst [.ref w1, .ref w2]) := upd_same
    generalize upd Kw2 w3 (.lst [.ref w1, .ref w2]) = Kw3 at sw3 ew3
    refine ⟨_, rfl, by show 3 ≤ sizeLine; decide, fun w4 nw4 => ?_⟩
    have sw4 : Same Kw3 (upd Kw3 w4 (.lst [.str "InvalidRow", s1, .bl true])) := same_new nw4
    have ew4 : upd Kw3 w4 (.lst [.str "InvalidRow", s1, .bl true]) w4 = some (.lst [.str "InvalidRow", s1, .bl true]) := upd_same
    generalize upd Kw3 w4 (.lst [.str "InvalidRow", s1, .bl true]) = Kw4 at sw4 ew4
    refine ⟨by show 1 ≤ sizeLine; decide, fun w5 nw5 => ?_⟩
    have sw5 : Same Kw4 (upd Kw4 w5 (.lst [.ref w4])) := same_new nw5
    have ew5 : upd Kw4 w5 (.lst [.ref w4]) w5 = some (.lst [.ref w4]) := upd_same
    generalize upd Kw4 w5 (.lst [.ref w4]) = Kw5 at sw5 ew5
    refine ⟨_, _, _, rfl, rfl, ew5, by decide, by decide, by show 1 * 3 ≤ sizeLine; decide, fun w6 nw6 => ?_⟩
    have sw6 : Same Kw5 (upd Kw5 w6 (.lst (List.replicate (3 : Int).toNat [.ref w4]).flatten)) := same_new nw6
    have ew6 : upd Kw5 w6 (.lst (List.replicate (3 : Int).toNat [.ref w4]).flatten) w6 = some (.lst [.ref w4, .ref w4, .ref w4]) := upd_same
    generalize upd Kw5 w6 (.lst (List.replicate (3 : Int).toNat [.ref w4]).flatten) = Kw6 at sw6 ew6
    replace ew3 := sw4 _ _ ew3
    replace ew3 := sw5 _ _ ew3
    replace ew3 := sw6 _ _ ew3
    refine ⟨_, _, _, _, rfl, rfl, ew3, ew6, by show 2 + 3 ≤ sizeLine; decide, fun w7 nw7 => ?_⟩
    have sw7 : Same Kw6 (upd Kw6 w7 (.lst ([.ref w1, .ref w2] ++ [.ref w4, .ref w4, .ref w4]))) := same_new nw7
    have ew7 : upd Kw6 w7 (.lst ([.ref w1, .ref w2] ++ [.ref w4, .ref w4, .ref w4])) w7 = some (.lst [.ref w1, .ref w2, .ref w4, .ref w4, .ref w4]) := upd_same
    generalize upd Kw6 w7 (.lst ([.ref w1, .ref w2] ++ [.ref w4, .ref w4, .ref w4])) = Kw7 at sw7 ew7
    refine ⟨_, rfl, _, rfl, by show 3 ≤ sizeLine; decide, fun w8 nw8 => ?_⟩
    have sw8 : Same Kw7 (upd Kw7 w8 (.lst [.str "InvalidText", v3, .bl true])) := same_new nw8
    have ew8 : upd Kw7 w8 (.lst [.str "InvalidText", v3, .bl true]) w8 = some (.lst [.str "InvalidText", v3, .bl true]) := upd_same
    generalize upd Kw7 w8 (.lst [.str "InvalidText", v3, .bl true]) = Kw8 at sw8 ew8
    refine ⟨_, rfl, by show 3 ≤ sizeLine; decide, fun w9 nw9 => ?_⟩
    have sw9 : Same Kw8 (upd Kw8 w9 (.lst [.str "InvalidLength", v4, .bl true])) := same_new nw9
    have ew9 : upd Kw8 w9 (.lst [.str "InvalidLength", v4, .bl true]) w9 = some (.lst [.str "InvalidLength", v4, .bl true]) := upd_same
    generalize upd Kw8 w9 (.lst [.str "InvalidLength", v4, .bl true]) = Kw9 at sw9 ew9
    refine ⟨by show 2 ≤ sizeLine; decide, fun w10 nw10 => ?_⟩
    have sw10 : Same Kw9 (upd Kw9 w10 (.lst [.ref w8, .ref w9])) := same_new nw10
    have ew10 : upd Kw9 w10 (.lst [.ref w8, .ref w9]) w10 = some (.lst [.ref w8, .ref w9]) := upd_same
    generalize upd Kw9 w10 (.lst [.ref w8, .ref w9]) = Kw10 at sw10 ew10
    replace ew7 := sw8 _ _ ew7
    replace ew7 := sw9 _ _ ew7
    replace ew7 := sw10 _ _ ew7
    refine ⟨_, _, _, _, rfl, rfl, ew7, ew10, by show 5 + 2 ≤ sizeLine; decide, fun w11 nw11 => ?_⟩
    have sw11 : Same Kw10 (upd Kw10 w11 (.lst ([.ref w1, .ref w2, .ref w4, .ref w4, .ref w4] ++ [.ref w8, .ref w9]))) := same_new nw11
    have ew11 : upd Kw10 w11 (.lst ([.ref w1, .ref w2, .ref w4, .ref w4, .ref w4] ++ [.ref w8, .ref w9])) w11 = some (.lst [.ref w1, .ref w2, .ref w4, .ref w4, .ref w4, .ref w8, .ref w9]) := upd_same
    generalize upd Kw10 w11 (.lst ([.ref w1, .ref w2, .ref w4, .ref w4, .ref w4] ++ [.ref w8, .ref w9])) = Kw11 at sw11 ew11
    refine ⟨_, rfl, _, rfl, by show 3 ≤ sizeLine; decide, fun w12 nw12 => ?_⟩
    have sw12 : Same Kw11 (upd Kw11 w12 (.lst [.str "InvalidRow", s1, .bl true])) := same_new nw12
    have ew12 : upd Kw11 w12 (.lst [.str "InvalidRow", s1, .bl true]) w12 = some (.lst [.str "InvalidRow", s1, .bl true]) := upd_same
    generalize upd Kw11 w12 (.lst [.str "InvalidRow", s1, .bl true]) = Kw12 at sw12 ew12
    refine ⟨_, rfl, by show 3 ≤ sizeLine; decide, fun w13 nw13 => ?_⟩
    have sw13 : Same Kw12 (upd Kw12 w13 (.lst [.str "InvalidLength", v5, .bl true])) := same_new nw13
    have ew13 : upd Kw12 w13 (.lst [.str "InvalidLength", v5, .bl true]) w13 = some (.lst [.str "InvalidLength", v5, .bl true]) := upd_same
    generalize upd Kw12 w13 (.lst [.str "InvalidLength", v5, .bl true]) = Kw13 at sw13 ew13
    replace ev1 := sw1 _ _ ev1
    replace ev1 := sw2 _ _ ev1
    replace ev1 := sw3 _ _ ev1
    replace ev1 := sw4 _ _ ev1
    replace ev1 := sw5 _ _ ev1
    replace ev1 := sw6 _ _ ev1
    replace ev1 := sw7 _ _ ev1
    replace ev1 := sw8 _ _ ev1
    replace ev1 := sw9 _ _ ev1
    replace ev1 := sw10 _ _ ev1
    replace ev1 := sw11 _ _ ev1
    replace ev1 := sw12 _ _ ev1
    replace ev1 := sw13 _ _ ev1
    refine ⟨_, rfl, vt, _, _, _, rfl, rfl, .inl (.inl ev1), rfl, by show 3 ≤ sizeLine; decide, fun w14 nw14 => ?_⟩
    have sw14 : Same Kw13 (upd Kw13 w14 (.lst [.str "InvalidViews", s6, .bl true])) := same_new nw14
    have ew14 : upd Kw13 w14 (.lst [.str "InvalidViews", s6, .bl true]) w14 = some (.lst [.str "InvalidViews", s6, .bl true]) := upd_same
    generalize upd Kw13 w14 (.lst [.str "InvalidViews", s6, .bl true]) = Kw14 at sw14 ew14
    refine ⟨by show 3 ≤ sizeLine; decide, fun w15 nw15 => ?_⟩
    have sw15 : Same Kw14 (upd Kw14 w15 (.lst [.ref w12, .ref w13, .ref w14])) := same_new nw15
    have ew15 : upd Kw14 w15 (.lst [.ref w12, .ref w13, .ref w14]) w15 = some (.lst [.ref w12, .ref w13, .ref w14]) := upd_same
    generalize upd Kw14 w15 (.lst [.ref w12, .ref w13, .ref w14]) = Kw15 at sw15 ew15
    replace ew11 := sw12 _ _ ew11
    replace ew11 := sw13 _ _ ew11
    replace ew11 := sw14 _ _ ew11
    replace ew11 := sw15 _ _ ew11
    refine ⟨_, _, _, _, rfl, rfl, ew11, ew15, by show 7 + 3 ≤ sizeLine; decide, fun w16 nw16 => ?_⟩
    have sw16 : Same Kw15 (upd Kw15 w16 (.lst ([.ref w1, .ref w2, .ref w4, .ref w4, .ref w4, .ref w8, .ref w9] ++ [.ref w12, .ref w13, .ref w14]))) := same_new nw16
    have ew16 : upd Kw15 w16 (.lst ([.ref w1, .ref w2, .ref w4, .ref w4, .ref w4, .ref w8, .ref w9] ++ [.ref w12, .ref w13, .ref w14])) w16 = some (.lst [.ref w1, .ref w2, .ref w4, .ref w4, .ref w4, .ref w8, .ref w9, .ref w12, .ref w13, .ref w14]) := upd_same
    generalize upd Kw15 w16 (.lst ([.ref w1, .ref w2, .ref w4, .ref w4, .ref w4, .ref w8, .ref w9] ++ [.ref w12, .ref w13, .ref w14])) = Kw16 at sw16 ew16
    have tw16 : Same Kw15 Kw16 := sw16
    have tw15 : Same Kw14 Kw16 := sw15.trans tw16
    have tw14 : Same Kw13 Kw16 := sw14.trans tw15
    have tw13 : Same Kw12 Kw16 := sw13.trans tw14
    have tw12 : Same Kw11 Kw16 := sw12.trans tw13
    have tw11 : Same Kw10 Kw16 := sw11.trans tw12
    have tw10 : Same Kw9 Kw16 := sw10.trans tw11
    have tw9 : Same Kw8 Kw16 := sw9.trans tw10
    have tw8 : Same Kw7 Kw16 := sw8.trans tw9
    have tw7 : Same Kw6 Kw16 := sw7.trans tw8
    have tw6 : Same Kw5 Kw16 := sw6.trans tw7
    have tw5 : Same Kw4 Kw16 := sw5.trans tw6
    have tw4 : Same Kw3 Kw16 := sw4.trans tw5
    have tw3 : Same Kw2 Kw16 := sw3.trans tw4
    have tw2 : Same Kw1 Kw16 := sw2.trans tw3
    have tw1 : Same I10 Kw16 := sw1.trans tw2
    have ew1 := tw2 _ _ ew1
    have ew2 := tw3 _ _ ew2
    have ew3 := tw7 _ _ ew3
    have ew4 := tw5 _ _ ew4
    have ew5 := tw6 _ _ ew5
    have ew6 := tw7 _ _ ew6
    have ew7 := tw11 _ _ ew7
    have ew8 := tw9 _ _ ew8
    have ew9 := tw10 _ _ ew9
    have ew10 := tw11 _ _ ew10
    have ew11 := tw16 _ _ ew11
    have ew12 := tw13 _ _ ew12
    have ew13 := tw14 _ _ ew13
    have ew14 := tw15 _ _ ew14
    have ew15 := tw16 _ _ ew15
    have Tw : Same I10 Kw16 := tw1
    have ZZ := Z10.same Tw
    obtain ⟨d1, q1⟩ := spot_thing (K := K) (p := p) (H := G0) so1
    obtain ⟨d2, q2⟩ := spot_thing (K := K) (p := p) (H := G0) so2
    obtain ⟨d6, q6⟩ := spot_thing (K := K) (p := p) (H := G0) so6
    have cd1 := (q1.2 Kw16 ZZ.kp).1
    have cd2 := (q2.2 Kw16 ZZ.kp).1
    have cd6 := (q6.2 Kw16 ZZ.kp).1
    have cD3 := (b3.2 Kw16 ZZ.kp).1
    have cD4 := (b4.2 Kw16 ZZ.kp).1
    have cD5 := (b5.2 Kw16 ZZ.kp).1
    have dS : DpE K Kw16 (.ref S) (.list [said "InvalidRow" d1, said "InvalidRow" d2, said "InvalidRow" d1, said "InvalidRow" d1, said "InvalidRow" d1, said "InvalidText" D3, said "InvalidLength" D4, said "InvalidRow" d1, said "InvalidLength" D5, said "InvalidViews" d6]) := ZZ.data (ds := [d1, d2, d1, d1, d1, D3, D4, d1, D5, d6]) (.cons cd1 (.cons cd2 (.cons cd1 (.cons cd1 (.cons cd1 (.cons cD3 (.cons cD4 (.cons cd1 (.cons cD5 (.cons cd6 .nil))))))))))
    have dD : DpE K Kw16 (.ref w16) (.list [said "InvalidRow" d1, said "InvalidRow" d2, said "InvalidRow" d1, said "InvalidRow" d1, said "InvalidRow" d1, said "InvalidText" D3, said "InvalidLength" D4, said "InvalidRow" d1, said "InvalidLength" D5, said "InvalidViews" d6]) := .lst ew16 (.cons (.lst ew1 (.cons (.str _) (.cons cd1 (.cons (.bl true) .nil)))) (.cons (.lst ew2 (.cons (.str _) (.cons cd2 (.cons (.bl true) .nil)))) (.cons (.lst ew4 (.cons (.str _) (.cons cd1 (.cons (.bl true) .nil)))) (.cons (.lst ew4 (.cons (.str _) (.cons cd1 (.cons (.bl true) .nil)))) (.cons (.lst ew4 (.cons (.str _) (.cons cd1 (.cons (.bl true) .nil)))) (.cons (.lst ew8 (.cons (.str _) (.cons cD3 (.cons (.bl true) .nil)))) (.cons (.lst ew9 (.cons (.str _) (.cons cD4 (.cons (.bl true) .nil)))) (.cons (.lst ew12 (.cons (.str _) (.cons cd1 (.cons (.bl true) .nil)))) (.cons (.lst ew13 (.cons (.str _) (.cons cD5 (.cons (.bl true) .nil)))) (.cons (.lst ew14 (.cons (.str _) (.cons cd6 (.cons (.bl true) .nil)))) .nil))))))))))
    have fine : FineE 60 100000 (.list [said "InvalidRow" d1, said "InvalidRow" d2, said "InvalidRow" d1, said "InvalidRow" d1, said "InvalidRow" d1, said "InvalidText" D3, said "InvalidLength" D4, said "InvalidRow" d1, said "InvalidLength" D5, said "InvalidViews" d6]) := all_said (fun d hd => by
      simp only [List.mem_cons, List.not_mem_nil, or_false] at hd
      rcases hd with rfl | rfl | rfl | rfl | rfl | rfl | rfl | rfl | rfl | rfl
      · exact said_fine q1.1 (by decide +kernel)
      · exact said_fine q2.1 (by decide +kernel)
      · exact said_fine q1.1 (by decide +kernel)
      · exact said_fine q1.1 (by decide +kernel)
      · exact said_fine q1.1 (by decide +kernel)
      · exact said_fine b3.1 (by decide +kernel)
      · exact said_fine b4.1 (by decide +kernel)
      · exact said_fine q1.1 (by decide +kernel)
      · exact said_fine b5.1 (by decide +kernel)
      · exact said_fine q6.1 (by decide +kernel)) (by show 10 ≤ 60; decide)
    refine ⟨_, rfl, S, _, rfl, ZZ.lad.sys, dS, fine, _, rfl, w16, _, rfl, ZZ.lad.sys, dD, fine, ?_⟩
    generalize PyData.shown (.list [said "InvalidRow" d1, said "InvalidRow" d2, said "InvalidRow" d1, said "InvalidRow" d1, said "InvalidRow" d1, said "InvalidText" D3, said "InvalidLength" D4, said "InvalidRow" d1, said "InvalidLength" D5, said "InvalidViews" d6]) = zz
    refine ⟨rfl, ?_⟩
    rw [decide_eq_true rfl]
    have LL := LI.trans ZZ.lad
    have shx := KeepP.sh shx LG.pot ZZ.kp
    clear dS dD fine bad1 bad2 bad6 b3 b4 b5 ev ev1 cd1 cd2 cd6 cD3 cD4 cD5
    refine ⟨_, rfl, iteT ?_⟩
    refine ⟨_, rfl, by show 1 ≤ sizeLine; decide, fun a na => ?_⟩
    have LL := LL.same (same_new na (o := .tup [.ref x]))
    have rw1 : RowAt C (upd Kw16 a (.tup [.ref x])) a [(x, one05)] := row1_at upd_same (shx.same (same_new na)) one05_fit
    refine ⟨a, 100, [(x, one05)], rfl, rw1, by show 1 ≤ 1; decide, by show 1 ≤ 4; decide, by decide, fun G1 z1 => ?_⟩
    refine ⟨⟨_, rfl⟩, _, _, rfl, rfl, by decide +kernel, table_size, fun q nq => ?_⟩
    refine ⟨_, _, rfl, .inl ⟨_, .inl (.inl upd_same), rfl⟩, rfl, ?_⟩
    have tl : (Txt.split (tableS ([(x, one05)].map fun q => q.2) (100 + 1)) "
").length = 101 := table_lines
    have tv : decide (V.int ((101 : Nat) : Int) = V.int (101 : Int)) = true := by decide +kernel
    rw [List.length_map, tl, tv]
    exact k _ ((LL.same z1).same (same_new nq))
end
end Gu
namespace Gu
open PySem PySem.Spec PyProof.Rows L2 LamX
theorem cls_of_mro {K : PySem.W.Frag} {C : Addr} {b : Value} {r : Bool} (h : PySem.W.mroIn K C b = some r) : (PySem.W.clsIn K C).isSome = true := by
  unfold PySem.W.mroIn at h
  cases e : PySem.W.clsIn K C with
  | none =>
    rw [e] at h
    cases h
  | some _ => rfl
section
variable {P : Program} {w : World} {K : PySem.W.Frag} {mg : Str → Option Value} {base : Heap}
def spLawT (T : List (Addr × Str)) (K : PySem.W.Frag) : Sp := fun vs H Q _ => ∃ (a : Addr) (ns : List Int), vs = [.ref a] ∧ SqL K H a (ns.map V.int) ∧ ns.length ≤ 63 ∧ Tabs T H ∧ Sys H ∧ ∀ G, Q (.bl true) G
theorem cal_lawT {n : Nat} {T : List (Addr × Str)} (B : Bi mg) {f : Addr} {fd : FuncData} (F : Fun K "law" "law" s_law f fd) (n1 : 1 ≤ n) (C_law_pot : Cal P w K mg base 1 "_law_pot" ps_law_pot (spPot K)) (C_law_right : CalG P w K mg base n "_law_right" ps_law_right (spRightT T)) : FnG P w K mg base (n + 1) f fd ps_law (spLawT T K) := by
  refine okG F sc_law (fun vs H Q E h => ?_) (fun cdv A outer s H vs Q E hr quiet h => ?_)
  · obtain ⟨a, ns, rfl, _⟩ := h
    rfl
  · obtain ⟨a, ns, rfl, hS, hl, hT, hY, k⟩ := h
    have hk1 := n1
    refine ⟨_, (pss_one (ps_ret (pe_callB (cr_all rfl) (by rfl) B.all (by decide +kernel) (pa_cons (pe_lc (own := [("_law_k", 1)]) (by rfl) sc_law.nd (pi_range1 (by rfl) B.range (pa_cons (pe_callB (call_max2 rfl) (by rfl) B.max (by decide +kernel) (pa_cons pe_int (pa_cons (pe_callB (call_min2 rfl) (by rfl) B.min (by decide +kernel) (pa_cons (pe_callB call_len_seq (by rfl) B.len (by decide +kernel) (pa_cons (pv 0) pa_nil)) (pa_cons pe_int pa_nil))) pa_nil))) pa_nil)) (blkOk_by (own := [("_law_k", 1)]) (N := ["_law_script", "_law_k"]) (sc := defScope s_law) (by decide +kernel)) (fun _ _ _ _ _ => pg_name (i := 1) sc_law.nd rfl (.inl rfl)) (fun _ _ _ _ _ => pts_nil) (fun _ _ _ _ _ => (pe_ownG C_law_right hr (Nat.le_refl _) quiet (by rfl) (pa_cons (pe_own C_law_pot hr hk1 (by rfl) (pa_cons (pv 0) (pa_cons (pv 1) pa_nil))) pa_nil)))) pa_nil)))), ?_⟩
    refine ⟨_, rfl, a, _, rfl, .inl hS, _, _, rfl, _, _, rfl, ?_⟩
    rw [List.length_map]
    generalize hm : (if (5 : Int) < (ns.length : Int) then (5 : Int) else (ns.length : Int)) = m
    have m1 : m ≤ 5 := by rw [← hm]; split <;> omega
    refine ⟨_, rfl, by split <;> omega, by split <;> omega, fun D nD => ?_⟩
    refine lc_range (lo := 0) (n := (if m > (2 : Int) then m else 2).toNat) (fun i J => ∃ bs : List Bool, bs.length = i ∧ bs.all id = true ∧ J D = some (.lst (bs.map V.bl)) ∧ SameN H J ∧ Tabs T J) ⟨[], rfl, rfl, upd_same, Same.n (same_new nD), hT.ext (same_new nD)⟩ ?_ ?_
    · rintro i J hi ⟨bs, rfl, ha, eD, sJ, tJ⟩
      have i5 : bs.length < 7 := by
        revert hi
        split <;> omega
      refine ⟨rfl, yes (iteT ⟨_, rfl, _, rfl, a, bs.length, ns, ?_, sJ.sqL hS, by omega, fun p G np hp sG => ?_⟩)⟩
      · rw [Int.zero_add]
        rfl
      · refine ⟨p, rfl, hp, tJ.ext sG, (sJ.sys hY).same sG, fun G2 L => ?_⟩
        have nDp : D ≠ p := ne_of_none eD np
        have gD : G2 D = some (.lst (bs.map V.bl)) := L.keep _ _ (sG _ _ eD) nDp fun _ z => by cases z
        refine ⟨_, gD, small1000 (by rw [List.length_map]; omega), bs ++ [true], by rw [List.length_append]; rfl, by rw [List.all_append, ha]; rfl, ?_, fun b o e nt => ?_, ?_⟩
        · rw [upd_same, List.map_append]
          rfl
        · rw [upd_ne (ne_of_none e nD)]
          exact L.keep _ _ (sG _ _ (sJ _ _ e nt)) (ne_of_none (sJ _ _ e nt) np) nt
        · exact tabs_upd L.tabs gD
    · rintro J ⟨bs, el, ha, eD, _⟩
      refine ⟨D, bs, rfl, .inl (.inl eD), ?_⟩
      rw [ha]
      exact k J
end
end Gu
namespace Gu
open PySem PySem.Spec PyProof.Rows L2
theorem at_mk {K : PySem.W.Frag} {h : Heap} {mg : Str → Option Value} {x : Str} {st : Stmt} {ps : List Str} {f : Addr} {oc : Value} {od an : Option Addr} {sl : Array (Option Value)} {kV dc pm cd ct : Value} (X : K.In h) (G : h.Ns mainGlobals mg)
    (hb : ∀ (kV doc pm : Value) (an : Option Addr) (cdv ct : Value) (us : List Value), us.length = ps.length → bindArgs (PySem.W.fnOf x x (defArgs st) (defBody st) (defScope st) .none kV doc pm an cdv ct) ⟨us, []⟩ = pure (ps.zip us))
    (a : PySem.W.nsIn K mainGlobals x = some (some (.ref f))) (l : K.lookup f = some ⟨oc, od, .func (PySem.W.fnOf x x (defArgs st) (defBody st) (defScope st) .none kV dc pm an cd ct), sl⟩) (c : PySem.W.codeIn K cd x = true) (k : PySem.W.keepIn K (.ref f) = true) : At K mg x st ps :=
  ⟨f, _, fun_mk l c k, (fun_mk l c k).binds hb, PySem.W.mg_of X G a⟩
theorem cst_mk {K : PySem.W.Frag} {h : Heap} {mg : Str → Option Value} {x : Str} {v : V} {u : Value} (X : K.In h) (G : h.Ns mainGlobals mg) (r : RelV v u) (a : PySem.W.nsIn K mainGlobals x = some (some u)) : ∃ u, mg x = some u ∧ RelV v u := ⟨u, PySem.W.mg_of X G a, r⟩
end Gu
namespace Gu
open PySem PySem.Spec PyProof.Rows L2
theorem fin {P : Program} {w : World} {K : PySem.W.Frag} {mg : Str → Option Value} {base : Heap} {C U_InputError E_InvalidText E_InvalidLength E_InvalidRow E_InvalidViews cc_law_right PP_law_right f : Addr} {fd : FuncData} (B : Bi mg) (UK_InputError : UpK K mg bVE "InputError" U_InputError) (EK_InvalidText : ErrK K mg bVE U_InputError "InvalidText" E_InvalidText) (EF_InvalidText : ErrF K "InvalidText" "value" E_InvalidText) (EK_InvalidLength : ErrK K mg bVE U_InputError "InvalidLength" E_InvalidLength) (EF_InvalidLength : ErrF K "InvalidLength" "value" E_InvalidLength) (EK_InvalidRow : ErrK K mg bVE U_InputError "InvalidRow" E_InvalidRow) (EF_InvalidRow : ErrF K "InvalidRow" "index" E_InvalidRow) (EK_InvalidViews : ErrK K mg bVE U_InputError "InvalidViews" E_InvalidViews) (EF_InvalidViews : ErrF K "InvalidViews" "index" E_InvalidViews) (AC_law_right : AtC K mg "_law_right" s_law_right ps_law_right cc_law_right) (TB_law_right : LamX.TabB base mg cc_law_right PP_law_right) (Ss : ShC K mg C) (Is : InitAt K C) (Xs : ShX K C)
    (A_is_integer : At K mg "is_integer" s_is_integer ps_is_integer) (A_is_tuple : At K mg "is_tuple" s_is_tuple ps_is_tuple) (A_is_text : At K mg "is_text" s_is_text ps_is_text) (A_check_mark : At K mg "check_mark" s_check_mark ps_check_mark) (A_check_text : At K mg "check_text" s_check_text ps_check_text) (A_check_length : At K mg "check_length" s_check_length ps_check_length) (A_is_row : At K mg "is_row" s_is_row ps_is_row) (A_check_row : At K mg "check_row" s_check_row ps_check_row) (A_shortened : At K mg "shortened" s_shortened ps_shortened) (A_planned : At K mg "planned" s_planned ps_planned) (A_first_unlike : At K mg "first_unlike" s_first_unlike ps_first_unlike) (A_first_unstable : At K mg "first_unstable" s_first_unstable ps_first_unstable) (A_is_view : At K mg "is_view" s_is_view ps_is_view) (A_check_views : At K mg "check_views" s_check_views ps_check_views) (A_lengths : At K mg "lengths" s_lengths ps_lengths) (A_least_pair : At K mg "least_pair" s_least_pair ps_least_pair) (A_certify_alike : At K mg "certify_alike" s_certify_alike ps_certify_alike) (A_certify_stable : At K mg "certify_stable" s_certify_stable ps_certify_stable) (A_certify_possible : At K mg "certify_possible" s_certify_possible ps_certify_possible) (A_certify_confused : At K mg "certify_confused" s_certify_confused ps_certify_confused) (A_written_plan : At K mg "written_plan" s_written_plan ps_written_plan) (A_plan_table : At K mg "plan_table" s_plan_table ps_plan_table) (A_view_report : At K mg "view_report" s_view_report ps_view_report) (A_law_pot : At K mg "_law_pot" s_law_pot ps_law_pot) (A_law_ladle : At K mg "_law_ladle" s_law_ladle ps_law_ladle) (A_law_one_of : At K mg "_law_one_of" s_law_one_of ps_law_one_of) (A_law_ended : At K mg "_law_ended" s_law_ended ps_law_ended)
    (F : Fun K "law" "law" s_law f fd) : FnG P w K mg base 11 f fd ps_law (spLawT [(PP_law_right, lamQ_law_right)] K) := by
  have c1 : Cal P w K mg base 1 "_law_ladle" ps_law_ladle spLadle := cal_ladle B A_law_ladle
  have c2 : Cal P w K mg base 2 "_law_one_of" ps_law_one_of (spOneOf K) := cal_oneOf B A_law_one_of c1
  have c5 : Cal P w K mg base 1 "is_integer" ps_is_integer (spIsInteger K) := cal_isInteger B A_is_integer
  have c6 : Cal P w K mg base 1 "is_text" ps_is_text (spIsText K) := cal_isText B A_is_text
  have cmk : Cal P w K mg base 2 "check_mark" ps_check_mark spCheckMark := cal_checkMark B A_check_mark c6
  have m1 : Mak P w K mg base 3 "Shortener" C (spInit C) := mak_sh B Ss Is c5 cmk
  have t1 : Cal P w K mg base 1 "is_tuple" ps_is_tuple (spIsTuple K) := cal_isTuple B A_is_tuple
  have d2 : Cal P w K mg base 1 "shortened" ps_shortened (spShortT C) := cal_shortT B Ss A_shortened
  have d3 : Cal P w K mg base 2 "planned" ps_planned (spPlanned C) := cal_planned B Ss A_planned d2
  have d9 : Cal P w K mg base 2 "check_row" ps_check_row (spCheckRow C) := cal_checkRow B Ss A_check_row t1
  have g1 : Cal P w K mg base 1 "written_plan" ps_written_plan (spWPlan K) := cal_wplan B A_written_plan
  have g2 : Cal P w K mg base 3 "plan_table" ps_plan_table (spPTable C) := cal_ptable B A_plan_table d9 c5 d3 g1
  have x0 : Cal P w K mg base 2 "is_row" ps_is_row (spRowB K C) := rowB_of Ss (cal_rowG B Ss A_is_row (tup_of t1))
  have x1 : Cal P w K mg base 3 "is_view" ps_is_view (spViewB K C) := cal_viewB B A_is_view (tup_of t1) (txt_of c6) x0
  have x2 : CalX P w K mg base 4 "check_views" ps_check_views (spViewsE K C E_InvalidViews) := cal_viewsE B A_check_views EK_InvalidViews EF_InvalidViews (tup_of t1) x1
  have x3 : CalX P w K mg base 2 "check_length" ps_check_length (spLenE K E_InvalidLength) := cal_lenE B A_check_length EK_InvalidLength EF_InvalidLength (num_of c5)
  have x4 : CalX P w K mg base 2 "check_row" ps_check_row (spRowE K C E_InvalidRow) := cal_rowE B Ss A_check_row EK_InvalidRow EF_InvalidRow (tup_of t1)
  have x5 : CalX P w K mg base 2 "check_text" ps_check_text (spTextB K E_InvalidText) := cal_textB B A_check_text EK_InvalidText EF_InvalidText (txt_of c6)
  have y1 := cv_lengths B A_lengths x2
  have y2 := cx_first_unlike B A_first_unlike x4
  have y3 := cx_first_unstable B A_first_unstable x4
  have y4 := cx_least_pair B A_least_pair x4
  have z1 := cw_certify_alike B A_certify_alike y2
  have z2 := cw_certify_stable B A_certify_stable y3
  have z3 := cw_certify_confused B A_certify_confused y4
  have z4 := cw_certify_possible B A_certify_possible x4 x5 x3
  have z5 := cw_plan_table B A_plan_table EK_InvalidLength EF_InvalidLength (num_of c5) x4
  have z6 := cw_view_report B A_view_report y1
  have e7 : CalG P w K mg base 10 "_law_right" ps_law_right (spRightT [(PP_law_right, lamQ_law_right)]) := cal_right B Ss Xs AC_law_right TB_law_right A_law_ended UK_InputError EK_InvalidLength EF_InvalidLength EK_InvalidRow EF_InvalidRow EK_InvalidText EF_InvalidText EK_InvalidViews EF_InvalidViews c2 m1 z1 z2 z3 z4 z5 z6 g2
  exact cal_lawT B F (by decide) (cal_pot B A_law_pot) e7
end Gu
namespace Gu
open PySem PySem.Spec PyProof.Rows L2
set_option maxHeartbeats 0 in
theorem all_mk {l : PySem.W.OpenLaw} {q : Program} {w : World} {K : PySem.W.Frag} {h : Heap} {mg : Str → Option Value} {fa : Addr} {f_is_integer : Addr} {oc_is_integer kV_is_integer dc_is_integer pm_is_integer cd_is_integer ct_is_integer : Value} {od_is_integer an_is_integer : Option Addr} {sl_is_integer : Array (Option Value)} {f_is_tuple : Addr} {oc_is_tuple kV_is_tuple dc_is_tuple pm_is_tuple cd_is_tuple ct_is_tuple : Value} {od_is_tuple an_is_tuple : Option Addr} {sl_is_tuple : Array (Option Value)} {f_is_text : Addr} {oc_is_text kV_is_text dc_is_text pm_is_text cd_is_text ct_is_text : Value} {od_is_text an_is_text : Option Addr} {sl_is_text : Array (Option Value)} {f_check_mark : Addr} {oc_check_mark kV_check_mark dc_check_mark pm_check_mark cd_check_mark ct_check_mark : Value} {od_check_mark an_check_mark : Option Addr} {sl_check_mark : Array (Option Value)} {f_check_text : Addr} {oc_check_text kV_check_text dc_check_text pm_check_text cd_check_text ct_check_text : Value} {od_check_text an_check_text : Option Addr} {sl_check_text : Array (Option Value)} {f_check_length : Addr} {oc_check_length kV_check_length dc_check_length pm_check_length cd_check_length ct_check_length : Value} {od_check_length an_check_length : Option Addr} {sl_check_length : Array (Option Value)} {f_is_row : Addr} {oc_is_row kV_is_row dc_is_row pm_is_row cd_is_row ct_is_row : Value} {od_is_row an_is_row : Option Addr} {sl_is_row : Array (Option Value)} {f_check_row : Addr} {oc_check_row kV_check_row dc_check_row pm_check_row cd_check_row ct_check_row : Value} {od_check_row an_check_row : Option Addr} {sl_check_row : Array (Option Value)} {f_shortened : Addr} {oc_shortened kV_shortened dc_shortened pm_shortened cd_shortened ct_shortened : Value} {od_shortened an_shortened : Option Addr} {sl_shortened : Array (Option Value)} {f_planned : Addr} {oc_planned kV_planned dc_planned pm_planned cd_planned ct_planned : Value} {od_planned an_planned : Option Addr} {sl_planned : Array (Option Value)} {f_first_unlike : Addr} {oc_first_unlike kV_first_unlike dc_first_unlike pm_first_unlike cd_first_unlike ct_first_unlike : Value} {od_first_unlike an_first_unlike : Option Addr} {sl_first_unlike : Array (Option Value)} {f_first_unstable : Addr} {oc_first_unstable kV_first_unstable dc_first_unstable pm_first_unstable cd_first_unstable ct_first_unstable : Value} {od_first_unstable an_first_unstable : Option Addr} {sl_first_unstable : Array (Option Value)} {f_is_view : Addr} {oc_is_view kV_is_view dc_is_view pm_is_view cd_is_view ct_is_view : Value} {od_is_view an_is_view : Option Addr} {sl_is_view : Array (Option Value)} {f_check_views : Addr} {oc_check_views kV_check_views dc_check_views pm_check_views cd_check_views ct_check_views : Value} {od_check_views an_check_views : Option Addr} {sl_check_views : Array (Option Value)} {f_lengths : Addr} {oc_lengths kV_lengths dc_lengths pm_lengths cd_lengths ct_lengths : Value} {od_lengths an_lengths : Option Addr} {sl_lengths : Array (Option Value)} {f_least_pair : Addr} {oc_least_pair kV_least_pair dc_least_pair pm_least_pair cd_least_pair ct_least_pair : Value} {od_least_pair an_least_pair : Option Addr} {sl_least_pair : Array (Option Value)} {f_certify_alike : Addr} {oc_certify_alike kV_certify_alike dc_certify_alike pm_certify_alike cd_certify_alike ct_certify_alike : Value} {od_certify_alike an_certify_alike : Option Addr} {sl_certify_alike : Array (Option Value)} {f_certify_stable : Addr} {oc_certify_stable kV_certify_stable dc_certify_stable pm_certify_stable cd_certify_stable ct_certify_stable : Value} {od_certify_stable an_certify_stable : Option Addr} {sl_certify_stable : Array (Option Value)} {f_certify_possible : Addr} {oc_certify_possible kV_certify_possible dc_certify_possible pm_certify_possible cd_certify_possible ct_certify_possible : Value} {od_certify_possible an_certify_possible : Option Addr} {sl_certify_possible : Array (Option Value)} {f_certify_confused : Addr} {oc_certify_confused kV_certify_confused dc_certify_confused pm_certify_confused cd_certify_confused ct_certify_confused : Value} {od_certify_confused an_certify_confused : Option Addr} {sl_certify_confused : Array (Option Value)} {f_written_plan : Addr} {oc_written_plan kV_written_plan dc_written_plan pm_written_plan cd_written_plan ct_written_plan : Value} {od_written_plan an_written_plan : Option Addr} {sl_written_plan : Array (Option Value)} {f_plan_table : Addr} {oc_plan_table kV_plan_table dc_plan_table pm_plan_table cd_plan_table ct_plan_table : Value} {od_plan_table an_plan_table : Option Addr} {sl_plan_table : Array (Option Value)} {f_view_report : Addr} {oc_view_report kV_view_report dc_view_report pm_view_report cd_view_report ct_view_report : Value} {od_view_report an_view_report : Option Addr} {sl_view_report : Array (Option Value)} {f_law_pot : Addr} {oc_law_pot kV_law_pot dc_law_pot pm_law_pot cd_law_pot ct_law_pot : Value} {od_law_pot an_law_pot : Option Addr} {sl_law_pot : Array (Option Value)} {f_law_ladle : Addr} {oc_law_ladle kV_law_ladle dc_law_ladle pm_law_ladle cd_law_ladle ct_law_ladle : Value} {od_law_ladle an_law_ladle : Option Addr} {sl_law_ladle : Array (Option Value)} {f_law_one_of : Addr} {oc_law_one_of kV_law_one_of dc_law_one_of pm_law_one_of cd_law_one_of ct_law_one_of : Value} {od_law_one_of an_law_one_of : Option Addr} {sl_law_one_of : Array (Option Value)} {f_law_ended : Addr} {oc_law_ended kV_law_ended dc_law_ended pm_law_ended cd_law_ended ct_law_ended : Value} {od_law_ended an_law_ended : Option Addr} {sl_law_ended : Array (Option Value)} {f_law_right : Addr} {oc_law_right kV_law_right dc_law_right pm_law_right cd_law_right ct_law_right : Value} {od_law_right an_law_right : Option Addr} {sl_law_right : Array (Option Value)} {f_law : Addr} {oc_law kV_law dc_law pm_law cd_law ct_law : Value} {od_law an_law : Option Addr} {sl_law : Array (Option Value)} {C : Addr} {f_is : Addr} {oc_is kV_is dc_is pm_is cd_is ct_is : Value} {od_is an_is : Option Addr} {sl_is : Array (Option Value)} {U_InputError M_InputError : Addr} {q_InputError : Str} {bs_InputError sub_InputError : List Value} {sn_InputError : List Str} {ab_InputError : Bool} {col_InputError : Option Bool} {dd_InputError : Option Addr} {m0_InputError m1_InputError m2_InputError m3_InputError m5_InputError : Option Value} {E_InvalidText M_InvalidText : Addr} {q_InvalidText : Str} {bs_InvalidText sub_InvalidText : List Value} {sn_InvalidText : List Str} {ab_InvalidText : Bool} {col_InvalidText : Option Bool} {dd_InvalidText : Option Addr} {m0_InvalidText m1_InvalidText m2_InvalidText m3_InvalidText m5_InvalidText : Option Value} {f_xInvalidText : Addr} {oc_xInvalidText kV_xInvalidText dc_xInvalidText pm_xInvalidText cd_xInvalidText ct_xInvalidText : Value} {od_xInvalidText an_xInvalidText : Option Addr} {sl_xInvalidText : Array (Option Value)} {E_InvalidLength M_InvalidLength : Addr} {q_InvalidLength : Str} {bs_InvalidLength sub_InvalidLength : List Value} {sn_InvalidLength : List Str} {ab_InvalidLength : Bool} {col_InvalidLength : Option Bool} {dd_InvalidLength : Option Addr} {m0_InvalidLength m1_InvalidLength m2_InvalidLength m3_InvalidLength m5_InvalidLength : Option Value} {f_xInvalidLength : Addr} {oc_xInvalidLength kV_xInvalidLength dc_xInvalidLength pm_xInvalidLength cd_xInvalidLength ct_xInvalidLength : Value} {od_xInvalidLength an_xInvalidLength : Option Addr} {sl_xInvalidLength : Array (Option Value)} {E_InvalidRow M_InvalidRow : Addr} {q_InvalidRow : Str} {bs_InvalidRow sub_InvalidRow : List Value} {sn_InvalidRow : List Str} {ab_InvalidRow : Bool} {col_InvalidRow : Option Bool} {dd_InvalidRow : Option Addr} {m0_InvalidRow m1_InvalidRow m2_InvalidRow m3_InvalidRow m5_InvalidRow : Option Value} {f_xInvalidRow : Addr} {oc_xInvalidRow kV_xInvalidRow dc_xInvalidRow pm_xInvalidRow cd_xInvalidRow ct_xInvalidRow : Value} {od_xInvalidRow an_xInvalidRow : Option Addr} {sl_xInvalidRow : Array (Option Value)} {E_InvalidViews M_InvalidViews : Addr} {q_InvalidViews : Str} {bs_InvalidViews sub_InvalidViews : List Value} {sn_InvalidViews : List Str} {ab_InvalidViews : Bool} {col_InvalidViews : Option Bool} {dd_InvalidViews : Option Addr} {m0_InvalidViews m1_InvalidViews m2_InvalidViews m3_InvalidViews m5_InvalidViews : Option Value} {f_xInvalidViews : Addr} {oc_xInvalidViews kV_xInvalidViews dc_xInvalidViews pm_xInvalidViews cd_xInvalidViews ct_xInvalidViews : Value} {od_xInvalidViews an_xInvalidViews : Option Addr} {sl_xInvalidViews : Array (Option Value)} {cc_law_right PP_law_right : Addr} {rd_law_right : DefRec} {u_MOST_SIGNS : Tok} {u_MOST_MARK : Tok} {u_MOST_ROW : Tok} {u_MOST_VIEWS : Tok} {u_MOST_TEXT : Tok} {u_MOST_LENGTH : Tok} {u_SIGNS : Tok} {u_SEVERAL : Tok} {u_MOST_TABLED : Tok} {u_NOTHING : Tok}
    (X : K.In h) (G : h.Ns mainGlobals mg) (TO : TabsOf q K h) (hfa : mg "law" = some (.ref fa))
    (a_is_integer : PySem.W.nsIn K mainGlobals "is_integer" = some (some (.ref f_is_integer)))
    (l_is_integer : K.lookup f_is_integer = some ⟨oc_is_integer, od_is_integer, .func (PySem.W.fnOf "is_integer" "is_integer" (defArgs s_is_integer) (defBody s_is_integer) (defScope s_is_integer) .none kV_is_integer dc_is_integer pm_is_integer an_is_integer cd_is_integer ct_is_integer), sl_is_integer⟩)
    (c_is_integer : PySem.W.codeIn K cd_is_integer "is_integer" = true)
    (k_is_integer : PySem.W.keepIn K (.ref f_is_integer) = true)
    (a_is_tuple : PySem.W.nsIn K mainGlobals "is_tuple" = some (some (.ref f_is_tuple)))
    (l_is_tuple : K.lookup f_is_tuple = some ⟨oc_is_tuple, od_is_tuple, .func (PySem.W.fnOf "is_tuple" "is_tuple" (defArgs s_is_tuple) (defBody s_is_tuple) (defScope s_is_tuple) .none kV_is_tuple dc_is_tuple pm_is_tuple an_is_tuple cd_is_tuple ct_is_tuple), sl_is_tuple⟩)
    (c_is_tuple : PySem.W.codeIn K cd_is_tuple "is_tuple" = true)
    (k_is_tuple : PySem.W.keepIn K (.ref f_is_tuple) = true)
    (a_is_text : PySem.W.nsIn K mainGlobals "is_text" = some (some (.ref f_is_text)))
    (l_is_text : K.lookup f_is_text = some ⟨oc_is_text, od_is_text, .func (PySem.W.fnOf "is_text" "is_text" (defArgs s_is_text) (defBody s_is_text) (defScope s_is_text) .none kV_is_text dc_is_text pm_is_text an_is_text cd_is_text ct_is_text), sl_is_text⟩)
    (c_is_text : PySem.W.codeIn K cd_is_text "is_text" = true)
    (k_is_text : PySem.W.keepIn K (.ref f_is_text) = true)
    (a_check_mark : PySem.W.nsIn K mainGlobals "check_mark" = some (some (.ref f_check_mark)))
    (l_check_mark : K.lookup f_check_mark = some ⟨oc_check_mark, od_check_mark, .func (PySem.W.fnOf "check_mark" "check_mark" (defArgs s_check_mark) (defBody s_check_mark) (defScope s_check_mark) .none kV_check_mark dc_check_mark pm_check_mark an_check_mark cd_check_mark ct_check_mark), sl_check_mark⟩)
    (c_check_mark : PySem.W.codeIn K cd_check_mark "check_mark" = true)
    (k_check_mark : PySem.W.keepIn K (.ref f_check_mark) = true)
    (a_check_text : PySem.W.nsIn K mainGlobals "check_text" = some (some (.ref f_check_text)))
    (l_check_text : K.lookup f_check_text = some ⟨oc_check_text, od_check_text, .func (PySem.W.fnOf "check_text" "check_text" (defArgs s_check_text) (defBody s_check_text) (defScope s_check_text) .none kV_check_text dc_check_text pm_check_text an_check_text cd_check_text ct_check_text), sl_check_text⟩)
    (c_check_text : PySem.W.codeIn K cd_check_text "check_text" = true)
    (k_check_text : PySem.W.keepIn K (.ref f_check_text) = true)
    (a_check_length : PySem.W.nsIn K mainGlobals "check_length" = some (some (.ref f_check_length)))
    (l_check_length : K.lookup f_check_length = some ⟨oc_check_length, od_check_length, .func (PySem.W.fnOf "check_length" "check_length" (defArgs s_check_length) (defBody s_check_length) (defScope s_check_length) .none kV_check_length dc_check_length pm_check_length an_check_length cd_check_length ct_check_length), sl_check_length⟩)
    (c_check_length : PySem.W.codeIn K cd_check_length "check_length" = true)
    (k_check_length : PySem.W.keepIn K (.ref f_check_length) = true)
    (a_is_row : PySem.W.nsIn K mainGlobals "is_row" = some (some (.ref f_is_row)))
    (l_is_row : K.lookup f_is_row = some ⟨oc_is_row, od_is_row, .func (PySem.W.fnOf "is_row" "is_row" (defArgs s_is_row) (defBody s_is_row) (defScope s_is_row) .none kV_is_row dc_is_row pm_is_row an_is_row cd_is_row ct_is_row), sl_is_row⟩)
    (c_is_row : PySem.W.codeIn K cd_is_row "is_row" = true)
    (k_is_row : PySem.W.keepIn K (.ref f_is_row) = true)
    (a_check_row : PySem.W.nsIn K mainGlobals "check_row" = some (some (.ref f_check_row)))
    (l_check_row : K.lookup f_check_row = some ⟨oc_check_row, od_check_row, .func (PySem.W.fnOf "check_row" "check_row" (defArgs s_check_row) (defBody s_check_row) (defScope s_check_row) .none kV_check_row dc_check_row pm_check_row an_check_row cd_check_row ct_check_row), sl_check_row⟩)
    (c_check_row : PySem.W.codeIn K cd_check_row "check_row" = true)
    (k_check_row : PySem.W.keepIn K (.ref f_check_row) = true)
    (a_shortened : PySem.W.nsIn K mainGlobals "shortened" = some (some (.ref f_shortened)))
    (l_shortened : K.lookup f_shortened = some ⟨oc_shortened, od_shortened, .func (PySem.W.fnOf "shortened" "shortened" (defArgs s_shortened) (defBody s_shortened) (defScope s_shortened) .none kV_shortened dc_shortened pm_shortened an_shortened cd_shortened ct_shortened), sl_shortened⟩)
    (c_shortened : PySem.W.codeIn K cd_shortened "shortened" = true)
    (k_shortened : PySem.W.keepIn K (.ref f_shortened) = true)
    (a_planned : PySem.W.nsIn K mainGlobals "planned" = some (some (.ref f_planned)))
    (l_planned : K.lookup f_planned = some ⟨oc_planned, od_planned, .func (PySem.W.fnOf "planned" "planned" (defArgs s_planned) (defBody s_planned) (defScope s_planned) .none kV_planned dc_planned pm_planned an_planned cd_planned ct_planned), sl_planned⟩)
    (c_planned : PySem.W.codeIn K cd_planned "planned" = true)
    (k_planned : PySem.W.keepIn K (.ref f_planned) = true)
    (a_first_unlike : PySem.W.nsIn K mainGlobals "first_unlike" = some (some (.ref f_first_unlike)))
    (l_first_unlike : K.lookup f_first_unlike = some ⟨oc_first_unlike, od_first_unlike, .func (PySem.W.fnOf "first_unlike" "first_unlike" (defArgs s_first_unlike) (defBody s_first_unlike) (defScope s_first_unlike) .none kV_first_unlike dc_first_unlike pm_first_unlike an_first_unlike cd_first_unlike ct_first_unlike), sl_first_unlike⟩)
    (c_first_unlike : PySem.W.codeIn K cd_first_unlike "first_unlike" = true)
    (k_first_unlike : PySem.W.keepIn K (.ref f_first_unlike) = true)
    (a_first_unstable : PySem.W.nsIn K mainGlobals "first_unstable" = some (some (.ref f_first_unstable)))
    (l_first_unstable : K.lookup f_first_unstable = some ⟨oc_first_unstable, od_first_unstable, .func (PySem.W.fnOf "first_unstable" "first_unstable" (defArgs s_first_unstable) (defBody s_first_unstable) (defScope s_first_unstable) .none kV_first_unstable dc_first_unstable pm_first_unstable an_first_unstable cd_first_unstable ct_first_unstable), sl_first_unstable⟩)
    (c_first_unstable : PySem.W.codeIn K cd_first_unstable "first_unstable" = true)
    (k_first_unstable : PySem.W.keepIn K (.ref f_first_unstable) = true)
    (a_is_view : PySem.W.nsIn K mainGlobals "is_view" = some (some (.ref f_is_view)))
    (l_is_view : K.lookup f_is_view = some ⟨oc_is_view, od_is_view, .func (PySem.W.fnOf "is_view" "is_view" (defArgs s_is_view) (defBody s_is_view) (defScope s_is_view) .none kV_is_view dc_is_view pm_is_view an_is_view cd_is_view ct_is_view), sl_is_view⟩)
    (c_is_view : PySem.W.codeIn K cd_is_view "is_view" = true)
    (k_is_view : PySem.W.keepIn K (.ref f_is_view) = true)
    (a_check_views : PySem.W.nsIn K mainGlobals "check_views" = some (some (.ref f_check_views)))
    (l_check_views : K.lookup f_check_views = some ⟨oc_check_views, od_check_views, .func (PySem.W.fnOf "check_views" "check_views" (defArgs s_check_views) (defBody s_check_views) (defScope s_check_views) .none kV_check_views dc_check_views pm_check_views an_check_views cd_check_views ct_check_views), sl_check_views⟩)
    (c_check_views : PySem.W.codeIn K cd_check_views "check_views" = true)
    (k_check_views : PySem.W.keepIn K (.ref f_check_views) = true)
    (a_lengths : PySem.W.nsIn K mainGlobals "lengths" = some (some (.ref f_lengths)))
    (l_lengths : K.lookup f_lengths = some ⟨oc_lengths, od_lengths, .func (PySem.W.fnOf "lengths" "lengths" (defArgs s_lengths) (defBody s_lengths) (defScope s_lengths) .none kV_lengths dc_lengths pm_lengths an_lengths cd_lengths ct_lengths), sl_lengths⟩)
    (c_lengths : PySem.W.codeIn K cd_lengths "lengths" = true)
    (k_lengths : PySem.W.keepIn K (.ref f_lengths) = true)
    (a_least_pair : PySem.W.nsIn K mainGlobals "least_pair" = some (some (.ref f_least_pair)))
    (l_least_pair : K.lookup f_least_pair = some ⟨oc_least_pair, od_least_pair, .func (PySem.W.fnOf "least_pair" "least_pair" (defArgs s_least_pair) (defBody s_least_pair) (defScope s_least_pair) .none kV_least_pair dc_least_pair pm_least_pair an_least_pair cd_least_pair ct_least_pair), sl_least_pair⟩)
    (c_least_pair : PySem.W.codeIn K cd_least_pair "least_pair" = true)
    (k_least_pair : PySem.W.keepIn K (.ref f_least_pair) = true)
    (a_certify_alike : PySem.W.nsIn K mainGlobals "certify_alike" = some (some (.ref f_certify_alike)))
    (l_certify_alike : K.lookup f_certify_alike = some ⟨oc_certify_alike, od_certify_alike, .func (PySem.W.fnOf "certify_alike" "certify_alike" (defArgs s_certify_alike) (defBody s_certify_alike) (defScope s_certify_alike) .none kV_certify_alike dc_certify_alike pm_certify_alike an_certify_alike cd_certify_alike ct_certify_alike), sl_certify_alike⟩)
    (c_certify_alike : PySem.W.codeIn K cd_certify_alike "certify_alike" = true)
    (k_certify_alike : PySem.W.keepIn K (.ref f_certify_alike) = true)
    (a_certify_stable : PySem.W.nsIn K mainGlobals "certify_stable" = some (some (.ref f_certify_stable)))
    (l_certify_stable : K.lookup f_certify_stable = some ⟨oc_certify_stable, od_certify_stable, .func (PySem.W.fnOf "certify_stable" "certify_stable" (defArgs s_certify_stable) (defBody s_certify_stable) (defScope s_certify_stable) .none kV_certify_stable dc_certify_stable pm_certify_stable an_certify_stable cd_certify_stable ct_certify_stable), sl_certify_stable⟩)
    (c_certify_stable : PySem.W.codeIn K cd_certify_stable "certify_stable" = true)
    (k_certify_stable : PySem.W.keepIn K (.ref f_certify_stable) = true)
    (a_certify_possible : PySem.W.nsIn K mainGlobals "certify_possible" = some (some (.ref f_certify_possible)))
    (l_certify_possible : K.lookup f_certify_possible = some ⟨oc_certify_possible, od_certify_possible, .func (PySem.W.fnOf "certify_possible" "certify_possible" (defArgs s_certify_possible) (defBody s_certify_possible) (defScope s_certify_possible) .none kV_certify_possible dc_certify_possible pm_certify_possible an_certify_possible cd_certify_possible ct_certify_possible), sl_certify_possible⟩)
    (c_certify_possible : PySem.W.codeIn K cd_certify_possible "certify_possible" = true)
    (k_certify_possible : PySem.W.keepIn K (.ref f_certify_possible) = true)
    (a_certify_confused : PySem.W.nsIn K mainGlobals "certify_confused" = some (some (.ref f_certify_confused)))
    (l_certify_confused : K.lookup f_certify_confused = some ⟨oc_certify_confused, od_certify_confused, .func (PySem.W.fnOf "certify_confused" "certify_confused" (defArgs s_certify_confused) (defBody s_certify_confused) (defScope s_certify_confused) .none kV_certify_confused dc_certify_confused pm_certify_confused an_certify_confused cd_certify_confused ct_certify_confused), sl_certify_confused⟩)
    (c_certify_confused : PySem.W.codeIn K cd_certify_confused "certify_confused" = true)
    (k_certify_confused : PySem.W.keepIn K (.ref f_certify_confused) = true)
    (a_written_plan : PySem.W.nsIn K mainGlobals "written_plan" = some (some (.ref f_written_plan)))
    (l_written_plan : K.lookup f_written_plan = some ⟨oc_written_plan, od_written_plan, .func (PySem.W.fnOf "written_plan" "written_plan" (defArgs s_written_plan) (defBody s_written_plan) (defScope s_written_plan) .none kV_written_plan dc_written_plan pm_written_plan an_written_plan cd_written_plan ct_written_plan), sl_written_plan⟩)
    (c_written_plan : PySem.W.codeIn K cd_written_plan "written_plan" = true)
    (k_written_plan : PySem.W.keepIn K (.ref f_written_plan) = true)
    (a_plan_table : PySem.W.nsIn K mainGlobals "plan_table" = some (some (.ref f_plan_table)))
    (l_plan_table : K.lookup f_plan_table = some ⟨oc_plan_table, od_plan_table, .func (PySem.W.fnOf "plan_table" "plan_table" (defArgs s_plan_table) (defBody s_plan_table) (defScope s_plan_table) .none kV_plan_table dc_plan_table pm_plan_table an_plan_table cd_plan_table ct_plan_table), sl_plan_table⟩)
    (c_plan_table : PySem.W.codeIn K cd_plan_table "plan_table" = true)
    (k_plan_table : PySem.W.keepIn K (.ref f_plan_table) = true)
    (a_view_report : PySem.W.nsIn K mainGlobals "view_report" = some (some (.ref f_view_report)))
    (l_view_report : K.lookup f_view_report = some ⟨oc_view_report, od_view_report, .func (PySem.W.fnOf "view_report" "view_report" (defArgs s_view_report) (defBody s_view_report) (defScope s_view_report) .none kV_view_report dc_view_report pm_view_report an_view_report cd_view_report ct_view_report), sl_view_report⟩)
    (c_view_report : PySem.W.codeIn K cd_view_report "view_report" = true)
    (k_view_report : PySem.W.keepIn K (.ref f_view_report) = true)
    (a_law_pot : PySem.W.nsIn K mainGlobals "_law_pot" = some (some (.ref f_law_pot)))
    (l_law_pot : K.lookup f_law_pot = some ⟨oc_law_pot, od_law_pot, .func (PySem.W.fnOf "_law_pot" "_law_pot" (defArgs s_law_pot) (defBody s_law_pot) (defScope s_law_pot) .none kV_law_pot dc_law_pot pm_law_pot an_law_pot cd_law_pot ct_law_pot), sl_law_pot⟩)
    (c_law_pot : PySem.W.codeIn K cd_law_pot "_law_pot" = true)
    (k_law_pot : PySem.W.keepIn K (.ref f_law_pot) = true)
    (a_law_ladle : PySem.W.nsIn K mainGlobals "_law_ladle" = some (some (.ref f_law_ladle)))
    (l_law_ladle : K.lookup f_law_ladle = some ⟨oc_law_ladle, od_law_ladle, .func (PySem.W.fnOf "_law_ladle" "_law_ladle" (defArgs s_law_ladle) (defBody s_law_ladle) (defScope s_law_ladle) .none kV_law_ladle dc_law_ladle pm_law_ladle an_law_ladle cd_law_ladle ct_law_ladle), sl_law_ladle⟩)
    (c_law_ladle : PySem.W.codeIn K cd_law_ladle "_law_ladle" = true)
    (k_law_ladle : PySem.W.keepIn K (.ref f_law_ladle) = true)
    (a_law_one_of : PySem.W.nsIn K mainGlobals "_law_one_of" = some (some (.ref f_law_one_of)))
    (l_law_one_of : K.lookup f_law_one_of = some ⟨oc_law_one_of, od_law_one_of, .func (PySem.W.fnOf "_law_one_of" "_law_one_of" (defArgs s_law_one_of) (defBody s_law_one_of) (defScope s_law_one_of) .none kV_law_one_of dc_law_one_of pm_law_one_of an_law_one_of cd_law_one_of ct_law_one_of), sl_law_one_of⟩)
    (c_law_one_of : PySem.W.codeIn K cd_law_one_of "_law_one_of" = true)
    (k_law_one_of : PySem.W.keepIn K (.ref f_law_one_of) = true)
    (a_law_ended : PySem.W.nsIn K mainGlobals "_law_ended" = some (some (.ref f_law_ended)))
    (l_law_ended : K.lookup f_law_ended = some ⟨oc_law_ended, od_law_ended, .func (PySem.W.fnOf "_law_ended" "_law_ended" (defArgs s_law_ended) (defBody s_law_ended) (defScope s_law_ended) .none kV_law_ended dc_law_ended pm_law_ended an_law_ended cd_law_ended ct_law_ended), sl_law_ended⟩)
    (c_law_ended : PySem.W.codeIn K cd_law_ended "_law_ended" = true)
    (k_law_ended : PySem.W.keepIn K (.ref f_law_ended) = true)
    (a_law_right : PySem.W.nsIn K mainGlobals "_law_right" = some (some (.ref f_law_right)))
    (l_law_right : K.lookup f_law_right = some ⟨oc_law_right, od_law_right, .func (PySem.W.fnOf "_law_right" "_law_right" (defArgs s_law_right) (defBody s_law_right) (defScope s_law_right) .none kV_law_right dc_law_right pm_law_right an_law_right cd_law_right ct_law_right), sl_law_right⟩)
    (c_law_right : PySem.W.codeIn K cd_law_right "_law_right" = true)
    (k_law_right : PySem.W.keepIn K (.ref f_law_right) = true)
    (a_law : PySem.W.nsIn K mainGlobals "law" = some (some (.ref f_law)))
    (l_law : K.lookup f_law = some ⟨oc_law, od_law, .func (PySem.W.fnOf "law" "law" (defArgs s_law) (defBody s_law) (defScope s_law) .none kV_law dc_law pm_law an_law cd_law ct_law), sl_law⟩)
    (c_law : PySem.W.codeIn K cd_law "law" = true)
    (k_law : PySem.W.keepIn K (.ref f_law) = true)
    (qn : PySem.W.specialIn K (.builtin "object.__class__") "__get__" = some (some (.builtin "getset_descriptor.__get__")))
    (qt : PySem.W.takesIn K (.builtin "object.__class__") = some true)
    (asC : PySem.W.nsIn K mainGlobals "Shortener" = some (some (.ref C)))
    (a_is : PySem.W.findIn K (.ref C) "__init__" = some (some (.ref f_is)))
    (l_is : K.lookup f_is = some ⟨oc_is, od_is, .func (PySem.W.fnOf "__init__" "Shortener.__init__" (defArgs s_Shortener_init) (defBody s_Shortener_init) (defScope s_Shortener_init) .none kV_is dc_is pm_is an_is cd_is ct_is), sl_is⟩)
    (c_is : PySem.W.codeIn K cd_is "Shortener.__init__" = true)
    (k_is : PySem.W.keepIn K (.ref f_is) = true)
    (i_is : PySem.W.isFn K (.ref f_is) = true)
    (pgs : PySem.W.plainGet K C Str.empty = true)
    (hds : PySem.W.hasDictIn K C = true)
    (pos : PySem.W.plainOver K C = true)
    (sas : PySem.W.findIn K (.ref C) "__setattr__" = some (some (.builtin "object.__setattr__")))
    (mksC : PySem.W.makesIn K C = true)
    (ksC : PySem.W.keepIn K (.ref C) = true)
    (ns_limit : PySem.W.findIn K (.ref C) "limit" = some none)
    (ns_head : PySem.W.findIn K (.ref C) "head" = some none)
    (ns_tail : PySem.W.findIn K (.ref C) "tail" = some none)
    (ns_mark : PySem.W.findIn K (.ref C) "mark" = some none)
    (ns_told : PySem.W.findIn K (.ref C) "told" = some none)
    (qas : PySem.W.findIn K (.ref C) "__class__" = some (some (.builtin "object.__class__")))
    (qms : PySem.W.mroIn K C (.type "object") = some true)
    (xts : PySem.W.typeIn K (.ref C) = some (.type "type"))
    (xns : PySem.W.mroIn K C (.type "tuple") = some false)
    (xss : PySem.W.mroIn K C (.type "str") = some false)
    (ea_InputError : PySem.W.nsIn K mainGlobals "InputError" = some (some (.ref U_InputError)))
    (ex_InputError : K.lookup U_InputError = some (excClassObj "InputError" q_InputError U_InputError M_InputError bs_InputError [.type "ValueError", .type "Exception", .type "BaseException", .type "object"] true sn_InputError sub_InputError ab_InputError col_InputError dd_InputError m0_InputError m1_InputError m2_InputError m3_InputError m5_InputError "ValueError.__new__"))
    (et_InputError : PySem.W.typeIn K (.ref U_InputError) = some (.type "type"))
    (ea_InvalidText : PySem.W.nsIn K mainGlobals "InvalidText" = some (some (.ref E_InvalidText)))
    (ex_InvalidText : K.lookup E_InvalidText = some (excClassObj "InvalidText" q_InvalidText E_InvalidText M_InvalidText bs_InvalidText (.ref U_InputError :: [.type "ValueError", .type "Exception", .type "BaseException", .type "object"]) true sn_InvalidText sub_InvalidText ab_InvalidText col_InvalidText dd_InvalidText m0_InvalidText m1_InvalidText m2_InvalidText m3_InvalidText m5_InvalidText "ValueError.__new__"))
    (et_InvalidText : PySem.W.typeIn K (.ref E_InvalidText) = some (.type "type"))
    (eset_InvalidText : PySem.W.findIn K (.ref E_InvalidText) "__setattr__" = some (some (.builtin "object.__setattr__")))
    (eget_InvalidText : PySem.W.findIn K (.ref E_InvalidText) "__getattribute__" = some (some (.builtin "BaseException.__getattribute__")))
    (ecla_InvalidText : PySem.W.findIn K (.ref E_InvalidText) "__class__" = some (some (.builtin "object.__class__")))
    (egg_InvalidText : PySem.W.findIn K (.ref E_InvalidText) "__getattr__" = some none)
    (ek_InvalidText : PySem.W.keepIn K (.ref E_InvalidText) = true)
    (en_InvalidText : PySem.W.findIn K (.ref E_InvalidText) "value" = some none)
    (a_xInvalidText : PySem.W.findIn K (.ref E_InvalidText) "__init__" = some (some (.ref f_xInvalidText)))
    (l_xInvalidText : K.lookup f_xInvalidText = some ⟨oc_xInvalidText, od_xInvalidText, .func (PySem.W.fnOf "__init__" "InvalidText.__init__" (defArgs s_InvalidText_init) (defBody s_InvalidText_init) (defScope s_InvalidText_init) .none kV_xInvalidText dc_xInvalidText pm_xInvalidText an_xInvalidText cd_xInvalidText ct_xInvalidText), sl_xInvalidText⟩)
    (c_xInvalidText : PySem.W.codeIn K cd_xInvalidText "InvalidText.__init__" = true)
    (k_xInvalidText : PySem.W.keepIn K (.ref f_xInvalidText) = true)
    (ei_InvalidText : PySem.W.typeIn K (.ref f_xInvalidText) = some (.type "function"))
    (ea_InvalidLength : PySem.W.nsIn K mainGlobals "InvalidLength" = some (some (.ref E_InvalidLength)))
    (ex_InvalidLength : K.lookup E_InvalidLength = some (excClassObj "InvalidLength" q_InvalidLength E_InvalidLength M_InvalidLength bs_InvalidLength (.ref U_InputError :: [.type "ValueError", .type "Exception", .type "BaseException", .type "object"]) true sn_InvalidLength sub_InvalidLength ab_InvalidLength col_InvalidLength dd_InvalidLength m0_InvalidLength m1_InvalidLength m2_InvalidLength m3_InvalidLength m5_InvalidLength "ValueError.__new__"))
    (et_InvalidLength : PySem.W.typeIn K (.ref E_InvalidLength) = some (.type "type"))
    (eset_InvalidLength : PySem.W.findIn K (.ref E_InvalidLength) "__setattr__" = some (some (.builtin "object.__setattr__")))
    (eget_InvalidLength : PySem.W.findIn K (.ref E_InvalidLength) "__getattribute__" = some (some (.builtin "BaseException.__getattribute__")))
    (ecla_InvalidLength : PySem.W.findIn K (.ref E_InvalidLength) "__class__" = some (some (.builtin "object.__class__")))
    (egg_InvalidLength : PySem.W.findIn K (.ref E_InvalidLength) "__getattr__" = some none)
    (ek_InvalidLength : PySem.W.keepIn K (.ref E_InvalidLength) = true)
    (en_InvalidLength : PySem.W.findIn K (.ref E_InvalidLength) "value" = some none)
    (a_xInvalidLength : PySem.W.findIn K (.ref E_InvalidLength) "__init__" = some (some (.ref f_xInvalidLength)))
    (l_xInvalidLength : K.lookup f_xInvalidLength = some ⟨oc_xInvalidLength, od_xInvalidLength, .func (PySem.W.fnOf "__init__" "InvalidLength.__init__" (defArgs s_InvalidLength_init) (defBody s_InvalidLength_init) (defScope s_InvalidLength_init) .none kV_xInvalidLength dc_xInvalidLength pm_xInvalidLength an_xInvalidLength cd_xInvalidLength ct_xInvalidLength), sl_xInvalidLength⟩)
    (c_xInvalidLength : PySem.W.codeIn K cd_xInvalidLength "InvalidLength.__init__" = true)
    (k_xInvalidLength : PySem.W.keepIn K (.ref f_xInvalidLength) = true)
    (ei_InvalidLength : PySem.W.typeIn K (.ref f_xInvalidLength) = some (.type "function"))
    (ea_InvalidRow : PySem.W.nsIn K mainGlobals "InvalidRow" = some (some (.ref E_InvalidRow)))
    (ex_InvalidRow : K.lookup E_InvalidRow = some (excClassObj "InvalidRow" q_InvalidRow E_InvalidRow M_InvalidRow bs_InvalidRow (.ref U_InputError :: [.type "ValueError", .type "Exception", .type "BaseException", .type "object"]) true sn_InvalidRow sub_InvalidRow ab_InvalidRow col_InvalidRow dd_InvalidRow m0_InvalidRow m1_InvalidRow m2_InvalidRow m3_InvalidRow m5_InvalidRow "ValueError.__new__"))
    (et_InvalidRow : PySem.W.typeIn K (.ref E_InvalidRow) = some (.type "type"))
    (eset_InvalidRow : PySem.W.findIn K (.ref E_InvalidRow) "__setattr__" = some (some (.builtin "object.__setattr__")))
    (eget_InvalidRow : PySem.W.findIn K (.ref E_InvalidRow) "__getattribute__" = some (some (.builtin "BaseException.__getattribute__")))
    (ecla_InvalidRow : PySem.W.findIn K (.ref E_InvalidRow) "__class__" = some (some (.builtin "object.__class__")))
    (egg_InvalidRow : PySem.W.findIn K (.ref E_InvalidRow) "__getattr__" = some none)
    (ek_InvalidRow : PySem.W.keepIn K (.ref E_InvalidRow) = true)
    (en_InvalidRow : PySem.W.findIn K (.ref E_InvalidRow) "index" = some none)
    (a_xInvalidRow : PySem.W.findIn K (.ref E_InvalidRow) "__init__" = some (some (.ref f_xInvalidRow)))
    (l_xInvalidRow : K.lookup f_xInvalidRow = some ⟨oc_xInvalidRow, od_xInvalidRow, .func (PySem.W.fnOf "__init__" "InvalidRow.__init__" (defArgs s_InvalidRow_init) (defBody s_InvalidRow_init) (defScope s_InvalidRow_init) .none kV_xInvalidRow dc_xInvalidRow pm_xInvalidRow an_xInvalidRow cd_xInvalidRow ct_xInvalidRow), sl_xInvalidRow⟩)
    (c_xInvalidRow : PySem.W.codeIn K cd_xInvalidRow "InvalidRow.__init__" = true)
    (k_xInvalidRow : PySem.W.keepIn K (.ref f_xInvalidRow) = true)
    (ei_InvalidRow : PySem.W.typeIn K (.ref f_xInvalidRow) = some (.type "function"))
    (ea_InvalidViews : PySem.W.nsIn K mainGlobals "InvalidViews" = some (some (.ref E_InvalidViews)))
    (ex_InvalidViews : K.lookup E_InvalidViews = some (excClassObj "InvalidViews" q_InvalidViews E_InvalidViews M_InvalidViews bs_InvalidViews (.ref U_InputError :: [.type "ValueError", .type "Exception", .type "BaseException", .type "object"]) true sn_InvalidViews sub_InvalidViews ab_InvalidViews col_InvalidViews dd_InvalidViews m0_InvalidViews m1_InvalidViews m2_InvalidViews m3_InvalidViews m5_InvalidViews "ValueError.__new__"))
    (et_InvalidViews : PySem.W.typeIn K (.ref E_InvalidViews) = some (.type "type"))
    (eset_InvalidViews : PySem.W.findIn K (.ref E_InvalidViews) "__setattr__" = some (some (.builtin "object.__setattr__")))
    (eget_InvalidViews : PySem.W.findIn K (.ref E_InvalidViews) "__getattribute__" = some (some (.builtin "BaseException.__getattribute__")))
    (ecla_InvalidViews : PySem.W.findIn K (.ref E_InvalidViews) "__class__" = some (some (.builtin "object.__class__")))
    (egg_InvalidViews : PySem.W.findIn K (.ref E_InvalidViews) "__getattr__" = some none)
    (ek_InvalidViews : PySem.W.keepIn K (.ref E_InvalidViews) = true)
    (en_InvalidViews : PySem.W.findIn K (.ref E_InvalidViews) "index" = some none)
    (a_xInvalidViews : PySem.W.findIn K (.ref E_InvalidViews) "__init__" = some (some (.ref f_xInvalidViews)))
    (l_xInvalidViews : K.lookup f_xInvalidViews = some ⟨oc_xInvalidViews, od_xInvalidViews, .func (PySem.W.fnOf "__init__" "InvalidViews.__init__" (defArgs s_InvalidViews_init) (defBody s_InvalidViews_init) (defScope s_InvalidViews_init) .none kV_xInvalidViews dc_xInvalidViews pm_xInvalidViews an_xInvalidViews cd_xInvalidViews ct_xInvalidViews), sl_xInvalidViews⟩)
    (c_xInvalidViews : PySem.W.codeIn K cd_xInvalidViews "InvalidViews.__init__" = true)
    (k_xInvalidViews : PySem.W.keepIn K (.ref f_xInvalidViews) = true)
    (ei_InvalidViews : PySem.W.typeIn K (.ref f_xInvalidViews) = some (.type "function"))
    (tab_law_right : PySem.W.tabIn K "_law_right" = some (cc_law_right, PP_law_right))
    (cde_law_right : cd_law_right = .ref cc_law_right)
    (notab_law_right : K.lookup PP_law_right = none)
    (rec_law_right : (recsOf q).find? (fun e => e.name == ("_law_right" : Str)) = some rd_law_right)
    (z_ValueError : PySem.W.nsIn K mainGlobals "ValueError" = some none)
    (z_abs : PySem.W.nsIn K mainGlobals "abs" = some none)
    (z_all : PySem.W.nsIn K mainGlobals "all" = some none)
    (z_bool : PySem.W.nsIn K mainGlobals "bool" = some none)
    (z_divmod : PySem.W.nsIn K mainGlobals "divmod" = some none)
    (z_enumerate : PySem.W.nsIn K mainGlobals "enumerate" = some none)
    (z_int : PySem.W.nsIn K mainGlobals "int" = some none)
    (z_isinstance : PySem.W.nsIn K mainGlobals "isinstance" = some none)
    (z_len : PySem.W.nsIn K mainGlobals "len" = some none)
    (z_list : PySem.W.nsIn K mainGlobals "list" = some none)
    (z_max : PySem.W.nsIn K mainGlobals "max" = some none)
    (z_min : PySem.W.nsIn K mainGlobals "min" = some none)
    (z_range : PySem.W.nsIn K mainGlobals "range" = some none)
    (z_repr : PySem.W.nsIn K mainGlobals "repr" = some none)
    (z_str : PySem.W.nsIn K mainGlobals "str" = some none)
    (z_tuple : PySem.W.nsIn K mainGlobals "tuple" = some none)
    (z_zip : PySem.W.nsIn K mainGlobals "zip" = some none)
    (z_MOST_SIGNS : PySem.W.nsIn K mainGlobals "MOST_SIGNS" = some (some (.int 40 u_MOST_SIGNS)))
    (z_MOST_MARK : PySem.W.nsIn K mainGlobals "MOST_MARK" = some (some (.int 3 u_MOST_MARK)))
    (z_MOST_ROW : PySem.W.nsIn K mainGlobals "MOST_ROW" = some (some (.int 4 u_MOST_ROW)))
    (z_MOST_VIEWS : PySem.W.nsIn K mainGlobals "MOST_VIEWS" = some (some (.int 4 u_MOST_VIEWS)))
    (z_MOST_TEXT : PySem.W.nsIn K mainGlobals "MOST_TEXT" = some (some (.int 200 u_MOST_TEXT)))
    (z_MOST_LENGTH : PySem.W.nsIn K mainGlobals "MOST_LENGTH" = some (some (.int 500 u_MOST_LENGTH)))
    (z_SIGNS : PySem.W.nsIn K mainGlobals "SIGNS" = some (some (.str ".0123456789abcdefghijklmnopqrstuvwxyz~" u_SIGNS)))
    (z_SEVERAL : PySem.W.nsIn K mainGlobals "SEVERAL" = some (some (.str "?" u_SEVERAL)))
    (z_MOST_TABLED : PySem.W.nsIn K mainGlobals "MOST_TABLED" = some (some (.int 100 u_MOST_TABLED)))
    (z_NOTHING : PySem.W.nsIn K mainGlobals "NOTHING" = some (some (.str "-" u_NOTHING))) :
    ∃ (fd : FuncData) (cs : List (Addr × Addr)) (sp : Sp), (∀ p ∈ cs, PySem.W.CodeHd h p.1 p.2 ∧ h.get? p.2 = some tabNil ∧ K.lookup p.2 = none) ∧ (∀ (s : Shared) (u : Value), BindsTo s fd ⟨[u], []⟩ [("_law_script", u)]) ∧ (∀ (H : Hp) (a : Addr) (ns : List Int), ns.length ≤ 63 → (∀ p ∈ cs, H p.2 = some (.tbl #[])) → Sys H → SqL K H a (ns.map V.int) → sp [.ref a] H (fun v _ => v = .bl true) fun _ _ _ => False) ∧ ∀ base : Heap, K.In base → base.Ns mainGlobals mg → (∀ p ∈ cs, LamX.TabB base mg p.1 p.2) → FnG l.prog w K mg base 11 fa fd ["_law_script"] sp := by
  have e := hfa.symm.trans (PySem.W.mg_of X G a_law)
  cases e
  have B : Bi mg := ⟨PySem.W.mg_none_of X G z_ValueError, PySem.W.mg_none_of X G z_abs, PySem.W.mg_none_of X G z_all, PySem.W.mg_none_of X G z_bool, PySem.W.mg_none_of X G z_divmod, PySem.W.mg_none_of X G z_enumerate, PySem.W.mg_none_of X G z_int, PySem.W.mg_none_of X G z_isinstance, PySem.W.mg_none_of X G z_len, PySem.W.mg_none_of X G z_list, PySem.W.mg_none_of X G z_max, PySem.W.mg_none_of X G z_min, PySem.W.mg_none_of X G z_range, PySem.W.mg_none_of X G z_repr, PySem.W.mg_none_of X G z_str, PySem.W.mg_none_of X G z_tuple, PySem.W.mg_none_of X G z_zip, cst_mk X G ⟨_, rfl⟩ z_MOST_SIGNS, cst_mk X G ⟨_, rfl⟩ z_MOST_MARK, cst_mk X G ⟨_, rfl⟩ z_MOST_ROW, cst_mk X G ⟨_, rfl⟩ z_MOST_VIEWS, cst_mk X G ⟨_, rfl⟩ z_MOST_TEXT, cst_mk X G ⟨_, rfl⟩ z_MOST_LENGTH, cst_mk X G ⟨_, rfl⟩ z_SIGNS, cst_mk X G ⟨_, rfl⟩ z_SEVERAL, cst_mk X G ⟨_, rfl⟩ z_MOST_TABLED, cst_mk X G ⟨_, rfl⟩ z_NOTHING⟩
  have Ss : ShC K mg C := ⟨⟨pgs, hds, pos, sas⟩, ns_limit, ns_head, ns_tail, ns_mark, ns_told, PySem.W.mg_of X G asC, qas, qn, qt, qms, if_pos (beq_self_eq_true _)⟩
  have Xs : ShX K C := ⟨xts, xns, xss, cls_of_mro qms⟩
  have Is : InitAt K C := ⟨f_is, _, ⟨mksC, a_is, i_is, ksC⟩, fun_mk l_is c_is k_is, (fun_mk l_is c_is k_is).binds fun _ _ _ _ _ _ us hl => match us, hl with | [_, _, _, _, _], _ => rfl⟩
  have UK_InputError : UpK K mg bVE "InputError" U_InputError := ⟨PySem.W.mg_of X G ea_InputError, ⟨_, _, _, _, _, _, _, _, _, _, _, _, _, ex_InputError⟩, et_InputError⟩
  have EK_InvalidText : ErrK K mg bVE U_InputError "InvalidText" E_InvalidText := ⟨bVE_ok, PySem.W.mg_of X G ea_InvalidText, ⟨_, _, _, _, _, _, _, _, _, _, _, _, _, ex_InvalidText⟩, eset_InvalidText, eget_InvalidText, egg_InvalidText, ek_InvalidText, et_InvalidText, ecla_InvalidText, qn, qt⟩
  have EF_InvalidText : ErrF K "InvalidText" "value" E_InvalidText := ⟨.inl rfl, en_InvalidText, f_xInvalidText, s_InvalidText_init, ⟨_, _, _, _, _, _⟩, _, a_xInvalidText, ei_InvalidText, by rw [show (("InvalidText" : Str) ++ ".__init__" : Str) = "InvalidText.__init__" by decide +kernel]; exact fun_mk l_xInvalidText c_xInvalidText k_xInvalidText, rfl, rfl, rfl⟩
  have EK_InvalidLength : ErrK K mg bVE U_InputError "InvalidLength" E_InvalidLength := ⟨bVE_ok, PySem.W.mg_of X G ea_InvalidLength, ⟨_, _, _, _, _, _, _, _, _, _, _, _, _, ex_InvalidLength⟩, eset_InvalidLength, eget_InvalidLength, egg_InvalidLength, ek_InvalidLength, et_InvalidLength, ecla_InvalidLength, qn, qt⟩
  have EF_InvalidLength : ErrF K "InvalidLength" "value" E_InvalidLength := ⟨.inl rfl, en_InvalidLength, f_xInvalidLength, s_InvalidLength_init, ⟨_, _, _, _, _, _⟩, _, a_xInvalidLength, ei_InvalidLength, by rw [show (("InvalidLength" : Str) ++ ".__init__" : Str) = "InvalidLength.__init__" by decide +kernel]; exact fun_mk l_xInvalidLength c_xInvalidLength k_xInvalidLength, rfl, rfl, rfl⟩
  have EK_InvalidRow : ErrK K mg bVE U_InputError "InvalidRow" E_InvalidRow := ⟨bVE_ok, PySem.W.mg_of X G ea_InvalidRow, ⟨_, _, _, _, _, _, _, _, _, _, _, _, _, ex_InvalidRow⟩, eset_InvalidRow, eget_InvalidRow, egg_InvalidRow, ek_InvalidRow, et_InvalidRow, ecla_InvalidRow, qn, qt⟩
  have EF_InvalidRow : ErrF K "InvalidRow" "index" E_InvalidRow := ⟨.inr (.inl rfl), en_InvalidRow, f_xInvalidRow, s_InvalidRow_init, ⟨_, _, _, _, _, _⟩, _, a_xInvalidRow, ei_InvalidRow, by rw [show (("InvalidRow" : Str) ++ ".__init__" : Str) = "InvalidRow.__init__" by decide +kernel]; exact fun_mk l_xInvalidRow c_xInvalidRow k_xInvalidRow, rfl, rfl, rfl⟩
  have EK_InvalidViews : ErrK K mg bVE U_InputError "InvalidViews" E_InvalidViews := ⟨bVE_ok, PySem.W.mg_of X G ea_InvalidViews, ⟨_, _, _, _, _, _, _, _, _, _, _, _, _, ex_InvalidViews⟩, eset_InvalidViews, eget_InvalidViews, egg_InvalidViews, ek_InvalidViews, et_InvalidViews, ecla_InvalidViews, qn, qt⟩
  have EF_InvalidViews : ErrF K "InvalidViews" "index" E_InvalidViews := ⟨.inr (.inl rfl), en_InvalidViews, f_xInvalidViews, s_InvalidViews_init, ⟨_, _, _, _, _, _⟩, _, a_xInvalidViews, ei_InvalidViews, by rw [show (("InvalidViews" : Str) ++ ".__init__" : Str) = "InvalidViews.__init__" by decide +kernel]; exact fun_mk l_xInvalidViews c_xInvalidViews k_xInvalidViews, rfl, rfl, rfl⟩
  have AC_law_right : AtC K mg "_law_right" s_law_right ps_law_right cc_law_right := ⟨f_law_right, _, fun_mk l_law_right c_law_right k_law_right, (fun_mk l_law_right c_law_right k_law_right).binds (fun _ _ _ _ _ _ us hl => match us, hl with | [_], _ => rfl), PySem.W.mg_of X G a_law_right, cde_law_right⟩
  have TO_law_right := TO "_law_right" rd_law_right cc_law_right PP_law_right rec_law_right tab_law_right
  have A_is_integer : At K mg "is_integer" s_is_integer ps_is_integer := at_mk X G (fun _ _ _ _ _ _ us hl => match us, hl with | [_, _, _], _ => rfl) a_is_integer l_is_integer c_is_integer k_is_integer
  have A_is_tuple : At K mg "is_tuple" s_is_tuple ps_is_tuple := at_mk X G (fun _ _ _ _ _ _ us hl => match us, hl with | [_, _, _], _ => rfl) a_is_tuple l_is_tuple c_is_tuple k_is_tuple
  have A_is_text : At K mg "is_text" s_is_text ps_is_text := at_mk X G (fun _ _ _ _ _ _ us hl => match us, hl with | [_, _], _ => rfl) a_is_text l_is_text c_is_text k_is_text
  have A_check_mark : At K mg "check_mark" s_check_mark ps_check_mark := at_mk X G (fun _ _ _ _ _ _ us hl => match us, hl with | [_], _ => rfl) a_check_mark l_check_mark c_check_mark k_check_mark
  have A_check_text : At K mg "check_text" s_check_text ps_check_text := at_mk X G (fun _ _ _ _ _ _ us hl => match us, hl with | [_], _ => rfl) a_check_text l_check_text c_check_text k_check_text
  have A_check_length : At K mg "check_length" s_check_length ps_check_length := at_mk X G (fun _ _ _ _ _ _ us hl => match us, hl with | [_], _ => rfl) a_check_length l_check_length c_check_length k_check_length
  have A_is_row : At K mg "is_row" s_is_row ps_is_row := at_mk X G (fun _ _ _ _ _ _ us hl => match us, hl with | [_], _ => rfl) a_is_row l_is_row c_is_row k_is_row
  have A_check_row : At K mg "check_row" s_check_row ps_check_row := at_mk X G (fun _ _ _ _ _ _ us hl => match us, hl with | [_], _ => rfl) a_check_row l_check_row c_check_row k_check_row
  have A_shortened : At K mg "shortened" s_shortened ps_shortened := at_mk X G (fun _ _ _ _ _ _ us hl => match us, hl with | [_, _, _], _ => rfl) a_shortened l_shortened c_shortened k_shortened
  have A_planned : At K mg "planned" s_planned ps_planned := at_mk X G (fun _ _ _ _ _ _ us hl => match us, hl with | [_, _], _ => rfl) a_planned l_planned c_planned k_planned
  have A_first_unlike : At K mg "first_unlike" s_first_unlike ps_first_unlike := at_mk X G (fun _ _ _ _ _ _ us hl => match us, hl with | [_, _], _ => rfl) a_first_unlike l_first_unlike c_first_unlike k_first_unlike
  have A_first_unstable : At K mg "first_unstable" s_first_unstable ps_first_unstable := at_mk X G (fun _ _ _ _ _ _ us hl => match us, hl with | [_], _ => rfl) a_first_unstable l_first_unstable c_first_unstable k_first_unstable
  have A_is_view : At K mg "is_view" s_is_view ps_is_view := at_mk X G (fun _ _ _ _ _ _ us hl => match us, hl with | [_], _ => rfl) a_is_view l_is_view c_is_view k_is_view
  have A_check_views : At K mg "check_views" s_check_views ps_check_views := at_mk X G (fun _ _ _ _ _ _ us hl => match us, hl with | [_], _ => rfl) a_check_views l_check_views c_check_views k_check_views
  have A_lengths : At K mg "lengths" s_lengths ps_lengths := at_mk X G (fun _ _ _ _ _ _ us hl => match us, hl with | [_], _ => rfl) a_lengths l_lengths c_lengths k_lengths
  have A_least_pair : At K mg "least_pair" s_least_pair ps_least_pair := at_mk X G (fun _ _ _ _ _ _ us hl => match us, hl with | [_], _ => rfl) a_least_pair l_least_pair c_least_pair k_least_pair
  have A_certify_alike : At K mg "certify_alike" s_certify_alike ps_certify_alike := at_mk X G (fun _ _ _ _ _ _ us hl => match us, hl with | [_, _], _ => rfl) a_certify_alike l_certify_alike c_certify_alike k_certify_alike
  have A_certify_stable : At K mg "certify_stable" s_certify_stable ps_certify_stable := at_mk X G (fun _ _ _ _ _ _ us hl => match us, hl with | [_], _ => rfl) a_certify_stable l_certify_stable c_certify_stable k_certify_stable
  have A_certify_possible : At K mg "certify_possible" s_certify_possible ps_certify_possible := at_mk X G (fun _ _ _ _ _ _ us hl => match us, hl with | [_, _, _], _ => rfl) a_certify_possible l_certify_possible c_certify_possible k_certify_possible
  have A_certify_confused : At K mg "certify_confused" s_certify_confused ps_certify_confused := at_mk X G (fun _ _ _ _ _ _ us hl => match us, hl with | [_], _ => rfl) a_certify_confused l_certify_confused c_certify_confused k_certify_confused
  have A_written_plan : At K mg "written_plan" s_written_plan ps_written_plan := at_mk X G (fun _ _ _ _ _ _ us hl => match us, hl with | [_], _ => rfl) a_written_plan l_written_plan c_written_plan k_written_plan
  have A_plan_table : At K mg "plan_table" s_plan_table ps_plan_table := at_mk X G (fun _ _ _ _ _ _ us hl => match us, hl with | [_, _], _ => rfl) a_plan_table l_plan_table c_plan_table k_plan_table
  have A_view_report : At K mg "view_report" s_view_report ps_view_report := at_mk X G (fun _ _ _ _ _ _ us hl => match us, hl with | [_], _ => rfl) a_view_report l_view_report c_view_report k_view_report
  have A_law_pot : At K mg "_law_pot" s_law_pot ps_law_pot := at_mk X G (fun _ _ _ _ _ _ us hl => match us, hl with | [_, _], _ => rfl) a_law_pot l_law_pot c_law_pot k_law_pot
  have A_law_ladle : At K mg "_law_ladle" s_law_ladle ps_law_ladle := at_mk X G (fun _ _ _ _ _ _ us hl => match us, hl with | [_, _], _ => rfl) a_law_ladle l_law_ladle c_law_ladle k_law_ladle
  have A_law_one_of : At K mg "_law_one_of" s_law_one_of ps_law_one_of := at_mk X G (fun _ _ _ _ _ _ us hl => match us, hl with | [_, _], _ => rfl) a_law_one_of l_law_one_of c_law_one_of k_law_one_of
  have A_law_ended : At K mg "_law_ended" s_law_ended ps_law_ended := at_mk X G (fun _ _ _ _ _ _ us hl => match us, hl with | [_], _ => rfl) a_law_ended l_law_ended c_law_ended k_law_ended
  refine ⟨PySem.W.fnOf "law" "law" (defArgs s_law) (defBody s_law) (defScope s_law) .none kV_law dc_law pm_law an_law cd_law ct_law, [(cc_law_right, PP_law_right)], spLawT [(PP_law_right, lamQ_law_right)] K, fun p hp => by
      simp only [List.mem_cons, List.not_mem_nil, or_false] at hp
      subst hp
      exact ⟨TO_law_right.1, TO_law_right.2, notab_law_right⟩
, fun s v => .of_eq rfl, fun H a ns hl hT hY hS => ⟨a, ns, rfl, hS, hl, fun p hp => ?_, hY, fun _ => rfl⟩, fun base _ _ tb => ?_⟩
  · simp only [List.mem_cons, List.not_mem_nil, or_false] at hp
    subst hp
    exact LamX.TabS.nil (hT (cc_law_right, PP_law_right) (by simp))
  · exact fin B UK_InputError EK_InvalidText EF_InvalidText EK_InvalidLength EF_InvalidLength EK_InvalidRow EF_InvalidRow EK_InvalidViews EF_InvalidViews AC_law_right (tb (cc_law_right, PP_law_right) (by simp)) Ss Is Xs A_is_integer A_is_tuple A_is_text A_check_mark A_check_text A_check_length A_is_row A_check_row A_shortened A_planned A_first_unlike A_first_unstable A_is_view A_check_views A_lengths A_least_pair A_certify_alike A_certify_stable A_certify_possible A_certify_confused A_written_plan A_plan_table A_view_report A_law_pot A_law_ladle A_law_one_of A_law_ended (fun_mk l_law c_law k_law)
end Gu
open PySem PySem.W PyProof.Rows
set_option maxHeartbeats 0 in
theorem PySem.Challenge.cw_shownshort_k22_certificates_and_reports_holds : PySem.Challenge.rw_shownshort_k22_certificates_and_reports.Holds := by
  w_on; o_law; k_head; (case hw => w_witness2)
  k_fill
  refine Gu.walkGT (l := PySem.Challenge.rw_shownshort_k22_certificates_and_reports) (n := 63) (k := 11) (x := "_law_script") rfl (by decide) rfl ⟨rfl, by decide, by decide⟩ ?alone ?noSys (fun w h Y => PySem.W.km_in_of Y) ?F
  case alone => first | rfl | decide +kernel
  case noSys => first | (intro w; rfl) | (intro w; k_is)
  case F =>
    intro w mg fa h KX G TO hmg
    refine' Gu.all_mk KX G TO hmg ?a_is_integer ?l_is_integer ?c_is_integer ?k_is_integer ?a_is_tuple ?l_is_tuple ?c_is_tuple ?k_is_tuple ?a_is_text ?l_is_text ?c_is_text ?k_is_text ?a_check_mark ?l_check_mark ?c_check_mark ?k_check_mark ?a_check_text ?l_check_text ?c_check_text ?k_check_text ?a_check_length ?l_check_length ?c_check_length ?k_check_length ?a_is_row ?l_is_row ?c_is_row ?k_is_row ?a_check_row ?l_check_row ?c_check_row ?k_check_row ?a_shortened ?l_shortened ?c_shortened ?k_shortened ?a_planned ?l_planned ?c_planned ?k_planned ?a_first_unlike ?l_first_unlike ?c_first_unlike ?k_first_unlike ?a_first_unstable ?l_first_unstable ?c_first_unstable ?k_first_unstable ?a_is_view ?l_is_view ?c_is_view ?k_is_view ?a_check_views ?l_check_views ?c_check_views ?k_check_views ?a_lengths ?l_lengths ?c_lengths ?k_lengths ?a_least_pair ?l_least_pair ?c_least_pair ?k_least_pair ?a_certify_alike ?l_certify_alike ?c_certify_alike ?k_certify_alike ?a_certify_stable ?l_certify_stable ?c_certify_stable ?k_certify_stable ?a_certify_possible ?l_certify_possible ?c_certify_possible ?k_certify_possible ?a_certify_confused ?l_certify_confused ?c_certify_confused ?k_certify_confused ?a_written_plan ?l_written_plan ?c_written_plan ?k_written_plan ?a_plan_table ?l_plan_table ?c_plan_table ?k_plan_table ?a_view_report ?l_view_report ?c_view_report ?k_view_report ?a_law_pot ?l_law_pot ?c_law_pot ?k_law_pot ?a_law_ladle ?l_law_ladle ?c_law_ladle ?k_law_ladle ?a_law_one_of ?l_law_one_of ?c_law_one_of ?k_law_one_of ?a_law_ended ?l_law_ended ?c_law_ended ?k_law_ended ?a_law_right ?l_law_right ?c_law_right ?k_law_right ?a_law ?l_law ?c_law ?k_law ?qn ?qt ?asC ?a_is ?l_is ?c_is ?k_is ?i_is ?pgs ?hds ?pos ?sas ?mksC ?ksC ?ns_limit ?ns_head ?ns_tail ?ns_mark ?ns_told ?qas ?qms ?xts ?xns ?xss ?ea_InputError ?ex_InputError ?et_InputError ?ea_InvalidText ?ex_InvalidText ?et_InvalidText ?eset_InvalidText ?eget_InvalidText ?ecla_InvalidText ?egg_InvalidText ?ek_InvalidText ?en_InvalidText ?a_xInvalidText ?l_xInvalidText ?c_xInvalidText ?k_xInvalidText ?ei_InvalidText ?ea_InvalidLength ?ex_InvalidLength ?et_InvalidLength ?eset_InvalidLength ?eget_InvalidLength ?ecla_InvalidLength ?egg_InvalidLength ?ek_InvalidLength ?en_InvalidLength ?a_xInvalidLength ?l_xInvalidLength ?c_xInvalidLength ?k_xInvalidLength ?ei_InvalidLength ?ea_InvalidRow ?ex_InvalidRow ?et_InvalidRow ?eset_InvalidRow ?eget_InvalidRow ?ecla_InvalidRow ?egg_InvalidRow ?ek_InvalidRow ?en_InvalidRow ?a_xInvalidRow ?l_xInvalidRow ?c_xInvalidRow ?k_xInvalidRow ?ei_InvalidRow ?ea_InvalidViews ?ex_InvalidViews ?et_InvalidViews ?eset_InvalidViews ?eget_InvalidViews ?ecla_InvalidViews ?egg_InvalidViews ?ek_InvalidViews ?en_InvalidViews ?a_xInvalidViews ?l_xInvalidViews ?c_xInvalidViews ?k_xInvalidViews ?ei_InvalidViews ?tab_law_right ?cde_law_right ?notab_law_right ?rec_law_right ?z_ValueError ?z_abs ?z_all ?z_bool ?z_divmod ?z_enumerate ?z_int ?z_isinstance ?z_len ?z_list ?z_max ?z_min ?z_range ?z_repr ?z_str ?z_tuple ?z_zip ?z_MOST_SIGNS ?z_MOST_MARK ?z_MOST_ROW ?z_MOST_VIEWS ?z_MOST_TEXT ?z_MOST_LENGTH ?z_SIGNS ?z_SEVERAL ?z_MOST_TABLED ?z_NOTHING
    (case a_is_integer => k_is)
    (case l_is_integer => k_is)
    (case c_is_integer => k_is)
    (case k_is_integer => k_is)
    (case a_is_tuple => k_is)
    (case l_is_tuple => k_is)
    (case c_is_tuple => k_is)
    (case k_is_tuple => k_is)
    (case a_is_text => k_is)
    (case l_is_text => k_is)
    (case c_is_text => k_is)
    (case k_is_text => k_is)
    (case a_check_mark => k_is)
    (case l_check_mark => k_is)
    (case c_check_mark => k_is)
    (case k_check_mark => k_is)
    (case a_check_text => k_is)
    (case l_check_text => k_is)
    (case c_check_text => k_is)
    (case k_check_text => k_is)
    (case a_check_length => k_is)
    (case l_check_length => k_is)
    (case c_check_length => k_is)
    (case k_check_length => k_is)
    (case a_is_row => k_is)
    (case l_is_row => k_is)
    (case c_is_row => k_is)
    (case k_is_row => k_is)
    (case a_check_row => k_is)
    (case l_check_row => k_is)
    (case c_check_row => k_is)
    (case k_check_row => k_is)
    (case a_shortened => k_is)
    (case l_shortened => k_is)
    (case c_shortened => k_is)
    (case k_shortened => k_is)
    (case a_planned => k_is)
    (case l_planned => k_is)
    (case c_planned => k_is)
    (case k_planned => k_is)
    (case a_first_unlike => k_is)
    (case l_first_unlike => k_is)
    (case c_first_unlike => k_is)
    (case k_first_unlike => k_is)
    (case a_first_unstable => k_is)
    (case l_first_unstable => k_is)
    (case c_first_unstable => k_is)
    (case k_first_unstable => k_is)
    (case a_is_view => k_is)
    (case l_is_view => k_is)
    (case c_is_view => k_is)
    (case k_is_view => k_is)
    (case a_check_views => k_is)
    (case l_check_views => k_is)
    (case c_check_views => k_is)
    (case k_check_views => k_is)
    (case a_lengths => k_is)
    (case l_lengths => k_is)
    (case c_lengths => k_is)
    (case k_lengths => k_is)
    (case a_least_pair => k_is)
    (case l_least_pair => k_is)
    (case c_least_pair => k_is)
    (case k_least_pair => k_is)
    (case a_certify_alike => k_is)
    (case l_certify_alike => k_is)
    (case c_certify_alike => k_is)
    (case k_certify_alike => k_is)
    (case a_certify_stable => k_is)
    (case l_certify_stable => k_is)
    (case c_certify_stable => k_is)
    (case k_certify_stable => k_is)
    (case a_certify_possible => k_is)
    (case l_certify_possible => k_is)
    (case c_certify_possible => k_is)
    (case k_certify_possible => k_is)
    (case a_certify_confused => k_is)
    (case l_certify_confused => k_is)
    (case c_certify_confused => k_is)
    (case k_certify_confused => k_is)
    (case a_written_plan => k_is)
    (case l_written_plan => k_is)
    (case c_written_plan => k_is)
    (case k_written_plan => k_is)
    (case a_plan_table => k_is)
    (case l_plan_table => k_is)
    (case c_plan_table => k_is)
    (case k_plan_table => k_is)
    (case a_view_report => k_is)
    (case l_view_report => k_is)
    (case c_view_report => k_is)
    (case k_view_report => k_is)
    (case a_law_pot => k_is)
    (case l_law_pot => k_is)
    (case c_law_pot => k_is)
    (case k_law_pot => k_is)
    (case a_law_ladle => k_is)
    (case l_law_ladle => k_is)
    (case c_law_ladle => k_is)
    (case k_law_ladle => k_is)
    (case a_law_one_of => k_is)
    (case l_law_one_of => k_is)
    (case c_law_one_of => k_is)
    (case k_law_one_of => k_is)
    (case a_law_ended => k_is)
    (case l_law_ended => k_is)
    (case c_law_ended => k_is)
    (case k_law_ended => k_is)
    (case a_law_right => k_is)
    (case l_law_right => k_is)
    (case c_law_right => k_is)
    (case k_law_right => k_is)
    (case a_law => k_is)
    (case l_law => k_is)
    (case c_law => k_is)
    (case k_law => k_is)
    (case qn => k_is)
    (case qt => k_is)
    (case asC => k_is)
    (case a_is => k_is)
    (case l_is => k_is)
    (case c_is => k_is)
    (case k_is => k_is)
    (case i_is => k_is)
    (case pgs => k_is)
    (case hds => k_is)
    (case pos => k_is)
    (case sas => k_is)
    (case mksC => k_is)
    (case ksC => k_is)
    (case ns_limit => k_is)
    (case ns_head => k_is)
    (case ns_tail => k_is)
    (case ns_mark => k_is)
    (case ns_told => k_is)
    (case qas => k_is)
    (case qms => k_is)
    (case xts => k_is)
    (case xns => k_is)
    (case xss => k_is)
    (case ea_InputError => k_is)
    (case ex_InputError => k_is)
    (case et_InputError => k_is)
    (case ea_InvalidText => k_is)
    (case ex_InvalidText => k_is)
    (case et_InvalidText => k_is)
    (case eset_InvalidText => k_is)
    (case eget_InvalidText => k_is)
    (case ecla_InvalidText => k_is)
    (case egg_InvalidText => k_is)
    (case ek_InvalidText => k_is)
    (case en_InvalidText => k_is)
    (case a_xInvalidText => k_is)
    (case l_xInvalidText => k_is)
    (case c_xInvalidText => k_is)
    (case k_xInvalidText => k_is)
    (case ei_InvalidText => k_is)
    (case ea_InvalidLength => k_is)
    (case ex_InvalidLength => k_is)
    (case et_InvalidLength => k_is)
    (case eset_InvalidLength => k_is)
    (case eget_InvalidLength => k_is)
    (case ecla_InvalidLength => k_is)
    (case egg_InvalidLength => k_is)
    (case ek_InvalidLength => k_is)
    (case en_InvalidLength => k_is)
    (case a_xInvalidLength => k_is)
    (case l_xInvalidLength => k_is)
    (case c_xInvalidLength => k_is)
    (case k_xInvalidLength => k_is)
    (case ei_InvalidLength => k_is)
    (case ea_InvalidRow => k_is)
    (case ex_InvalidRow => k_is)
    (case et_InvalidRow => k_is)
    (case eset_InvalidRow => k_is)
    (case eget_InvalidRow => k_is)
    (case ecla_InvalidRow => k_is)
    (case egg_InvalidRow => k_is)
    (case ek_InvalidRow => k_is)
    (case en_InvalidRow => k_is)
    (case a_xInvalidRow => k_is)
    (case l_xInvalidRow => k_is)
    (case c_xInvalidRow => k_is)
    (case k_xInvalidRow => k_is)
    (case ei_InvalidRow => k_is)
    (case ea_InvalidViews => k_is)
    (case ex_InvalidViews => k_is)
    (case et_InvalidViews => k_is)
    (case eset_InvalidViews => k_is)
    (case eget_InvalidViews => k_is)
    (case ecla_InvalidViews => k_is)
    (case egg_InvalidViews => k_is)
    (case ek_InvalidViews => k_is)
    (case en_InvalidViews => k_is)
    (case a_xInvalidViews => k_is)
    (case l_xInvalidViews => k_is)
    (case c_xInvalidViews => k_is)
    (case k_xInvalidViews => k_is)
    (case ei_InvalidViews => k_is)
    (case tab_law_right => first | rfl | decide +kernel | k_is)
    (case cde_law_right => rfl)
    (case notab_law_right => first | rfl | decide +kernel | k_is)
    (case rec_law_right => first | rfl | decide +kernel | k_is)
    (case z_ValueError => k_is)
    (case z_abs => k_is)
    (case z_all => k_is)
    (case z_bool => k_is)
    (case z_divmod => k_is)
    (case z_enumerate => k_is)
    (case z_int => k_is)
    (case z_isinstance => k_is)
    (case z_len => k_is)
    (case z_list => k_is)
    (case z_max => k_is)
    (case z_min => k_is)
    (case z_range => k_is)
    (case z_repr => k_is)
    (case z_str => k_is)
    (case z_tuple => k_is)
    (case z_zip => k_is)
    (case z_MOST_SIGNS => k_is)
    (case z_MOST_MARK => k_is)
    (case z_MOST_ROW => k_is)
    (case z_MOST_VIEWS => k_is)
    (case z_MOST_TEXT => k_is)
    (case z_MOST_LENGTH => k_is)
    (case z_SIGNS => k_is)
    (case z_SEVERAL => k_is)
    (case z_MOST_TABLED => k_is)
    (case z_NOTHING => k_is)
