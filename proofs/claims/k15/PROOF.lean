import PyProof.Rows.All
import Wide.All
import OpenK.AllK
import Wide.FinOn
import HandS.Base
import HandS.Call
import HandS.List
import HandS.Comp
import HandS.Ends
import HandS.Dict
import HandS.Iter
import HandS.Text
import HandS.Words
import HandS.WordsList
import HandS.WordsDict
import HandS.Conv
import HandS.Walk
import HandS.IsInst
import HandS.MakeKw
import HandS.MakeKwOnly
import HandS.Flow
import HandS.TupAny
import HandS.TupMul
import HandS.FStr
import HandS.Zip
import HandS.Style
import HandS.Codes
import HandS.TupLe
import HandS.SetKeys
import HandS.Strs
import HandS.SetFor
import HandS.Deep
import HandS.SortInts
import HandS.More
import HandS.CallLocal
import HandS.HeadHook3
import KE.GoesMore
import KE.GoesZip
import KE.KUnpack
import PyProof.TupleOfStr
import PySem.Challenge.RW_shownshort_k15_whole_least_pairs
set_option Elab.async false
set_option linter.all false
set_option maxRecDepth 100000
namespace Gu
open PySem PySem.Spec PyProof.Rows L2
/-! the text, by places -/
def topS (i : Nat) : Stmt := PySem.Challenge.pw_shownshort_k15_whole_least_pairs.main.body.getD i (.Pass ⟨0, 0, 0, 0⟩)
abbrev s_InvalidNumber_init : Stmt := inClass (topS 2) 0
abbrev ps_InvalidNumber_init : List Str := ["self", "value"]
theorem sc_InvalidNumber_init : FnScope ["self", "value"] ps_InvalidNumber_init (defScope s_InvalidNumber_init) := ⟨rfl, rfl, rfl, by decide +kernel, rfl, by decide +kernel, by decide +kernel⟩
abbrev s_InvalidMark_init : Stmt := inClass (topS 3) 0
abbrev ps_InvalidMark_init : List Str := ["self", "value"]
theorem sc_InvalidMark_init : FnScope ["self", "value"] ps_InvalidMark_init (defScope s_InvalidMark_init) := ⟨rfl, rfl, rfl, by decide +kernel, rfl, by decide +kernel, by decide +kernel⟩
abbrev s_InvalidRow_init : Stmt := inClass (topS 4) 0
abbrev ps_InvalidRow_init : List Str := ["self", "index"]
theorem sc_InvalidRow_init : FnScope ["self", "index"] ps_InvalidRow_init (defScope s_InvalidRow_init) := ⟨rfl, rfl, rfl, by decide +kernel, rfl, by decide +kernel, by decide +kernel⟩
abbrev s_InvalidViews_init : Stmt := inClass (topS 5) 0
abbrev ps_InvalidViews_init : List Str := ["self", "index"]
theorem sc_InvalidViews_init : FnScope ["self", "index"] ps_InvalidViews_init (defScope s_InvalidViews_init) := ⟨rfl, rfl, rfl, by decide +kernel, rfl, by decide +kernel, by decide +kernel⟩
abbrev s_is_integer : Stmt := topS 13
abbrev ps_is_integer : List Str := ["value", "least", "most"]
theorem sc_is_integer : FnScope ["value", "least", "most"] ps_is_integer (defScope s_is_integer) := ⟨rfl, rfl, rfl, by decide +kernel, rfl, by decide +kernel, by decide +kernel⟩
abbrev s_is_tuple : Stmt := topS 14
abbrev ps_is_tuple : List Str := ["value", "least", "most"]
theorem sc_is_tuple : FnScope ["value", "least", "most"] ps_is_tuple (defScope s_is_tuple) := ⟨rfl, rfl, rfl, by decide +kernel, rfl, by decide +kernel, by decide +kernel⟩
abbrev s_is_text : Stmt := topS 15
abbrev ps_is_text : List Str := ["value", "most"]
theorem sc_is_text : FnScope ["value", "most", "character"] ps_is_text (defScope s_is_text) := ⟨rfl, rfl, rfl, by decide +kernel, rfl, by decide +kernel, by decide +kernel⟩
abbrev s_least_raised_at : Stmt := topS 16
abbrev ps_least_raised_at : List Str := ["length", "place"]
theorem sc_least_raised_at : FnScope ["length", "place"] ps_least_raised_at (defScope s_least_raised_at) := ⟨rfl, rfl, rfl, by decide +kernel, rfl, by decide +kernel, by decide +kernel⟩
abbrev s_check_mark : Stmt := topS 17
abbrev ps_check_mark : List Str := ["mark"]
theorem sc_check_mark : FnScope ["mark"] ps_check_mark (defScope s_check_mark) := ⟨rfl, rfl, rfl, by decide +kernel, rfl, by decide +kernel, by decide +kernel⟩
abbrev s_Shortener_init : Stmt := inClass (topS 19) 0
abbrev ps_Shortener_init : List Str := ["self", "limit", "head", "tail", "mark"]
theorem sc_Shortener_init : FnScope ["self", "limit", "head", "tail", "mark", "number"] ps_Shortener_init (defScope s_Shortener_init) := ⟨rfl, rfl, rfl, by decide +kernel, rfl, by decide +kernel, by decide +kernel⟩
abbrev s_Shortener_eq : Stmt := inClass (topS 19) 1
abbrev ps_Shortener_eq : List Str := ["self", "other"]
theorem sc_Shortener_eq : FnScope ["self", "other"] ps_Shortener_eq (defScope s_Shortener_eq) := ⟨rfl, rfl, rfl, by decide +kernel, rfl, by decide +kernel, by decide +kernel⟩
abbrev s_Shortener_repr : Stmt := inClass (topS 19) 2
abbrev ps_Shortener_repr : List Str := ["self"]
theorem sc_Shortener_repr : FnScope ["self"] ps_Shortener_repr (defScope s_Shortener_repr) := ⟨rfl, rfl, rfl, by decide +kernel, rfl, by decide +kernel, by decide +kernel⟩
abbrev s_is_row : Stmt := topS 20
abbrev ps_is_row : List Str := ["value"]
theorem sc_is_row : FnScope ["value", "part"] ps_is_row (defScope s_is_row) := ⟨rfl, rfl, rfl, by decide +kernel, rfl, by decide +kernel, by decide +kernel⟩
abbrev s_check_row : Stmt := topS 21
abbrev ps_check_row : List Str := ["row"]
theorem sc_check_row : FnScope ["row", "place", "shortener"] ps_check_row (defScope s_check_row) := ⟨rfl, rfl, rfl, by decide +kernel, rfl, by decide +kernel, by decide +kernel⟩
abbrev s_shortened : Stmt := topS 22
abbrev ps_shortened : List Str := ["shortener", "whole", "mark"]
theorem sc_shortened : FnScope ["shortener", "whole", "mark", "tail_start"] ps_shortened (defScope s_shortened) := ⟨rfl, rfl, rfl, by decide +kernel, rfl, by decide +kernel, by decide +kernel⟩
abbrev s_shown_by : Stmt := topS 23
abbrev ps_shown_by : List Str := ["row", "text"]
theorem sc_shown_by : FnScope ["row", "text", "shown", "shortener"] ps_shown_by (defScope s_shown_by) := ⟨rfl, rfl, rfl, by decide +kernel, rfl, by decide +kernel, by decide +kernel⟩
abbrev s_planned : Stmt := topS 24
abbrev ps_planned : List Str := ["row", "length"]
theorem sc_planned : FnScope ["row", "length", "sources", "shortener"] ps_planned (defScope s_planned) := ⟨rfl, rfl, rfl, by decide +kernel, rfl, by decide +kernel, by decide +kernel⟩
abbrev s_telling_lengths : Stmt := topS 25
abbrev ps_telling_lengths : List Str := []
theorem sc_telling_lengths : FnScope [] ps_telling_lengths (defScope s_telling_lengths) := ⟨rfl, rfl, rfl, by decide +kernel, rfl, by decide +kernel, by decide +kernel⟩
abbrev s_is_view : Stmt := topS 27
abbrev ps_is_view : List Str := ["value"]
theorem sc_is_view : FnScope ["value"] ps_is_view (defScope s_is_view) := ⟨rfl, rfl, rfl, by decide +kernel, rfl, by decide +kernel, by decide +kernel⟩
abbrev s_check_views : Stmt := topS 28
abbrev ps_check_views : List Str := ["views"]
theorem sc_check_views : FnScope ["views", "place", "view"] ps_check_views (defScope s_check_views) := ⟨rfl, rfl, rfl, by decide +kernel, rfl, by decide +kernel, by decide +kernel⟩
abbrev s_known_signs : Stmt := topS 29
abbrev ps_known_signs : List Str := ["views", "length"]
theorem sc_known_signs : FnScope ["views", "length", "known", "row", "shown", "sources", "source", "sign", "told"] ps_known_signs (defScope s_known_signs) := ⟨rfl, rfl, rfl, by decide +kernel, rfl, by decide +kernel, by decide +kernel⟩
abbrev s_written_out : Stmt := topS 30
abbrev ps_written_out : List Str := ["known", "length", "other"]
theorem sc_written_out : FnScope ["known", "length", "other", "place"] ps_written_out (defScope s_written_out) := ⟨rfl, rfl, rfl, by decide +kernel, rfl, by decide +kernel, by decide +kernel⟩
abbrev s_lengths : Stmt := topS 31
abbrev ps_lengths : List Str := ["views"]
theorem sc_lengths : FnScope ["views", "tried", "possible", "beyond", "length"] ps_lengths (defScope s_lengths) := ⟨rfl, rfl, rfl, by decide +kernel, rfl, by decide +kernel, by decide +kernel⟩
abbrev s_least_text : Stmt := topS 32
abbrev ps_least_text : List Str := ["views"]
theorem sc_least_text : FnScope ["views", "some", "beyond", "least"] ps_least_text (defScope s_least_text) := ⟨rfl, rfl, rfl, by decide +kernel, rfl, by decide +kernel, by decide +kernel⟩
abbrev s_leader : Stmt := topS 34
abbrev ps_leader : List Str := ["leaders", "part"]
theorem sc_leader : FnScope ["leaders", "part"] ps_leader (defScope s_leader) := ⟨rfl, rfl, rfl, by decide +kernel, rfl, by decide +kernel, by decide +kernel⟩
abbrev s_joined : Stmt := topS 35
abbrev ps_joined : List Str := ["parts", "others"]
theorem sc_joined : FnScope ["parts", "others", "leaders", "part", "other", "first", "second"] ps_joined (defScope s_joined) := ⟨rfl, rfl, rfl, by decide +kernel, rfl, by decide +kernel, by decide +kernel⟩
abbrev s_like_a_shorter_one : Stmt := topS 36
abbrev ps_like_a_shorter_one : List Str := ["row", "length", "shorter"]
theorem sc_like_a_shorter_one : FnScope ["row", "length", "shorter", "parts", "others", "leaders", "leading", "part", "place"] ps_like_a_shorter_one (defScope s_like_a_shorter_one) := ⟨rfl, rfl, rfl, by decide +kernel, rfl, by decide +kernel, by decide +kernel⟩
abbrev s_like_an_equally_long_one : Stmt := topS 37
abbrev ps_like_an_equally_long_one : List Str := ["row", "length"]
theorem sc_like_an_equally_long_one : FnScope ["row", "length", "parts", "hidden", "place"] ps_like_an_equally_long_one (defScope s_like_an_equally_long_one) := ⟨rfl, rfl, rfl, by decide +kernel, rfl, by decide +kernel, by decide +kernel⟩
abbrev s_confused_texts : Stmt := topS 38
abbrev ps_confused_texts : List Str := ["row", "length"]
theorem sc_confused_texts : FnScope ["row", "length", "found", "shorter", "text"] ps_confused_texts (defScope s_confused_texts) := ⟨rfl, rfl, rfl, by decide +kernel, rfl, by decide +kernel, by decide +kernel⟩
abbrev s_least_pair : Stmt := topS 39
abbrev ps_least_pair : List Str := ["row"]
theorem sc_least_pair : FnScope ["row", "length", "found", "other"] ps_least_pair (defScope s_least_pair) := ⟨rfl, rfl, rfl, by decide +kernel, rfl, by decide +kernel, by decide +kernel⟩
abbrev s_law_pot : Stmt := topS 41
abbrev ps_law_pot : List Str := ["_law_script", "_law_k"]
theorem sc_law_pot : FnScope ["_law_script", "_law_k", "_law_own", "_law_mixed", "_law_entry"] ps_law_pot (defScope s_law_pot) := ⟨rfl, rfl, rfl, by decide +kernel, rfl, by decide +kernel, by decide +kernel⟩
abbrev s_law_ladle : Stmt := topS 42
abbrev ps_law_ladle : List Str := ["_law_pot_here", "_law_many"]
theorem sc_law_ladle : FnScope ["_law_pot_here", "_law_many", "_law_digit"] ps_law_ladle (defScope s_law_ladle) := ⟨rfl, rfl, rfl, by decide +kernel, rfl, by decide +kernel, by decide +kernel⟩
abbrev s_law_one_of : Stmt := topS 43
abbrev ps_law_one_of : List Str := ["_law_pot_here", "_law_some"]
theorem sc_law_one_of : FnScope ["_law_pot_here", "_law_some"] ps_law_one_of (defScope s_law_one_of) := ⟨rfl, rfl, rfl, by decide +kernel, rfl, by decide +kernel, by decide +kernel⟩
abbrev s_law_made : Stmt := topS 44
abbrev ps_law_made : List Str := ["_law_tolds"]
theorem sc_law_made : FnScope ["_law_tolds", "_law_a", "_law_b", "_law_c", "_law_d"] ps_law_made (defScope s_law_made) := ⟨rfl, rfl, rfl, by decide +kernel, rfl, by decide +kernel, by decide +kernel⟩
abbrev s_law_cut : Stmt := topS 45
abbrev ps_law_cut : List Str := ["_law_tolds", "_law_things"]
theorem sc_law_cut : FnScope ["_law_tolds", "_law_things", "_law_bound", "_law_low", "_law_high", "_law_sign", "_law_front", "_law_back", "_law_each"] ps_law_cut (defScope s_law_cut) := ⟨rfl, rfl, rfl, by decide +kernel, rfl, by decide +kernel, by decide +kernel⟩
abbrev s_law_seen : Stmt := topS 46
abbrev ps_law_seen : List Str := ["_law_tolds", "_law_line"]
theorem sc_law_seen : FnScope ["_law_tolds", "_law_line", "_law_each"] ps_law_seen (defScope s_law_seen) := ⟨rfl, rfl, rfl, by decide +kernel, rfl, by decide +kernel, by decide +kernel⟩
abbrev s_law_joined : Stmt := topS 47
abbrev ps_law_joined : List Str := ["_law_sets_here", "_law_one", "_law_two"]
theorem sc_law_joined : FnScope ["_law_sets_here", "_law_one", "_law_two", "_law_here", "_law_rest", "_law_both", "_law_group", "_law_key"] ps_law_joined (defScope s_law_joined) := ⟨rfl, rfl, rfl, by decide +kernel, rfl, by decide +kernel, by decide +kernel⟩
abbrev s_law_least_like : Stmt := topS 48
abbrev ps_law_least_like : List Str := ["_law_tolds", "_law_many", "_law_fewer"]
theorem sc_law_least_like : FnScope ["_law_tolds", "_law_many", "_law_fewer", "_law_one", "_law_two", "_law_sets_here", "_law_a", "_law_b", "_law_first", "_law_second_here", "_law_found", "_law_group", "_law_marks", "_law_key"] ps_law_least_like (defScope s_law_least_like) := ⟨rfl, rfl, rfl, by decide +kernel, rfl, by decide +kernel, by decide +kernel⟩
abbrev s_law_second : Stmt := topS 49
abbrev ps_law_second : List Str := ["_law_tolds"]
theorem sc_law_second : FnScope ["_law_tolds", "_law_many", "_law_found", "_law_plan_here", "_law_hidden", "_law_good", "_law_fewer", "_law_at", "_law_line"] ps_law_second (defScope s_law_second) := ⟨rfl, rfl, rfl, by decide +kernel, rfl, by decide +kernel, by decide +kernel⟩
abbrev s_law_small : Stmt := topS 50
abbrev ps_law_small : List Str := ["_law_pot_here"]
theorem sc_law_small : FnScope ["_law_pot_here", "_law_found", "_law_k", "_law_sign", "_law_bound"] ps_law_small (defScope s_law_small) := ⟨rfl, rfl, rfl, by decide +kernel, rfl, by decide +kernel, by decide +kernel⟩
abbrev s_law_right : Stmt := topS 51
abbrev ps_law_right : List Str := ["_law_pot_here"]
theorem sc_law_right : FnScope ["_law_pot_here", "_law_again", "_law_tolds", "_law_made_here", "_law_pair", "_law_one", "_law_two"] ps_law_right (defScope s_law_right) := ⟨rfl, rfl, rfl, by decide +kernel, rfl, by decide +kernel, by decide +kernel⟩
abbrev s_law : Stmt := topS 52
abbrev ps_law : List Str := ["_law_script"]
theorem sc_law : FnScope ["_law_script", "_law_k"] ps_law (defScope s_law) := ⟨rfl, rfl, rfl, by decide +kernel, rfl, by decide +kernel, by decide +kernel⟩
/-- names that the module leaves to Python -/
structure Bi (mg : Str → Option Value) : Prop where
  ValueError : mg "ValueError" = none
  abs : mg "abs" = none
  all : mg "all" = none
  bool : mg "bool" = none
  divmod : mg "divmod" = none
  enumerate : mg "enumerate" = none
  int : mg "int" = none
  isinstance : mg "isinstance" = none
  len : mg "len" = none
  list : mg "list" = none
  max : mg "max" = none
  min : mg "min" = none
  range : mg "range" = none
  repr : mg "repr" = none
  set : mg "set" = none
  sorted : mg "sorted" = none
  str : mg "str" = none
  tuple : mg "tuple" = none
  zip : mg "zip" = none
  MOST_SIGNS : ∃ u, mg "MOST_SIGNS" = some u ∧ RelV (.int 40) u
  MOST_MARK : ∃ u, mg "MOST_MARK" = some u ∧ RelV (.int 3) u
  MOST_ROW : ∃ u, mg "MOST_ROW" = some u ∧ RelV (.int 4) u
  MOST_VIEWS : ∃ u, mg "MOST_VIEWS" = some u ∧ RelV (.int 4) u
  MOST_TEXT : ∃ u, mg "MOST_TEXT" = some u ∧ RelV (.int 200) u
  SIGNS : ∃ u, mg "SIGNS" = some u ∧ RelV (.str ".0123456789abcdefghijklmnopqrstuvwxyz~") u
end Gu
namespace Gu
open PySem PySem.Spec PyProof.Rows L2
/-! cuts -/
/-- from a middle state on -/
def tHalt (t u : TS) : TS := fun D σ H => ∃ M : L2.St → Hp → Prop, t { D with nx := M } σ H ∧ ∀ σ1 H1, M σ1 H1 → u D σ1 H1
/-! defs as they stand behind the top -/
structure At (K : PySem.W.Frag) (mg : Str → Option Value) (x : Str) (st : Stmt) (ps : List Str) : Prop where
  ex : ∃ (f : Addr) (fd : FuncData), Fun K x x st f fd ∧ Binds K fd ps [] ∧ mg x = some (.ref f)
structure Cal (P : Program) (w : World) (K : PySem.W.Frag) (mg : Str → Option Value) (base : Heap) (k : Nat) (x : Str) (ps : List Str) (sp : Sp) : Prop where
  ex : ∃ (f : Addr) (fd : FuncData), FnOk P w K mg base CX0 k f fd ps sp ∧ mg x = some (.ref f) ∧ PySem.W.keepIn K (.ref f) = true ∧ Binds K fd ps [] ∧ ∃ oc od sl, K.lookup f = some ⟨oc, od, .func fd, sl⟩
theorem At.cal {P : Program} {w : World} {K : PySem.W.Frag} {mg : Str → Option Value} {base : Heap} {x : Str} {st : Stmt} {N ps : List Str} {k : Nat} {sp : Sp} (D : At K mg x st ps) (S : FnScope N ps (defScope st)) (len : ∀ vs H Q E, sp vs H Q E → vs.length = ps.length)
    (body : ∀ (f : Addr) (cdv : Value) (A : Around) (outer : List Env) (s : Shared) (H : Hp) (vs : List V) (Q : VK) (E : XK), Room k (A.deeper (envOfC x (defScope st) s.heap.objs.size f cdv)) → sp vs H Q E →
      ∃ t, PSs (cxOf CX0 P w K mg base N x (defScope st) f cdv A outer s H E).nox (defBody st) t ∧ t { nx := fun _ H' => Q .non H', rt := Q } (start N vs) H) : Cal P w K mg base (k + 1) x ps sp := by
  obtain ⟨f, fd, F, b, g⟩ := D.ex
  obtain ⟨oc, od, kV, doc, pm, an, cdv, ct, osl, e, lk, hcd⟩ := F.ex
  exact ⟨f, fd, F.ok S len (body f), g, F.kp, b, oc, od, osl, lk⟩
section
variable {X : Cx} {k j : Nat} {x : Str} {ps : List Str} {sp : Sp} {p pos : Pos} {e : Expr} {es : List Expr} {t : TA}
theorem pe_own (c : Cal X.prog X.w X.K X.mg X.base k x ps sp) (hr : Room j X.A) (hk : k ≤ j) (hg : Gl X x) (ha : PA X (e :: es) t)
    (hdb : (x == ("__debug__" : Str)) = false := by decide) (he : starEach (e :: es) X.env = (false, eval e X.env) :: starEach es X.env := by rfl) (hpl : (backTo pos (starEach es X.env)).any (·.1) = false := by rfl) :
    PE X (.Call (.Name x p) (e :: es) [] pos) (tCall sp [] E0 t) := by
  obtain ⟨f, fd, F, hm, kp, b, _⟩ := c.ex
  exact pe_call F (hr.mono hk) hg hm kp b .nil pass0 ha hdb he hpl
theorem pe_cst {v : V} (h : ∃ u, X.mg x = some u ∧ RelV v u) (hg : Gl X x) (hdb : (x == ("__debug__" : Str)) = false := by decide) : PE X (.Name x pos) (tC v) := by
  obtain ⟨u, hm, r⟩ := h
  exact pe_glob hg hm r hdb
end
def tMid (t : TE) : TE := fun σ H Q => ∃ M : VK, t σ H M ∧ ∀ v G, M v G → Q v G
theorem pe_mid {X : Cx} {e : Expr} {t : TE} (d : PE X e t) : PE X e (tMid t) := ⟨fun pins s σ H Q I ⟨M, m, k⟩ => thn (d.run pins s σ H M I m) fun u s1 ⟨v, G, I1, r1, m1⟩ => ⟨v, G, I1, r1, k v G m1⟩⟩
/-! ### heaps -/
theorem same_new {H : Hp} {p : Addr} {o : HO} (h : H p = none) : Same H (upd H p o) := fun b x e => by
  rw [upd_ne (ne_of_none e h)]
  exact e
/-- a pot of three ints stands at p -/
def Pot (H : Hp) (p : Addr) : Prop := ∃ x y z : Int, H p = some (.lst [.int x, .int y, .int z])
/-- from H to G the pot at p may have changed, the rest stands -/
structure Ladled (p : Addr) (H G : Hp) : Prop where
  pot : Pot G p
  keep : ∀ b o, H b = some o → b ≠ p → G b = some o
theorem Pot.some {H : Hp} {p : Addr} (h : Pot H p) : ∃ o, H p = some o := by
  obtain ⟨x, y, z, e⟩ := h
  exact ⟨_, e⟩
theorem Pot.same {H G : Hp} {p : Addr} (s : Same H G) (h : Pot H p) : Pot G p := by
  obtain ⟨x, y, z, e⟩ := h
  exact ⟨x, y, z, s _ _ e⟩
theorem Ladled.refl {H : Hp} {p : Addr} (h : Pot H p) : Ladled p H H := ⟨h, fun _ _ e _ => e⟩
theorem Ladled.trans {H G J : Hp} {p : Addr} (a : Ladled p H G) (b : Ladled p G J) : Ladled p H J := ⟨b.pot, fun c o e n => b.keep c o (a.keep c o e n) n⟩
theorem Ladled.same {H G J : Hp} {p : Addr} (a : Ladled p H G) (b : Same G J) : Ladled p H J := ⟨a.pot.same b, fun c o e n => b _ _ (a.keep c o e n)⟩
theorem Ladled.ofSame {H G : Hp} {p : Addr} (h : Pot H p) (b : Same H G) : Ladled p H G := ⟨h.same b, fun c o e _ => b _ _ e⟩
theorem Ladled.new {H G : Hp} {p q : Addr} {o : HO} (a : Ladled p H G) (h : G q = none) : Ladled p H (upd G q o) := a.same (same_new h)
theorem Ladled.free {H G : Hp} {p l : Addr} (a : Ladled p H G) (h : G l = none) : H l = none := by
  cases q : H l with
  | none => rfl
  | some o =>
    by_cases e : l = p
    · subst e
      obtain ⟨u, hu⟩ := a.pot.some
      rw [hu] at h
      cases h
    · rw [a.keep l o q e] at h
      cases h
/-- what is not known at first may change -/
theorem Ladled.mut {H G : Hp} {p q : Addr} {o : HO} (a : Ladled p H G) (h : H q = none) (n : q ≠ p) : Ladled p H (upd G q o) := by
  refine ⟨?_, fun b u e nb => ?_⟩
  · obtain ⟨x, y, z, e⟩ := a.pot
    exact ⟨x, y, z, by rw [upd_ne (Ne.symm n)]; exact e⟩
  · rw [upd_ne (ne_of_none e h)]
    exact a.keep b u e nb
end Gu
namespace Gu
open PySem PySem.Spec PyProof.Rows L2
section
variable {P : Program} {w : World} {K : PySem.W.Frag} {mg : Str → Option Value} {base : Heap}
/-! ### _law_ladle -/
def spLadle : Sp := fun vs H Q _ => ∃ (p : Addr) (m : Int), vs = [.ref p, .int m] ∧ Pot H p ∧ 0 < m ∧ m < 1000000 ∧ ∀ d G, 0 ≤ d → d < m → Ladled p H G → Q (.int d) G
theorem cal_ladle (B : Bi mg) (D : At K mg "_law_ladle" s_law_ladle ps_law_ladle) : Cal P w K mg base 1 "_law_ladle" ps_law_ladle spLadle := by
  refine D.cal sc_law_ladle (fun vs H Q E h => ?_) (fun f cdv A outer s H vs Q E hr h => ?_)
  · obtain ⟨p, m, rfl, _⟩ := h
    rfl
  · obtain ⟨p, m, rfl, ⟨x, y, z, hp⟩, m0, m1, k⟩ := h
    refine ⟨_, (pss_cons (ps_asg (pe_op op_add (pe_ix ix_list (pv 0) pe_int (fun _ _ => rfl)) pe_int) (pg_sub (pv 0) pe_int set_list))
      (pss_cons (ps_if (pt_cmpR op_gt (pe_ix ix_list (pv 0) pe_int (fun _ _ => rfl)) pe_int (nomark _)) (pss_cons (ps_asg (pe_callB call_divmod (by rfl) B.divmod (by decide +kernel) (pa_cons (pe_callTy call_int1 (by rfl) B.int (by decide +kernel) (pa_cons (pe_ix ix_list (pv 0) pe_int (fun _ _ => rfl)) pa_nil)) (pa_cons (pv 1) pa_nil))) (pg_tup rfl (pgs_cons (pg_sub (pv 0) pe_int set_list) (pgs_cons (pg_name (i := 2) sc_law_ladle.nd rfl (.inl rfl)) pgs_nil))))
      (pss_one (ps_ret (pv 2)))) pss_nil)
      (pss_cons (ps_asg (pe_op op_mod (pe_callTy call_int1 (by rfl) B.int (by decide +kernel) (pa_cons (pe_op op_add (pe_op op_add (pe_op op_mul (pe_ix ix_list (pv 0) pe_int (fun _ _ => rfl)) pe_int) (pe_op op_mul (pe_ix ix_list (pv 0) pe_int (fun _ _ => rfl)) pe_int)) (pe_op op_mul (pe_op op_fdiv (pe_ix ix_list (pv 0) pe_int (fun _ _ => rfl)) pe_int) pe_int)) pa_nil)) pe_int) (pg_sub (pv 0) pe_int set_list))
      (pss_one (ps_ret (pe_op op_mod (pe_callTy call_int1 (by rfl) B.int (by decide +kernel) (pa_cons (pe_op op_fdiv (pe_ix ix_list (pv 0) pe_int (fun _ _ => rfl)) pe_int) pa_nil)) (pv 1))))))), ?_⟩
    refine ⟨_, rfl, p, _, _, _, rfl, rfl, .inl (.inl hp), (rfl : atI [V.int x, V.int y, V.int z] 1 = some (V.int y)), _, _, rfl, rfl, _, rfl, p, _, _, 1, rfl, rfl, hp, rfl, ?_⟩
    have h1 : upd H p (.lst ([V.int x, V.int y, V.int z].set 1 (.int (y + 3)))) p = some (.lst [.int x, .int (y + 3), .int z]) := upd_same
    refine ⟨_, rfl, p, _, _, _, rfl, rfl, .inl (.inl h1), (rfl : atI [V.int x, V.int (y + 3), V.int z] 0 = some (V.int x)), _, _, rfl, rfl, _, rfl, ite2 (fun _ => ?_) (fun _ => ?_)⟩
    · refine ⟨_, rfl, p, _, _, _, rfl, rfl, .inl (.inl h1), (rfl : atI [V.int x, V.int (y + 3), V.int z] 0 = some (V.int x)), .inl ⟨_, rfl, _, rfl, _, _, rfl, ⟨m0, by omega⟩, fun q hq => ?_⟩⟩
      have npq : p ≠ q := ne_of_none h1 hq
      refine ⟨q, _, rfl, .inl (.inl upd_same), rfl, _, _, rfl, ⟨_, rfl, p, _, _, 0, rfl, rfl, (by rw [upd_ne npq]; exact h1), rfl, _, _, rfl, rfl, ?_⟩⟩
      refine ⟨_, rfl, ?_⟩
      refine k (x % m) _ (Int.emod_nonneg _ (by omega)) (Int.emod_lt_of_pos _ m0) ⟨⟨_, _, _, upd_same⟩, fun b o e n => ?_⟩
      have hb : upd H p (.lst ([V.int x, V.int y, V.int z].set 1 (.int (y + 3)))) b = some o := by rw [upd_ne n]; exact e
      rw [upd_ne n, upd_ne (ne_of_none hb hq), upd_ne n]
      exact e
    · refine ⟨_, rfl, p, _, _, _, rfl, rfl, .inl (.inl h1), (rfl : atI [V.int x, V.int (y + 3), V.int z] 2 = some (V.int z)), _, _, rfl, rfl, .inr ⟨by decide, by decide⟩, _, rfl, p, _, _, _, rfl, rfl, .inl (.inl h1), (rfl : atI [V.int x, V.int (y + 3), V.int z] 1 = some (V.int (y + 3))), _, _, rfl, rfl, .inr ⟨by decide, by decide⟩, _, _, rfl, rfl, ?_⟩
      refine ⟨_, rfl, p, _, _, _, rfl, rfl, .inl (.inl h1), (rfl : atI [V.int x, V.int (y + 3), V.int z] 2 = some (V.int z)), _, _, rfl, rfl, ⟨by decide, by decide⟩, _, _, rfl, rfl, .inr ⟨by decide, by decide⟩, _, _, rfl, rfl, .inl ⟨_, rfl, _, _, rfl, rfl, (by decide : (0 : Int) < 1999999889), ?_⟩⟩
      refine ⟨_, rfl, p, _, _, 2, rfl, rfl, h1, rfl, ?_⟩
      refine ⟨_, rfl, p, _, _, _, rfl, rfl, .inl (.inl upd_same), rfl, _, _, rfl, rfl, ⟨by decide, by decide⟩, .inl ⟨_, rfl, _, rfl, _, _, rfl, rfl, m0, ?_⟩⟩
      refine k _ _ (Int.emod_nonneg _ (by omega)) (Int.emod_lt_of_pos _ m0) ⟨⟨_, _, _, upd_same⟩, fun b o e n => ?_⟩
      rw [upd_ne n, upd_ne n]
      exact e
/-! ### _law_one_of: of a list or of a text -/
def spOneOf (K : PySem.W.Frag) : Sp := fun vs H Q _ => ∃ (p : Addr), Pot H p ∧
  ((∃ (l : Addr) (xs : List V), vs = [.ref p, .ref l] ∧ SqL K H l xs ∧ l ≠ p ∧ 0 < xs.length ∧ xs.length < 1000 ∧ ∀ v G, v ∈ xs → Ladled p H G → Q v G) ∨
   (∃ (z : Str), vs = [.ref p, .str z] ∧ 0 < z.cps.toList.length ∧ z.cps.toList.length < 1000 ∧ ∀ c G, c ∈ z.cps.toList → Ladled p H G → Q (.str ⟨#[c]⟩) G))
theorem Ladled.seq {K : PySem.W.Frag} {H G : Hp} {p l : Addr} {xs : List V} (a : Ladled p H G) (n : l ≠ p) (h : SqL K H l xs) : SqL K G l xs := by
  rcases h with (h | ⟨o, h⟩) | h
  · exact .inl (.inl (a.keep _ _ h n))
  · exact .inl (.inr ⟨o, a.keep _ _ h n⟩)
  · exact .inr h
theorem at_in {α : Type} {xs : List α} {d : Int} (h0 : 0 ≤ d) (h1 : d < (xs.length : Int)) : ∃ v, v ∈ xs ∧ atI xs d = some v := by
  obtain ⟨j, rfl⟩ := Int.eq_ofNat_of_zero_le h0
  have hj : j < xs.length := by omega
  exact ⟨xs[j], List.getElem_mem hj, atI_nat (List.getElem?_eq_getElem hj)⟩
theorem cal_oneOf (B : Bi mg) (D : At K mg "_law_one_of" s_law_one_of ps_law_one_of) (C_law_ladle : Cal P w K mg base 1 "_law_ladle" ps_law_ladle spLadle) : Cal P w K mg base 2 "_law_one_of" ps_law_one_of (spOneOf K) := by
  refine D.cal sc_law_one_of (fun vs H Q E h => ?_) (fun f cdv A outer s H vs Q E hr h => ?_)
  · obtain ⟨p, _, ⟨l, xs, rfl, _⟩ | ⟨z, rfl, _⟩⟩ := h
    · rfl
    · rfl
  · refine ⟨_, (pss_one (ps_ret (pe_ix ix_seq (pv 1) (pe_own C_law_ladle hr (by decide) (by rfl) (pa_cons (pv 0) (pa_cons (pe_callB call_len (by rfl) B.len (by decide +kernel) (pa_cons (pv 1) pa_nil)) pa_nil))) (fun _ _ => rfl)))), ?_⟩
    obtain ⟨p, hp, ⟨l, xs, rfl, hl, np, l0, l1, k⟩ | ⟨z, rfl, l0, l1, k⟩⟩ := h
    · refine ⟨_, rfl, _, rfl, _, rfl, _, _, rfl, .inl ⟨_, hl, rfl⟩, p, _, rfl, hp, by omega, by omega, fun d G d0 d1 L => ?_⟩
      obtain ⟨v, hv, ha⟩ := at_in (xs := xs) d0 d1
      exact .inl ⟨l, xs, d, v, rfl, rfl, L.seq np hl, ha, k v G hv L⟩
    · have ez : z.length = z.cps.toList.length := rfl
      refine ⟨_, rfl, _, rfl, _, rfl, _, _, rfl, ⟨Nat.le_of_lt (small1000 (by omega)), rfl⟩, p, _, rfl, hp, by omega, by omega, fun d G d0 d1 L => ?_⟩
      obtain ⟨c, hc, ha⟩ := at_in (xs := z.cps.toList) d0 (by omega)
      exact .inr (.inr ⟨z, d, c, rfl, rfl, Nat.le_of_lt (small1000 (by omega)), ha, k c G hc L⟩)
/-! ### _law_pot -/
def spPot (K : PySem.W.Frag) : Sp := fun vs H Q _ => ∃ (a : Addr) (k : Nat) (ns : List Int), vs = [.ref a, .int (k : Int)] ∧ SqL K H a (ns.map V.int) ∧ k < 1000 ∧ ∀ p G, H p = none → Pot G p → Same H G → Q (.ref p) G
theorem cal_pot (B : Bi mg) (D : At K mg "_law_pot" s_law_pot ps_law_pot) : Cal P w K mg base 1 "_law_pot" ps_law_pot (spPot K) := by
  refine D.cal sc_law_pot (fun vs H Q E h => ?_) (fun f cdv A outer s H vs Q E hr h => ?_)
  · obtain ⟨a, k, ns, rfl, _⟩ := h
    rfl
  · obtain ⟨a, k, ns, rfl, hS, hk, q⟩ := h
    refine ⟨_, (pss_cons (ps_set (i := 2) sc_law_pot.nd rfl (.inl rfl) (pe_mid (pe_ifExp (pt_cmpR op_lt (pv 1) (pe_callB call_len_seq (by rfl) B.len (by decide +kernel) (pa_cons (pv 0) pa_nil)) (nomark _)) (pe_callTy call_int1 (by rfl) B.int (by decide +kernel) (pa_cons (pe_ix ix_list (pv 0) (pv 1) (fun _ _ => rfl)) pa_nil)) (pe_op op_add (pe_op op_mul pe_int (pv 1)) pe_int))))
      (pss_cons (ps_set (i := 3) sc_law_pot.nd rfl (.inl rfl) (pe_op op_add pe_int (pe_op op_mul pe_int (pv 1))))
      (pss_cons (ps_for PassesOwn.never rfl (pi_list (pe_slice sl_list (pv 0) po_none (po_some pe_int))) (pg_name (i := 4) sc_law_pot.nd rfl (.inl rfl))
      (pss_one (ps_set (i := 3) sc_law_pot.nd rfl (.inl rfl) (pe_op op_mod (pe_callTy call_int1 (by rfl) B.int (by decide +kernel) (pa_cons (pe_op op_add (pe_op op_mul (pv 3) pe_int) (pe_op op_mod (pe_callTy call_int1 (by rfl) B.int (by decide +kernel) (pa_cons (pv 4) pa_nil)) pe_int)) pa_nil)) pe_int))))
      (pss_one (ps_ret (pe_lst (pa_cons (pe_mid (pe_ifExp (PW.pt (pw_or (pt_cmpR op_lt (pv 2) pe_int (nomark _)) (pw_or1 (pt_cmpR op_ge (pv 2) (pe_op op_pow pe_int pe_int) (nomark _))))) (pe_callB call_abs (by rfl) B.abs (by decide +kernel) (pa_cons (pv 2) pa_nil)) pe_int)) (pa_cons pe_int (pa_cons (pe_op op_mod (pe_callTy call_int1 (by rfl) B.int (by decide +kernel) (pa_cons (pe_op op_add (pe_op op_mul (pv 3) pe_int) (pe_op op_mod (pv 2) pe_int)) pa_nil)) pe_int) pa_nil))))))))), ?_⟩
    refine ⟨fun v G => (∃ i : Int, v = .int i) ∧ G = H, ?_, ?_⟩
    · refine ⟨_, rfl, _, rfl, a, _, rfl, .inl hS, _, _, rfl, rfl, _, rfl, ite2 (fun e => ?_) (fun _ => ?_)⟩
      · have hlt := of_decide_eq_true e
        have hj : k < ns.length := by
          rw [List.length_map] at hlt
          omega
        refine ⟨_, rfl, _, rfl, a, _, _, _, rfl, rfl, hS, atI_nat (j := k) (v := .int ns[k]) (by rw [List.getElem?_map, List.getElem?_eq_getElem hj]; rfl), .inl ⟨_, rfl, ⟨_, rfl⟩, rfl⟩⟩
      · refine ⟨_, rfl, _, _, rfl, rfl, .inl ⟨by decide, by decide⟩, _, _, rfl, rfl, ⟨_, rfl⟩, rfl⟩
    · rintro _ H0 ⟨⟨own, rfl⟩, eH⟩
      subst eH
      refine ⟨_, rfl, _, _, rfl, rfl, .inl ⟨by decide, by decide⟩, _, _, rfl, rfl, ?_⟩
      refine ⟨_, rfl, 14, rfl, a, _, rfl, hS, fun c nc => ?_⟩
      have sc : Same H0 (upd H0 c (.lst (cutV (ns.map V.int) none (some 14)))) := same_new nc
      have hC : cutV (ns.map V.int) none (some 14) = (ns.take 14).map V.int := by
        unfold cutV
        rw [HT.sIx_none, show HT.sIx (ns.map V.int).length (ns.map V.int).length (some 14) = min 14 (ns.map V.int).length from HT.sIx_nat _ _ 14, List.drop_zero, Nat.sub_zero, List.map_take, List.take_eq_take_iff]
        omega
      refine ⟨c, rfl, ⟨_, .inl (.inl upd_same)⟩, for_list (K := K) (a := c) (xs := (ns.take 14).map V.int) (fun i σ J => ∃ (mx : Int) (u : Option V), σ = [some (.ref a), some (.int (k : Int)), some (.int own), some (.int mx), u] ∧ Same H0 J ∧ J c = some (.lst ((ns.take 14).map V.int)))
        ⟨_, none, rfl, sc, by rw [upd_same, hC]⟩ (fun i σ J _ ⟨_, _, _, _, e⟩ => .inl (.inl e)) ?_ ?_⟩
      · rintro i v σ J hi ⟨mx, u, rfl, sJ, eJ⟩
        obtain ⟨t, rfl⟩ : ∃ t, v = V.int t := by
          rw [List.getElem?_map] at hi
          cases e : (ns.take 14)[i]? with
          | none =>
            rw [e] at hi
            cases hi
          | some t =>
            rw [e] at hi
            exact ⟨t, (Option.some.inj hi).symm⟩
        refine ⟨_, rfl, _, _, rfl, rfl, .inr ⟨by decide, by decide⟩, _, rfl, .inl ⟨_, rfl, _, _, rfl, rfl, (by decide : (0 : Int) < 1999999889), _, _, rfl, rfl, .inl ⟨_, rfl, _, _, rfl, rfl, (by decide : (0 : Int) < 1999999889), ?_⟩⟩⟩
        exact ⟨_, _, rfl, sJ, eJ⟩
      · rintro σ J ⟨mx, u, rfl, sJ, eJ⟩
        refine ⟨fun v J1 => (∃ i : Int, v = .int i) ∧ J1 = J, ?_, ?_⟩
        · refine ⟨_, rfl, _, _, rfl, rfl, _, rfl, ite2 (fun _ => ?_) (fun _ => ?_)⟩
          · refine iteT ⟨_, rfl, _, rfl, ⟨_, rfl⟩, rfl⟩
          · refine ⟨_, rfl, _, _, rfl, rfl, ⟨by decide, by decide, by decide⟩, _, _, rfl, rfl, _, rfl, ite2 (fun _ => ⟨_, rfl, _, rfl, ⟨_, rfl⟩, rfl⟩) (fun _ => ⟨⟨_, rfl⟩, rfl⟩)⟩
        · rintro _ _ ⟨⟨x, rfl⟩, rfl⟩
          refine ⟨_, rfl, _, _, rfl, rfl, .inr ⟨by decide, by decide⟩, _, rfl, _, _, rfl, rfl, (by decide : (0 : Int) < 1999999889), _, _, rfl, rfl, .inl ⟨_, rfl, _, _, rfl, rfl, (by decide : (0 : Int) < 1999999889), ?_⟩⟩
          refine ⟨by show 3 ≤ sizeLine; decide, fun p np => ?_⟩
          exact q p _ (sJ.free np) ⟨_, _, _, upd_same⟩ (sJ.trans (same_new np))
end
end Gu
namespace Gu
open PySem PySem.Spec PyProof.Rows L2
/-! ### what is told -/
def marks : List Str := ["", "~", "..", "...", ".a"]
/-- four things as they are drawn -/
structure Four (l h t : Int) (z : Str) : Prop where
  l0 : 0 ≤ l
  l1 : l ≤ 40
  h0 : 0 ≤ h
  h1 : h ≤ 40
  t0 : 0 ≤ t
  t1 : t ≤ 40
  z : z ∈ marks
theorem marks_len {z : Str} (h : z ∈ marks) : z.cps.toList.length ≤ 3 := by
  have a : ∀ y ∈ marks, y.cps.toList.length ≤ 3 := by decide +kernel
  exact a z h
end Gu
namespace Gu
open PySem PySem.Spec PyProof.Rows L2
/-! ### _law_tolds -/
structure Rec where
  l : Int
  h : Int
  t : Int
  z : Str
def Rec.vs (r : Rec) : List V := [.int r.l, .int r.h, .int r.t, .str r.z]
def Rec.ok (r : Rec) : Prop := Four r.l r.h r.t r.z
theorem Pot.ne {H : Hp} {p q : Addr} (h : Pot H p) (n : H q = none) : q ≠ p := fun e => by
  subst e
  obtain ⟨o, ho⟩ := h.some
  rw [n] at ho
  cases ho
theorem yes {σ : L2.St} {H : Hp} {Q : Bool → Hp → Prop} (h : Q true H) : tYes σ H Q := h
section
variable {P : Program} {w : World} {K : PySem.W.Frag} {mg : Str → Option Value} {base : Heap}
/-- told tuples: a list of them at D -/
structure ToldsAt (G : Hp) (D : Addr) (ps : List (Addr × Rec)) : Prop where
  ls : G D = some (.lst (ps.map fun q => V.ref q.1))
  tp : ∀ q ∈ ps, G q.1 = some (.tup q.2.vs) ∧ q.2.ok
def spTolds : Sp := fun vs H Q _ => ∃ (p : Addr), vs = [.ref p] ∧ Pot H p ∧ ∀ (D : Addr) (G : Hp) (ps : List (Addr × Rec)), H D = none → ToldsAt G D ps → (∀ q ∈ ps, H q.1 = none) → 1 ≤ ps.length → ps.length ≤ 4 → Ladled p H G → Q (.ref D) G
end
end Gu
namespace Gu
open PySem PySem.Spec PyProof.Rows L2
/-! ### is_integer, is_text -/
/-- isinstance(x, T) is b -/
def Isa (K : PySem.W.Frag) (H : Hp) (x : V) (T : String) (b : Bool) : Prop := ∃ t, TyX K H x t ∧ PySem.W.kitOne K t (.type T) = some b
def signs : Str := ".0123456789abcdefghijklmnopqrstuvwxyz~"
def isTxt (z : Str) (m : Int) : Bool := decide ((z.length : Int) ≤ m) && z.cps.toList.all fun c => decide (c ∈ signs.cps.toList)
section
variable {P : Program} {w : World} {K : PySem.W.Frag} {mg : Str → Option Value} {base : Heap}
theorem Isa.int_int {H : Hp} {i : Int} : Isa K H (.int i) "int" true := ⟨_, .base (.int i), kit_ty (by decide +kernel)⟩
theorem Isa.int_bool {H : Hp} {i : Int} : Isa K H (.int i) "bool" false := ⟨_, .base (.int i), kit_ty (by decide +kernel)⟩
theorem Isa.str_str {H : Hp} {z : Str} : Isa K H (.str z) "str" true := ⟨_, .base (.str z), kit_ty (by decide +kernel)⟩
def spIsInteger (K : PySem.W.Frag) : Sp := fun vs H Q _ => ∃ (x : V) (a b : Int), vs = [x, .int a, .int b] ∧
  ((∃ v, x = .int v ∧ Q (.bl (decide (a ≤ v ∧ v ≤ b))) H) ∨ (Isa K H x "int" false ∧ Q (.bl false) H) ∨ (Isa K H x "int" true ∧ Isa K H x "bool" true ∧ Q (.bl false) H))
theorem cal_isInteger (B : Bi mg) (D : At K mg "is_integer" s_is_integer ps_is_integer) : Cal P w K mg base 1 "is_integer" ps_is_integer (spIsInteger K) := by
  refine D.cal sc_is_integer (fun vs H Q E h => ?_) (fun f cdv A outer s H vs Q E hr h => ?_)
  · obtain ⟨x, a, b, rfl, _⟩ := h
    rfl
  · obtain ⟨x, a, b, rfl, h⟩ := h
    refine ⟨_, (pss_cons (ps_if (PW.pt (pw_or (pt_not (pt_val (pe_callB call_isi (by rfl) B.isinstance (by decide +kernel) (pa_cons (pv 0) (pa_cons (pe_bltn (v := .ty "int") (by rfl) B.int (by decide +kernel) rfl) pa_nil))))) (pw_or1 (pt_val (pe_callB call_isi (by rfl) B.isinstance (by decide +kernel) (pa_cons (pv 0) (pa_cons (pe_bltn (v := .ty "bool") (by rfl) B.bool (by decide +kernel) rfl) pa_nil))))))) (pss_one (ps_ret pe_bl)) pss_nil)
      (pss_one (ps_ret (pe_chain op_le op_le (pv 1) (pv 0) (pv 2))))), ?_⟩
    rcases h with ⟨v, rfl, k⟩ | ⟨⟨t, i1, i2⟩, k⟩ | ⟨⟨t, i1, i2⟩, ⟨t', j1, j2⟩, k⟩
    · obtain ⟨t, i1, i2⟩ := Isa.int_int (K := K) (H := H) (i := v)
      obtain ⟨t', j1, j2⟩ := Isa.int_bool (K := K) (H := H) (i := v)
      refine ⟨_, rfl, _, _, t, _, true, rfl, .ty _, i1, i2, _, rfl, iteF ⟨_, rfl, _, _, t', _, false, rfl, .ty _, j1, j2, _, rfl, iteF ?_⟩⟩
      refine ⟨_, rfl, _, rfl, _, _, rfl, rfl, _, rfl, ?_⟩
      by_cases e1 : a ≤ v
      · rw [decide_eq_true e1]
        refine iteT ⟨_, rfl, _, _, rfl, rfl, ?_⟩
        have e : decide (a ≤ v ∧ v ≤ b) = decide (v ≤ b) := by simp only [e1, true_and]
        rw [e] at k
        exact k
      · rw [decide_eq_false e1]
        refine iteF ?_
        have e : decide (a ≤ v ∧ v ≤ b) = false := by simp only [e1, false_and, decide_false]
        rw [e] at k
        exact k
    · refine ⟨_, rfl, _, _, t, _, false, rfl, .ty _, i1, i2, _, rfl, iteT (iteT k)⟩
    · refine ⟨_, rfl, _, _, t, _, true, rfl, .ty _, i1, i2, _, rfl, iteF ⟨_, rfl, _, _, t', _, true, rfl, .ty _, j1, j2, _, rfl, iteT k⟩⟩
def spIsText (K : PySem.W.Frag) : Sp := fun vs H Q _ => ∃ (x : V) (m : Int), vs = [x, .int m] ∧
  ((∃ z : Str, x = .str z ∧ z.length ≤ 1000 ∧ ∀ G, Same H G → Q (.bl (isTxt z m)) G) ∨ (Isa K H x "str" false ∧ Q (.bl false) H))
theorem cal_isText (B : Bi mg) (D : At K mg "is_text" s_is_text ps_is_text) : Cal P w K mg base 1 "is_text" ps_is_text (spIsText K) := by
  refine D.cal sc_is_text (fun vs H Q E h => ?_) (fun f cdv A outer s H vs Q E hr h => ?_)
  · obtain ⟨x, m, rfl, _⟩ := h
    rfl
  · obtain ⟨x, m, rfl, h⟩ := h
    refine ⟨_, (pss_cons (ps_if (PW.pt (pw_or (pt_not (pt_val (pe_callB call_isi (by rfl) B.isinstance (by decide +kernel) (pa_cons (pv 0) (pa_cons (pe_bltn (v := .ty "str") (by rfl) B.str (by decide +kernel) rfl) pa_nil))))) (pw_or1 (pt_cmpR op_gt (pe_callB call_len (by rfl) B.len (by decide +kernel) (pa_cons (pv 0) pa_nil)) (pv 1) (nomark _))))) (pss_one (ps_ret pe_bl)) pss_nil)
      (pss_one (ps_ret (pe_callB (cr_all rfl) (by rfl) B.all (by decide +kernel) (pa_cons (pe_lc (own := [("character", 2)]) (by rfl) sc_is_text.nd (pi_str (pv 0)) (blkOk_by (own := [("character", 2)]) (N := ["value", "most", "character"]) (sc := defScope s_is_text) (by decide +kernel)) (fun _ _ _ _ _ => pg_name (i := 2) sc_is_text.nd rfl (.inl rfl)) (fun _ _ _ _ _ => pts_nil) (fun _ _ _ _ _ => (pe_cmpR op_in_sign (pv 2) (pe_cst B.SIGNS (by rfl)) (by rfl)))) pa_nil))))), ?_⟩
    rcases h with ⟨z, rfl, zl, k⟩ | ⟨⟨t, i1, i2⟩, k⟩
    · obtain ⟨t, i1, i2⟩ := Isa.str_str (K := K) (H := H) (z := z)
      refine ⟨_, rfl, _, _, t, _, true, rfl, .ty _, i1, i2, _, rfl, iteF ⟨_, rfl, _, _, rfl, ⟨Nat.le_of_lt (small1000 zl), rfl⟩, _, rfl, _, _, rfl, rfl, _, rfl, ite2 (fun e => ?_) (fun e => ?_)⟩⟩
      · have e1 : ¬ (z.length : Int) ≤ m := by
          have := of_decide_eq_true e
          omega
        have e2 : isTxt z m = false := by
          unfold isTxt
          rw [decide_eq_false e1, Bool.false_and]
        rw [e2] at k
        exact k H (Same.refl H)
      · have e1 : (z.length : Int) ≤ m := by
          have h2 : ¬ m < (z.length : Int) := fun h3 => e (decide_eq_true h3)
          omega
        refine ⟨_, rfl, z, rfl, fun D nD => lc_it walk_str (fun i J => Same H J ∧ J D = some (.lst (((z.cps.toList.take i).map fun c => decide (c ∈ signs.cps.toList)).map V.bl)))
          ⟨same_new nD, by rw [upd_same]; rfl⟩ (fun _ _ _ _ => trivial) ?_ ?_⟩
        · rintro i v J _ hi ⟨sJ, eJ⟩ ⟨rfl, c, hc, rfl⟩
          refine ⟨rfl, yes (iteT ?_)⟩
          refine ⟨_, rfl, c, signs, rfl, rfl, _, eJ, small1000 ?_, ?_, ?_⟩
          · rw [List.length_map, List.length_map, List.length_take]
            have : z.length = z.cps.toList.length := rfl
            omega
          · exact fun b o e => by
              rw [upd_ne (ne_of_none e nD)]
              exact sJ b o e
          · rw [upd_same]
            have hc' : z.cps.toList[i]? = some c := by
              rw [← Array.getElem?_toList] at hc
              exact hc
            rw [List.take_add_one, hc', List.map_append, List.map_append]
            rfl
        · rintro J ⟨sJ, eJ⟩
          refine ⟨D, ((z.cps.toList.take z.cps.size).map fun c => decide (c ∈ signs.cps.toList)), rfl, .inl (.inl eJ), ?_⟩
          have e2 : ((z.cps.toList.take z.cps.size).map fun c => decide (c ∈ signs.cps.toList)).all id = isTxt z m := by
            unfold isTxt
            rw [decide_eq_true e1, Bool.true_and, List.take_of_length_le (show z.cps.toList.length ≤ z.cps.size from Nat.le_refl _), List.all_map]
            rfl
          rw [e2]
          exact k J sJ
    · refine ⟨_, rfl, _, _, t, _, false, rfl, .ty _, i1, i2, _, rfl, iteT (iteT k)⟩
end
end Gu
namespace Gu
open PySem PySem.Spec PyProof.Rows L2
/-! ### is_tuple -/
theorem isaTupP {K : PySem.W.Frag} {H : Hp} {l : Addr} {xs : List V} (h : SqT K H l xs) : Isa K H (.ref l) "tuple" true := by
  rcases h with (h | ⟨o, h⟩) | ⟨o, its, n, e, c, _⟩
  · exact ⟨_, .base (.tup h), kit_ty (by decide +kernel)⟩
  · exact ⟨_, .fTuple h, kit_ty (by decide +kernel)⟩
  · exact ⟨_, .kTuple e c, kit_ty (by decide +kernel)⟩
section
variable {P : Program} {w : World} {K : PySem.W.Frag} {mg : Str → Option Value} {base : Heap} {C : Addr}
def spIsTuple (K : PySem.W.Frag) : Sp := fun vs H Q _ => ∃ (x : V) (a b : Int), vs = [x, .int a, .int b] ∧
  ((∃ (l : Addr) (xs : List V), x = .ref l ∧ SqT K H l xs ∧ Q (.bl (decide (a ≤ (xs.length : Int) ∧ (xs.length : Int) ≤ b))) H) ∨ (Isa K H x "tuple" false ∧ Q (.bl false) H))
theorem cal_isTuple (B : Bi mg) (D : At K mg "is_tuple" s_is_tuple ps_is_tuple) : Cal P w K mg base 1 "is_tuple" ps_is_tuple (spIsTuple K) := by
  refine D.cal sc_is_tuple (fun vs H Q E h => ?_) (fun f cdv A outer s H vs Q E hr h => ?_)
  · obtain ⟨x, a, b, rfl, _⟩ := h
    rfl
  · obtain ⟨x, a, b, rfl, h⟩ := h
    refine ⟨_, (pss_one (ps_ret (pe_and (pe_callB call_isi (by rfl) B.isinstance (by decide +kernel) (pa_cons (pv 0) (pa_cons (pe_bltn (v := .ty "tuple") (by rfl) B.tuple (by decide +kernel) rfl) pa_nil))) (pe_one (pe_chain op_le op_le (pv 1) (pe_callB call_len (by rfl) B.len (by decide +kernel) (pa_cons (pv 0) pa_nil)) (pv 2)))))), ?_⟩
    rcases h with ⟨l, xs, rfl, hT, k⟩ | ⟨⟨t, i1, i2⟩, k⟩
    · obtain ⟨t, i1, i2⟩ := isaTupP hT
      refine ⟨_, rfl, _, _, t, _, true, rfl, .ty _, i1, i2, _, rfl, iteT ?_⟩
      refine ⟨_, rfl, _, rfl, _, _, rfl, .inr ⟨_, hT, rfl⟩, _, _, rfl, rfl, _, rfl, ?_⟩
      by_cases e1 : a ≤ (xs.length : Int)
      · rw [decide_eq_true e1]
        refine iteT ⟨_, rfl, _, _, rfl, rfl, ?_⟩
        have e : decide (a ≤ (xs.length : Int) ∧ (xs.length : Int) ≤ b) = decide ((xs.length : Int) ≤ b) := by simp only [e1, true_and]
        rw [e] at k
        exact k
      · rw [decide_eq_false e1]
        refine iteF ?_
        have e : decide (a ≤ (xs.length : Int) ∧ (xs.length : Int) ≤ b) = false := by simp only [e1, false_and, decide_false]
        rw [e] at k
        exact k
    · exact ⟨_, rfl, _, _, t, _, false, rfl, .ty _, i1, i2, _, rfl, iteF k⟩
end
end Gu
namespace Gu
open PySem PySem.Spec PyProof.Rows L2
/-! ### the class Shortener, its __init__ -/
def flds (r : Rec) (b : Addr) : List (Str × V) := putF "told" (.ref b) (putF "mark" (.str r.z) (putF "tail" (.int r.t) (putF "head" (.int r.h) (putF "limit" (.int r.l) []))))
theorem flds_limit (r : Rec) (b : Addr) : (flds r b).lookup ("limit" : Str) = some (.int r.l) := by
  unfold flds
  rw [lookup_putF, if_neg (by decide +kernel), lookup_putF, if_neg (by decide +kernel), lookup_putF, if_neg (by decide +kernel), lookup_putF, if_neg (by decide +kernel), lookup_putF, if_pos rfl]
theorem flds_head (r : Rec) (b : Addr) : (flds r b).lookup ("head" : Str) = some (.int r.h) := by
  unfold flds
  rw [lookup_putF, if_neg (by decide +kernel), lookup_putF, if_neg (by decide +kernel), lookup_putF, if_neg (by decide +kernel), lookup_putF, if_pos rfl]
theorem flds_tail (r : Rec) (b : Addr) : (flds r b).lookup ("tail" : Str) = some (.int r.t) := by
  unfold flds
  rw [lookup_putF, if_neg (by decide +kernel), lookup_putF, if_neg (by decide +kernel), lookup_putF, if_pos rfl]
theorem flds_mark (r : Rec) (b : Addr) : (flds r b).lookup ("mark" : Str) = some (.str r.z) := by
  unfold flds
  rw [lookup_putF, if_neg (by decide +kernel), lookup_putF, if_pos rfl]
theorem flds_told (r : Rec) (b : Addr) : (flds r b).lookup ("told" : Str) = some (.ref b) := by
  unfold flds
  rw [lookup_putF, if_pos rfl]
/-- what a Shortener may be made of -/
structure Rec.fit (r : Rec) : Prop where
  l : 0 ≤ r.l ∧ r.l ≤ 40
  h : 0 ≤ r.h ∧ r.h ≤ 40
  t : 0 ≤ r.t ∧ r.t ≤ 40
  z : isTxt r.z 3 = true
theorem isTxt_len {z : Str} {m : Int} (h : isTxt z m = true) : (z.length : Int) ≤ m := by
  unfold isTxt at h
  rw [Bool.and_eq_true] at h
  exact of_decide_eq_true h.1
theorem Rec.ok.fit {r : Rec} (o : r.ok) : r.fit := by
  have a : ∀ y ∈ marks, isTxt y 3 = true := by decide +kernel
  exact ⟨⟨o.l0, o.l1⟩, ⟨o.h0, o.h1⟩, ⟨o.t0, o.t1⟩, a _ o.z⟩
/-- the class as the top has left it -/
structure ShC (K : PySem.W.Frag) (mg : Str → Option Value) (C : Addr) : Prop where
  cl : Cls K C
  nL : NoAttr K C "limit"
  nH : NoAttr K C "head"
  nT : NoAttr K C "tail"
  nM : NoAttr K C "mark"
  nD : NoAttr K C "told"
  g : mg "Shortener" = some (.ref C)
  ha : PySem.W.findIn K (.ref C) "__class__" = some (some (.builtin "object.__class__"))
  hn : PySem.W.specialIn K (.builtin "object.__class__") "__get__" = some (some (.builtin "getset_descriptor.__get__"))
  ht : PySem.W.takesIn K (.builtin "object.__class__") = some true
  hm : PySem.W.mroIn K C (.type "object") = some true
  kk : PySem.W.kitOne K (.ref C) (.ref C) = some true
structure InitAt (K : PySem.W.Frag) (C : Addr) : Prop where
  ex : ∃ (f : Addr) (fd : FuncData), Mk K C f ∧ Fun K "__init__" "Shortener.__init__" s_Shortener_init f fd ∧ Binds K fd ps_Shortener_init []
structure Mak (P : Program) (w : World) (K : PySem.W.Frag) (mg : Str → Option Value) (base : Heap) (k : Nat) (x : Str) (C : Addr) (sp : Sp) : Prop where
  ex : ∃ (f : Addr) (fd : FuncData) (ps : List Str), Mk K C f ∧ FnOk P w K mg base CX0 k f fd ps sp ∧ mg x = some (.ref C) ∧ Binds K fd ps []
section
variable {X : Cx} {k j : Nat} {x : Str} {C : Addr} {sp : Sp} {p pos : Pos} {e : Expr} {es : List Expr} {t : TA}
theorem pe_new (c : Mak X.prog X.w X.K X.mg X.base k x C sp) (hr : Room j X.A) (hk : k + 1 ≤ j) (hg : Gl X x) (ha : PA X (e :: es) t)
    (hdb : (x == ("__debug__" : Str)) = false := by decide) (he : starEach (e :: es) X.env = (false, eval e X.env) :: starEach es X.env := by rfl) (hpl : (backTo pos (starEach es X.env)).any (·.1) = false := by rfl) :
    PE X (.Call (.Name x p) (e :: es) [] pos) (tMake C sp [] E0 t) := by
  obtain ⟨f, fd, ps, M, F, hm, b⟩ := c.ex
  exact pe_make M F (hr.mono hk) hg hm b .nil pass0 ha hdb he hpl
end
section
variable {P : Program} {w : World} {K : PySem.W.Frag} {mg : Str → Option Value} {base : Heap} {C : Addr}
def spCheckMark : Sp := fun vs H Q _ => ∃ (z : Str), vs = [.str z] ∧ isTxt z 3 = true ∧ ∀ G, Same H G → Q .non G
theorem cal_checkMark (B : Bi mg) (D : At K mg "check_mark" s_check_mark ps_check_mark) (C_is_text : Cal P w K mg base 1 "is_text" ps_is_text (spIsText K)) : Cal P w K mg base 2 "check_mark" ps_check_mark spCheckMark := by
  refine D.cal sc_check_mark (fun vs H Q E h => ?_) (fun f cdv A outer s H vs Q E hr h => ?_)
  · obtain ⟨z, rfl, _⟩ := h
    rfl
  · obtain ⟨z, rfl, hz, k⟩ := h
    have zl := isTxt_len hz
    refine ⟨_, (pss_one (ps_if (pt_not (pt_val (pe_own C_is_text hr (by decide) (by rfl) (pa_cons (pv 0) (pa_cons (pe_cst B.MOST_MARK (by rfl)) pa_nil))))) pss_never pss_nil)), ?_⟩
    refine ⟨_, rfl, _, _, rfl, .inl ⟨z, rfl, by omega, fun G sG => ⟨_, rfl, ?_⟩⟩⟩
    rw [hz]
    exact iteF (k G sG)
def spInit (C : Addr) : Sp := fun vs H Q _ => ∃ (x dx : Addr) (r : Rec), vs = [.ref x, .int r.l, .int r.h, .int r.t, .str r.z] ∧ H x = some (.ins C dx []) ∧ r.fit ∧
  ∀ (b : Addr) (G : Hp), H b = none → G x = some (.ins C dx (flds r b)) → G b = some (.tup r.vs) → (∀ c o, H c = some o → c ≠ x → G c = some o) → Q .non G
theorem ok_init {f : Addr} {fd : FuncData} (B : Bi mg) (S : ShC K mg C) (F : Fun K "__init__" "Shortener.__init__" s_Shortener_init f fd) (C_is_integer : Cal P w K mg base 1 "is_integer" ps_is_integer (spIsInteger K)) (C_check_mark : Cal P w K mg base 2 "check_mark" ps_check_mark spCheckMark) : FnOk P w K mg base CX0 3 f fd ps_Shortener_init (spInit C) := by
  refine F.ok sc_Shortener_init (fun vs H Q E h => ?_) (fun cdv A outer s H vs Q E hr h => ?_)
  · obtain ⟨x, dx, r, rfl, _⟩ := h
    rfl
  · obtain ⟨x, dx, r, rfl, hx, fit, k⟩ := h
    refine ⟨_, (pss_cons (ps_for PassesOwn.never rfl (pi_tup (pe_tup (pa_cons (pv 1) (pa_cons (pv 2) (pa_cons (pv 3) pa_nil))))) (pg_name (i := 5) sc_Shortener_init.nd rfl (.inl rfl))
      (pss_one (ps_if (pt_not (pt_val (pe_own C_is_integer hr (by decide) (by rfl) (pa_cons (pv 5) (pa_cons pe_int (pa_cons (pe_cst B.MOST_SIGNS (by rfl)) pa_nil)))))) pss_never pss_nil)))
      (pss_cons (ps_expr (pe_own C_check_mark hr (by decide) (by rfl) (pa_cons (pv 4) pa_nil)))
      (pss_cons (ps_fld (pv 0) (pv 1) rfl)
      (pss_cons (ps_fld (pv 0) (pv 2) rfl)
      (pss_cons (ps_fld (pv 0) (pv 3) rfl)
      (pss_cons (ps_fld (pv 0) (pv 4) rfl)
      (pss_one (ps_fld (pv 0) (pe_tup (pa_cons (pv 1) (pa_cons (pv 2) (pa_cons (pv 3) (pa_cons (pv 4) pa_nil))))) rfl)))))))), ?_⟩
    refine ⟨_, rfl, _, rfl, _, rfl, by show 3 ≤ sizeLine; decide, fun T nT => ?_⟩
    have nxT : x ≠ T := ne_of_none hx nT
    have hxT : upd H T (.tup [.int r.l, .int r.h, .int r.t]) x = some (.ins C dx []) := by rw [upd_ne nxT]; exact hx
    refine ⟨T, rfl, ⟨_, .inl (.inl upd_same)⟩, for_tup (K := K) (a := T) (xs := [.int r.l, .int r.h, .int r.t]) (fun i σ J => ∃ u, σ = [some (.ref x), some (.int r.l), some (.int r.h), some (.int r.t), some (.str r.z), u] ∧ J = upd H T (.tup [.int r.l, .int r.h, .int r.t]))
      ⟨none, rfl, rfl⟩ (fun i σ J _ ⟨_, _, e⟩ => by rw [e]; exact .inl (.inl upd_same)) ?_ ?_⟩
    · rintro i v σ J hi ⟨u, rfl, rfl⟩
      obtain ⟨n, n0, n1, rfl⟩ : ∃ n : Int, 0 ≤ n ∧ n ≤ 40 ∧ v = .int n := by
        have hv := List.mem_of_getElem? hi
        simp only [List.mem_cons, List.not_mem_nil, or_false] at hv
        rcases hv with rfl | rfl | rfl
        · exact ⟨_, fit.l.1, fit.l.2, rfl⟩
        · exact ⟨_, fit.h.1, fit.h.2, rfl⟩
        · exact ⟨_, fit.t.1, fit.t.2, rfl⟩
      refine ⟨_, rfl, _, _, _, rfl, .inl ⟨_, rfl, _, rfl, ?_⟩⟩
      rw [decide_eq_true ⟨n0, n1⟩]
      exact iteF ⟨_, rfl, rfl⟩
    · rintro σ J ⟨u, rfl, rfl⟩
      refine ⟨_, rfl, _, rfl, fit.z, fun G sG => ?_⟩
      have g0 : G x = some (.ins C dx []) := sG _ _ hxT
      refine ⟨_, rfl, _, rfl, x, C, dx, [], rfl, g0, S.cl, S.nL, by decide, ?_⟩
      refine ⟨_, rfl, _, rfl, x, C, dx, _, rfl, upd_same, S.cl, S.nH, by exact Nat.lt_of_le_of_lt (length_putF _ _ _) (by decide), ?_⟩
      rw [upd_upd]
      refine ⟨_, rfl, _, rfl, x, C, dx, _, rfl, upd_same, S.cl, S.nT, by exact Nat.lt_of_le_of_lt (length_putF _ _ _) (Nat.lt_of_le_of_lt (Nat.succ_le_succ (length_putF _ _ _)) (by decide)), ?_⟩
      rw [upd_upd]
      refine ⟨_, rfl, _, rfl, x, C, dx, _, rfl, upd_same, S.cl, S.nM, by exact Nat.lt_of_le_of_lt (length_putF _ _ _) (Nat.lt_of_le_of_lt (Nat.succ_le_succ (Nat.le_trans (length_putF _ _ _) (Nat.succ_le_succ (length_putF _ _ _)))) (by decide)), ?_⟩
      rw [upd_upd]
      refine ⟨_, rfl, _, rfl, _, rfl, _, rfl, by show 4 ≤ sizeLine; decide, fun b nb => ?_⟩
      have nxb : x ≠ b := ne_of_none upd_same nb
      refine ⟨_, rfl, x, C, dx, _, rfl, (by rw [upd_ne nxb, upd_same]), S.cl, S.nD, by exact Nat.lt_of_le_of_lt (length_putF _ _ _) (Nat.lt_of_le_of_lt (Nat.succ_le_succ (Nat.le_trans (length_putF _ _ _) (Nat.succ_le_succ (Nat.le_trans (length_putF _ _ _) (Nat.succ_le_succ (length_putF _ _ _)))))) (by decide)), ?_⟩
      have nb1 : G b = none := by rw [upd_ne nxb.symm] at nb; exact nb
      have nb0 : H b = none := (same_new nT).free (sG.free nb1)
      refine k b _ nb0 upd_same (by rw [upd_ne nxb.symm, upd_same]; rfl) fun c o e nc => ?_
      rw [upd_ne nc, upd_ne (ne_of_none e nb0), upd_ne nc]
      exact sG _ _ (same_new nT _ _ e)
theorem mak_sh (B : Bi mg) (S : ShC K mg C) (D : InitAt K C) (C_is_integer : Cal P w K mg base 1 "is_integer" ps_is_integer (spIsInteger K)) (C_check_mark : Cal P w K mg base 2 "check_mark" ps_check_mark spCheckMark) : Mak P w K mg base 3 "Shortener" C (spInit C) := by
  obtain ⟨f, fd, M, F, b⟩ := D.ex
  exact ⟨f, fd, ps_Shortener_init, M, ok_init B S F C_is_integer C_check_mark, S.g, b⟩
end
end Gu
namespace PySem
open Sem (wp)
open AutoSeq1 (wpAny_loadPart')
theorem gu_new_enum (a : Addr) (vs : Array Value) (n : Nat) (dt : Option Addr) (sl : Array (Option Value)) : Meets (Builtin.«enumerate.__new__» ⟨[.type "enumerate", .ref a], []⟩) (fun _ R s =>
    s.heap.get? a = some ⟨.type "tuple", dt, .seq vs n, sl⟩ ∧ R (.ok (.ret (.ref (s.heap.push { cls := .type "tuple_iterator", data := .fields #[.ref a, .int 0 0] }).objs.size))) { s with heap := (s.heap.push { cls := .type "tuple_iterator", data := .fields #[.ref a, .int 0 0] }).push { cls := .type "enumerate", data := .fields #[.none, .bool false, .ref s.heap.objs.size, rawInt 0, .none, .none] } }) :=
  .of_wp fun prog w A R s h => by
    obtain ⟨s1, s2, s3, s4, s5⟩ := s
    obtain ⟨ha, h⟩ := h
    have sb := sub_enumerate
    have hT : Heap.IsTuple (Shared.heap ⟨s1, s2, s3, s4, s5⟩) a vs := ⟨_, ha, rfl, n, rfl⟩
    wp_walk using wpAny_loadPart' ha
    refine wpAny_stack_any fun fr => wpAny_pure ?_
    split
    · next c _ _ _ _ _ =>
      cases (c == Value.type "enumerate") <;> (wp_walk using wpAny_loadPart' ha, wpAny_pyIter_tuple hT; exact ⟨_, rfl, h⟩)
    · wp_walk using wpAny_loadPart' ha, wpAny_pyIter_tuple hT
      exact ⟨_, rfl, h⟩
section
variable {prog : Program} {w : World} {A : Around} {E : Value → Shared → Prop} {s : Shared}
theorem gu_call_enum {a : Addr} {vs : Array Value} {Q : Value → Shared → Prop} (hT : s.heap.IsTuple a vs)
    (h : ∀ g, IsEnum g (s.heap.objs.size + 1) s.heap.objs.size 0 .none → g.IsTupleIter s.heap.objs.size a 0 → (∀ b o, s.heap.get? b = some o → g.get? b = some o) → Q (.ref (s.heap.objs.size + 1)) { s with heap := g }) :
    wpAny (model prog w) A (call (.type "enumerate") [.ref a]) Q E s := by
  obtain ⟨⟨oc, od, dd, sl⟩, ha, hc, n, hd⟩ := hT
  cases (show oc = .type "tuple" from hc)
  cases (show dd = .seq vs n from hd)
  refine callType_new F.called_enumerate (by decide) (F.typeCall_enumerate_1 _) (F.newCall_enumerate_1 _) (fun o => F.args_object_init_2 o _) F.entry_enumerate_new (gu_new_enum a vs n od sl) ⟨ha, ?_⟩
  have z1 : (s.heap.push { cls := .type "tuple_iterator", data := .fields #[.ref a, .int 0 0] }).objs.size = s.heap.objs.size + 1 := Heap.size_push ..
  show _ ∧ _
  rw [z1]
  have en : IsEnum ((s.heap.push { cls := .type "tuple_iterator", data := .fields #[.ref a, .int 0 0] }).push { cls := .type "enumerate", data := .fields #[.none, .bool false, .ref s.heap.objs.size, rawInt 0, .none, .none] }) (s.heap.objs.size + 1) s.heap.objs.size 0 .none := by
    have q := Heap.get?_push_size (s.heap.push { cls := .type "tuple_iterator", data := .fields #[.ref a, .int 0 0] }) (o := { cls := .type "enumerate", data := .fields #[.none, .bool false, .ref s.heap.objs.size, rawInt 0, .none, .none] }) rfl
    rw [z1] at q
    exact q
  exact ⟨⟨_, en, rfl⟩, h _ en ⟨_, Heap.get?_push_of_some _ (Heap.get?_push_size _ rfl), rfl, rfl⟩ fun b o x => Heap.get?_push_of_some _ (Heap.get?_push_of_some _ x)⟩
end
end PySem
namespace Gu
open PySem PySem.Spec PyProof.Rows L2
/-- the tuple at a, each item in a new pair with its place -/
def EnT (K : PySem.W.Frag) (a : Addr) : It where
  go := fun i H => ∃ (xs : List V) (x : V), SqT K H a xs ∧ xs[i]? = some x
  yld := fun i H v G => ∃ T x, v = .ref T ∧ H T = none ∧ G = upd H T (.tup [.int (i : Nat), x]) ∧ ∀ xs, SqT K H a xs → xs[i]? = some x
  stop := fun i H => ∃ xs : List V, SqT K H a xs ∧ xs.length = i
theorem turn_enT {P : Program} {w : World} {K : PySem.W.Frag} {es : List Expr} {kk : Nat} {tp : Pos} (a e it : Addr) :
    Turn P w K (.Tuple es kk tp) (EnT K a) [e, it] e (fun i h => (∃ old, IsEnum h e it ((i : Nat) : Int) old) ∧ h.IsTupleIter it a i ∧ e ≠ it) where
  mem := List.mem_cons_self ..
  obj := fun i h st b hb => by
    obtain ⟨⟨old, he⟩, ⟨o, ho, hc, hd⟩, _⟩ := st
    simp only [List.mem_cons, List.not_mem_nil, or_false] at hb
    rcases hb with rfl | rfl
    · exact ⟨_, he, fun v q => nomatch q⟩
    · exact ⟨o, ho, fun v q => by rw [hd] at q; cases q⟩
  keep := fun i h g st k => by
    obtain ⟨⟨old, he⟩, hi, ne⟩ := st
    exact ⟨⟨old, k e (by simp) _ he⟩, hi.at fun o q => k it (by simp) o q, ne⟩
  item := by
    intro X hP hw hK hc i pins s σ H E I hf st hg
    subst hP hw hK
    obtain ⟨⟨old, he⟩, hit, ne⟩ := st
    obtain ⟨xs, x, hq, hx⟩ := hg
    obtain ⟨its, rv, tp, hz⟩ := I.tuple hq
    obtain ⟨u, hu, ru⟩ := rv.get hx
    have el : e < s.heap.objs.size := Heap.lt_size he
    have il : it < s.heap.objs.size := by
      obtain ⟨_, q, _⟩ := hit
      exact Heap.lt_size q
    have tp' : s.heap.IsTuple a its.toArray := tp
    have nai : a ≠ it := fun z => by
      obtain ⟨o1, g1, c1, _⟩ := tp'
      obtain ⟨o2, g2, c2, _⟩ := hit
      rw [z] at g1
      cases g1.symm.trans g2
      exact absurd (Value.type.inj (c1.symm.trans c2)) (by decide)
    have nea : e ≠ a := fun z => by
      obtain ⟨o1, g1, c1, _⟩ := tp'
      have g2 := he
      rw [z] at g2
      cases g1.symm.trans g2
      exact absurd (Value.type.inj c1) (by decide)
    have hd : X.A.in1.handled = none := I.ok.hd hc
    refine wpAny_pyNext_enum_itemD (Draws.tuple hd it a nai its.toArray) he ⟨hit, tp'⟩ (i := i) (by
      have := (List.getElem?_eq_some_iff.mp hu).1
      simpa using this) ne (by simp [ne, nea]) fun y g tk hy ho st' hT hsz hk => ?_
    have ey : y = u := by
      have : its[i]? = some y := by simpa using hy
      rw [hu] at this
      exact (Option.some.inj this).symm
    subst ey
    refine ⟨_, rfl, wpAny_letOwnedTupleGo_enum (s := { s with heap := g, toks := tk + 1 }) ho fun g2 he' sb => ?_⟩
    have hT2 : g2.get? s.heap.objs.size = some { cls := .type "tuple", data := .seq #[.int i tk, y] } := (sb.2 _ (Nat.ne_of_gt el)).trans hT
    have nw : ObjOk X.prog X.w (upd H s.heap.objs.size (.tup [.int (i : Nat), x])) g2 s.heap.objs.size (.tup [.int (i : Nat), x]) := ⟨by show 2 ≤ sizeLine; decide, [.int i tk, y], .cons ⟨_, rfl⟩ (.cons ru .nil), ⟨_, hT2, rfl, _, rfl⟩⟩
    have I1 : Inv X pins σ (upd H s.heap.objs.size (.tup [.int (i : Nat), x])) { s with heap := g2, toks := tk + 1 } :=
      I.turnedNew (ch := [e, it]) (fun b ob hb q => (sb.2 b (fun z => hb (by simp [z]))).trans (hk b ob (fun z => hb (by simp [z])) (fun z => hb (by simp [z])) q)) hf (Nat.le_refl _) nw
    refine ⟨.ref s.heap.objs.size, _, I1, rfl, ⟨_, x, rfl, I.hok.fresh (Nat.le_refl _), rfl, fun ys hy => by rw [I.tuple_inj hy hq]; exact hx⟩, ⟨⟨y, ?_⟩, st'.1.at fun o q => (sb.2 it (Ne.symm ne)).trans q, ne⟩, fun b hb => ?_⟩
    · rw [show ((i + 1 : Nat) : Int) = (i : Int) + 1 by omega]
      exact he'
    · have hb' : b < s.heap.objs.size := by
        simp only [List.mem_cons, List.not_mem_nil, or_false] at hb
        rcases hb with rfl | rfl
        · exact el
        · exact il
      rw [upd_ne (Nat.ne_of_lt hb')]
      exact (hf b hb).1
  done := by
    intro X hP hw hK hc i pins s σ H E I hf st hg
    subst hP hw hK
    obtain ⟨⟨old, he⟩, hit, ne⟩ := st
    obtain ⟨xs, hq, hx⟩ := hg
    obtain ⟨its, rv, tp, hz⟩ := I.tuple hq
    have tp' : s.heap.IsTuple a its.toArray := tp
    have nai : a ≠ it := fun z => by
      obtain ⟨o1, g1, c1, _⟩ := tp'
      obtain ⟨o2, g2, c2, _⟩ := hit
      rw [z] at g1
      cases g1.symm.trans g2
      exact absurd (Value.type.inj (c1.symm.trans c2)) (by decide)
    have hd : X.A.in1.handled = none := I.ok.hd hc
    have en : its.toArray.size = i := by
      have := rv.length
      simp only [List.size_toArray]
      omega
    obtain ⟨f0, f1, f2, f3, f4, f5⟩ := hf it (by simp)
    exact wpAny_pyNext_enum_endD (Draws.tuple hd it a nai its.toArray) he ⟨by rw [en]; exact hit, tp'⟩ fun g eb => ⟨rfl, I.turned (t' := s.toks) (fun b o hb q => eb b o hb q) f0 f1 f3 f4 f5⟩
  self := fun A i s Q E st h => by
    obtain ⟨⟨_, he⟩, _⟩ := st
    exact wpAny_pyIter_enum he h
def iEnT (K : PySem.W.Frag) (ta : TA) : TI := fun σ H R => ta σ H fun vs G => ∃ a xs, vs = [.ref a] ∧ SqT K G a xs ∧ R (EnT K a) G
theorem pi_enT {X : Cx} {e : Expr} {ta : TA} {p pos tp : Pos} {es : List Expr} {kk : Nat} (hg : Gl X "enumerate") (hm : X.mg "enumerate" = none) (ha : PA X [e] ta) (hs : starEach [e] X.env = [(false, eval e X.env)] := by rfl) :
    PI X (.Tuple es kk tp) (.Call (.Name "enumerate" p) [e] [] pos) (iEnT X.K ta) := by
  refine ⟨fun pins s σ H R I h => ?_⟩
  refine Call_ (ld_blt I hg hm boot_enumerate (PyProof.Rows.callWith_type1 (thn (ha.run pos pins s σ H _ I h) fun us s1 ⟨vs, G, I1, r1, q1⟩ => ?_) hs rfl))
  obtain ⟨a, xs, ex, hq, q⟩ := q1
  subst ex
  cases r1 with
  | cons r rr =>
    cases rr
    cases r
    obtain ⟨its, rv, tq, hz⟩ := I1.tuple hq
    refine gu_call_enum (show s1.heap.IsTuple a its.toArray from tq) fun g he hit hk => wpAny_pyIter_enum he ?_
    have I2 : Inv X pins σ G { s1 with heap := g } := I1.kept (t' := s1.toks) hk
    refine ⟨s1.heap.objs.size + 1, [s1.heap.objs.size + 1, s1.heap.objs.size], _, _, G, rfl, I2, turn_enT a (s1.heap.objs.size + 1) s1.heap.objs.size, ⟨⟨.none, he⟩, hit, Nat.succ_ne_self _⟩, fun b hb => ?_, q⟩
    have le : s1.heap.objs.size ≤ b := by
      simp only [List.mem_cons, List.not_mem_nil, or_false] at hb
      rcases hb with rfl | rfl
      · exact Nat.le_add_right _ _
      · exact Nat.le_refl _
    exact I1.fpOk le (I1.hok.fresh le)
/-- the walk of such a loop: a new pair each turn -/
theorem walk_enT {K : PySem.W.Frag} {a : Addr} {xs : List V} : Walk (EnT K a) xs.length (fun H => SqT K H a xs) (fun i H v G => ∃ T x, xs[i]? = some x ∧ v = .ref T ∧ H T = none ∧ G = upd H T (.tup [.int (i : Nat), x])) where
  goes := fun i H hi h => ⟨xs, xs[i], h, List.getElem?_eq_getElem hi⟩
  stops := fun H h => ⟨xs, h, rfl⟩
  yields := fun i H v G hi h ⟨T, x, e1, e2, e3, e4⟩ => ⟨T, x, e4 xs h, e1, e2, e3⟩
end Gu
namespace Gu
open PySem PySem.Spec PyProof.Rows L2
/-! ### what is cut, as lists -/
def cut {α : Type} (l h t : Nat) (m xs : List α) : List α := if xs.length ≤ l then xs else xs.take h ++ m ++ xs.drop (xs.length - t)
theorem cut_front {α : Type} (xs : List α) {h : Int} (h0 : 0 ≤ h) : (xs.drop (HT.sIx xs.length 0 none)).take (HT.sIx xs.length xs.length (some h) - HT.sIx xs.length 0 none) = xs.take h.toNat := by
  obtain ⟨k, rfl⟩ := Int.eq_ofNat_of_zero_le h0
  rw [HT.sIx_none, HT.sIx_nat, List.drop_zero, Nat.sub_zero, Int.toNat_natCast, List.take_eq_take_iff]
  omega
theorem cut_back {α : Type} (xs : List α) {h : Int} (h0 : 0 ≤ h) : (xs.drop (HT.sIx xs.length 0 (some h))).take (HT.sIx xs.length xs.length none - HT.sIx xs.length 0 (some h)) = xs.drop h.toNat := by
  obtain ⟨k, rfl⟩ := Int.eq_ofNat_of_zero_le h0
  rw [HT.sIx_none, HT.sIx_nat, Int.toNat_natCast]
  rw [List.take_of_length_le (by rw [List.length_drop]; omega)]
  by_cases e : k ≤ xs.length
  · rw [Nat.min_eq_left e]
  · rw [Nat.min_eq_right (by omega), List.drop_length, List.drop_eq_nil_of_le (by omega)]
theorem cut_length {α : Type} {l h t : Nat} {m xs : List α} : (cut l h t m xs).length ≤ max xs.length (h + m.length + t) := by
  unfold cut
  split
  · omega
  · rw [List.length_append, List.length_append, List.length_take, List.length_drop]
    omega
theorem app_cps (a b : Str) : (a ++ b).cps.toList = a.cps.toList ++ b.cps.toList := by
  show (a.cps ++ b.cps).toList = _
  rw [Array.toList_append]
def Rec.cut (r : Rec) (xs : List Nat) : List Nat := Gu.cut r.l.toNat r.h.toNat r.t.toNat r.z.cps.toList xs
def cuts (rs : List Rec) (xs : List Nat) : List Nat := rs.foldl (fun acc r => r.cut acc) xs
theorem Rec.fit.zl {r : Rec} (f : r.fit) : r.z.cps.toList.length ≤ 3 := by
  have h := isTxt_len f.z
  have e : r.z.length = r.z.cps.toList.length := rfl
  omega
theorem Rec.fit.cut_len {r : Rec} (f : r.fit) {xs : List Nat} (h : xs.length ≤ 200) : (r.cut xs).length ≤ 200 := by
  have a : (r.cut xs).length ≤ _ := cut_length
  have b := f.zl
  have c := f.h
  have d := f.t
  omega
/-! ### shorteners and rows in the heap -/
def ShAt (C : Addr) (H : Hp) (x : Addr) (r : Rec) : Prop := ∃ dx b, H x = some (.ins C dx (flds r b)) ∧ H b = some (.tup r.vs)
structure RowAt (C : Addr) (H : Hp) (a : Addr) (rs : List (Addr × Rec)) : Prop where
  tp : H a = some (.tup (rs.map fun q => V.ref q.1))
  sh : ∀ q ∈ rs, ShAt C H q.1 q.2 ∧ q.2.fit
theorem ShAt.same {C : Addr} {H G : Hp} {x : Addr} {r : Rec} (s : Same H G) (h : ShAt C H x r) : ShAt C G x r := by
  obtain ⟨dx, b, h1, h2⟩ := h
  exact ⟨dx, b, s _ _ h1, s _ _ h2⟩
theorem RowAt.same {C : Addr} {H G : Hp} {a : Addr} {rs : List (Addr × Rec)} (s : Same H G) (h : RowAt C H a rs) : RowAt C G a rs := ⟨s _ _ h.tp, fun q hq => ⟨(h.sh q hq).1.same s, (h.sh q hq).2⟩⟩
section
variable {P : Program} {w : World} {K : PySem.W.Frag} {mg : Str → Option Value} {base : Heap} {C : Addr}
/-! ### check_row, check_text -/
def spCheckRow (C : Addr) : Sp := fun vs H Q _ => ∃ (a : Addr) (rs : List (Addr × Rec)), vs = [.ref a] ∧ RowAt C H a rs ∧ 1 ≤ rs.length ∧ rs.length ≤ 4 ∧ ∀ G, Same H G → Q .non G
theorem cal_checkRow (B : Bi mg) (S : ShC K mg C) (D : At K mg "check_row" s_check_row ps_check_row) (C_is_tuple : Cal P w K mg base 1 "is_tuple" ps_is_tuple (spIsTuple K)) : Cal P w K mg base 2 "check_row" ps_check_row (spCheckRow C) := by
  refine D.cal sc_check_row (fun vs H Q E h => ?_) (fun f cdv A outer s H vs Q E hr h => ?_)
  · obtain ⟨a, rs, rfl, _⟩ := h
    rfl
  · obtain ⟨a, rs, rfl, hR, l1, l4, k⟩ := h
    refine ⟨_, (pss_cons (ps_if (pt_not (pt_val (pe_own C_is_tuple hr (by decide) (by rfl) (pa_cons (pv 0) (pa_cons pe_int (pa_cons (pe_cst B.MOST_ROW (by rfl)) pa_nil)))))) pss_never pss_nil)
      (pss_one (ps_for PassesOwn.never rfl (pi_enT (by rfl) B.enumerate (pa_cons (pv 0) pa_nil)) (pg_tup rfl (pgs_cons (pg_name (i := 1) sc_check_row.nd rfl (.inl rfl)) (pgs_cons (pg_name (i := 2) sc_check_row.nd rfl (.inl rfl)) pgs_nil)))
      (pss_one (ps_if (pt_not (pt_val (pe_callB call_isi (by rfl) B.isinstance (by decide +kernel) (pa_cons (pv 2) (pa_cons (pe_glob (v := .ref C) (by rfl) S.g rfl) pa_nil))))) pss_never pss_nil))))), ?_⟩
    refine ⟨_, rfl, _, _, _, rfl, .inl ⟨a, _, rfl, .inl (.inl hR.tp), _, rfl, ?_⟩⟩
    rw [decide_eq_true (show (1 : Int) ≤ ((rs.map fun q => V.ref q.1).length : Int) ∧ ((rs.map fun q => V.ref q.1).length : Int) ≤ 4 by rw [List.length_map]; omega)]
    refine iteF ⟨_, rfl, a, _, rfl, .inl (.inl hR.tp), for_it walk_enT (fun i σ J => ∃ u v, σ = [some (.ref a), u, v] ∧ Same H J) ⟨none, none, rfl, Same.refl H⟩ (fun i σ J _ ⟨_, _, _, sJ⟩ => .inl (.inl (sJ _ _ hR.tp))) ?_ ?_⟩
    · rintro i v σ J J1 hi ⟨u, v2, rfl, sJ⟩ ⟨T, x, hx, rfl, nT, rfl⟩
      obtain ⟨q, hq, rfl⟩ : ∃ q ∈ rs, x = .ref q.1 := by
        obtain ⟨q, h1, h2⟩ := List.mem_map.mp (List.mem_of_getElem? hx)
        exact ⟨q, h1, h2.symm⟩
      have sT : Same H (upd J T (.tup [.int (i : Nat), .ref q.1])) := sJ.trans (same_new nT)
      obtain ⟨dx, b, e1, _⟩ := ((hR.sh q hq).1).same sT
      refine ⟨T, _, rfl, .inl (.inl upd_same), rfl, _, _, rfl, _, _, rfl, rfl, ?_⟩
      refine ⟨_, rfl, _, _, _, _, true, rfl, .own C, .base (.ins e1 S.cl S.ha S.hn S.ht S.hm), S.kk, _, rfl, iteF ⟨_, _, rfl, sT⟩⟩
    · rintro σ J ⟨u, v, rfl, sJ⟩
      exact k J sJ
def spCheckText : Sp := fun vs H Q _ => ∃ (z : Str), vs = [.str z] ∧ isTxt z 200 = true ∧ ∀ G, Same H G → Q .non G
/-! ### shortened: of a text -/
def spShortS (C : Addr) : Sp := fun vs H Q _ => ∃ (x : Addr) (r : Rec) (z : Str), vs = [.ref x, .str z, .str r.z] ∧ ShAt C H x r ∧ r.fit ∧ z.length ≤ 1000 ∧ ∀ y : Str, y.cps.toList = r.cut z.cps.toList → Q (.str y) H
theorem cal_shortS (B : Bi mg) (S : ShC K mg C) (D : At K mg "shortened" s_shortened ps_shortened) : Cal P w K mg base 1 "shortened" ps_shortened (spShortS C) := by
  refine D.cal sc_shortened (fun vs H Q E h => ?_) (fun f cdv A outer s H vs Q E hr h => ?_)
  · obtain ⟨x, r, z, rfl, _⟩ := h
    rfl
  · obtain ⟨x, r, z, rfl, ⟨dx, b, hx, _⟩, fit, zl, k⟩ := h
    have ez : z.length = z.cps.toList.length := rfl
    have zs : z.length ≤ sizeLine := Nat.le_of_lt (small1000 zl)
    have f1 := fit.l
    have f2 := fit.h
    have f3 := fit.t
    have f4 := fit.zl
    refine ⟨_, (pss_cons (ps_if (pt_cmpR op_le (pe_callB call_len (by rfl) B.len (by decide +kernel) (pa_cons (pv 1) pa_nil)) (pe_fld (pv 0) rfl) (nomark _)) (pss_one (ps_ret (pv 1))) pss_nil)
      (pss_cons (ps_set (i := 3) sc_shortened.nd rfl (.inl rfl) (pe_callB (call_max2 rfl) (by rfl) B.max (by decide +kernel) (pa_cons pe_int (pa_cons (pe_op op_sub (pe_callB call_len (by rfl) B.len (by decide +kernel) (pa_cons (pv 1) pa_nil)) (pe_fld (pv 0) rfl)) pa_nil))))
      (pss_one (ps_ret (pe_op op_add_str (pe_op op_add_str (pe_slice sl_str (pv 1) po_none (po_some (pe_fld (pv 0) rfl))) (pv 2)) (pe_slice sl_str (pv 1) (po_some (pv 3)) po_none)))))), ?_⟩
    refine ⟨_, rfl, _, _, rfl, ⟨zs, rfl⟩, _, rfl, x, C, dx, _, _, rfl, hx, S.cl, S.nL, flds_limit _ _, _, _, rfl, rfl, _, rfl, ite2 (fun e => ?_) (fun e => ?_)⟩
    · have e1 := of_decide_eq_true e
      refine ⟨_, rfl, k z ?_⟩
      unfold Rec.cut cut
      rw [if_pos (by omega)]
    · have e1 : ¬ (z.length : Int) ≤ r.l := fun h => e (decide_eq_true h)
      refine ⟨_, rfl, _, _, rfl, ⟨zs, rfl⟩, _, rfl, x, C, dx, _, _, rfl, hx, S.cl, S.nT, flds_tail _ _, _, _, rfl, rfl, _, _, rfl, ?_⟩
      refine ⟨_, rfl, _, rfl, x, C, dx, _, _, rfl, hx, S.cl, S.nH, flds_head _ _, _, rfl, z, rfl, zs, _, rfl, _, _, rfl, rfl, ?_, _, rfl, _, rfl, _, rfl, z, rfl, zs, _, _, rfl, rfl, ?_, k _ ?_⟩
      · have a := cutS_length z none (some r.h)
        have b : r.z.length = r.z.cps.toList.length := rfl
        exact Nat.le_of_lt (Nat.lt_of_le_of_lt (show _ ≤ 2000 by omega) (by decide))
      · have a := cutS_length z none (some r.h)
        have b : r.z.length = r.z.cps.toList.length := rfl
        have c := cutS_length z (some (if (z.length : Int) - r.t > 0 then (z.length : Int) - r.t else 0)) none
        have d : (cutS z none (some r.h) ++ r.z).length = (cutS z none (some r.h)).length + r.z.length := by
          show (cutS z none (some r.h) ++ r.z).cps.toList.length = _
          rw [app_cps, List.length_append]
          rfl
        exact Nat.le_of_lt (Nat.lt_of_le_of_lt (show _ ≤ 4000 by omega) (by decide))
      · rw [app_cps, app_cps]
        have a : (cutS z none (some r.h)).cps.toList = z.cps.toList.take r.h.toNat := by
          show ((z.cps.toList.drop _).take _).toArray.toList = _
          rw [List.toList_toArray]
          exact cut_front z.cps.toList f2.1
        have c : (cutS z (some (if (z.length : Int) - r.t > 0 then (z.length : Int) - r.t else 0)) none).cps.toList = z.cps.toList.drop (z.cps.toList.length - r.t.toNat) := by
          show ((z.cps.toList.drop _).take _).toArray.toList = _
          rw [List.toList_toArray]
          have q := cut_back z.cps.toList (h := if (z.length : Int) - r.t > 0 then (z.length : Int) - r.t else 0) (by split <;> omega)
          have n : (if (z.length : Int) - r.t > 0 then (z.length : Int) - r.t else 0).toNat = z.cps.toList.length - r.t.toNat := by split <;> omega
          rw [n] at q
          exact q
        rw [a, c]
        unfold Rec.cut cut
        rw [if_neg (show ¬ z.cps.toList.length ≤ r.l.toNat by omega)]
/-! ### shown_by, show -/
theorem Rec.fit.cut_lenW {r : Rec} (f : r.fit) {xs : List Nat} (h : xs.length ≤ 600) : (r.cut xs).length ≤ 600 := by
  have a : (r.cut xs).length ≤ _ := cut_length
  have b := f.zl
  have c := f.h
  have d := f.t
  omega
def spShownBy (C : Addr) : Sp := fun vs H Q _ => ∃ (a : Addr) (rs : List (Addr × Rec)) (z : Str), vs = [.ref a, .str z] ∧ RowAt C H a rs ∧ z.cps.toList.length ≤ 600 ∧ ∀ (y : Str), y.cps.toList = cuts (rs.map (·.2)) z.cps.toList → Q (.str y) H
theorem cal_shownBy (B : Bi mg) (S : ShC K mg C) (D : At K mg "shown_by" s_shown_by ps_shown_by) (C_shortened : Cal P w K mg base 1 "shortened" ps_shortened (spShortS C)) : Cal P w K mg base 2 "shown_by" ps_shown_by (spShownBy C) := by
  refine D.cal sc_shown_by (fun vs H Q E h => ?_) (fun f cdv A outer s H vs Q E hr h => ?_)
  · obtain ⟨a, rs, z, rfl, _⟩ := h
    rfl
  · obtain ⟨a, rs, z, rfl, R2, zl, k⟩ := h
    refine ⟨_, (pss_cons (ps_set (i := 2) sc_shown_by.nd rfl (.inl rfl) (pv 1))
      (pss_cons (ps_for PassesOwn.never rfl (pi_tup (pv 0)) (pg_name (i := 3) sc_shown_by.nd rfl (.inl rfl))
      (pss_one (ps_set (i := 2) sc_shown_by.nd rfl (.inl rfl) (pe_own C_shortened hr (by decide) (by rfl) (pa_cons (pv 3) (pa_cons (pv 2) (pa_cons (pe_fld (pv 3) rfl) pa_nil)))))))
      (pss_one (ps_ret (pv 2))))), ?_⟩
    refine ⟨_, rfl, _, rfl, a, rfl, ⟨_, .inl (.inl R2.tp)⟩, for_tup (K := K) (a := a) (xs := rs.map fun q => V.ref q.1) (fun i σ J => ∃ (y : Str) (u : Option V), σ = [some (.ref a), some (.str z), some (.str y), u] ∧ J = H ∧ y.cps.toList = cuts ((rs.take i).map (·.2)) z.cps.toList ∧ y.cps.toList.length ≤ 600)
      ⟨z, none, rfl, rfl, rfl, zl⟩ (fun i σ J _ ⟨_, _, _, e, _⟩ => by rw [e]; exact .inl (.inl R2.tp)) ?_ ?_⟩
    · rintro i v σ J hi ⟨y, u, rfl, rfl, ey, ly⟩
      rw [List.getElem?_map] at hi
      cases hq : rs[i]? with
      | none =>
        rw [hq] at hi
        cases hi
      | some q =>
        rw [hq] at hi
        cases hi
        have mq : q ∈ rs := List.mem_of_getElem? hq
        obtain ⟨sq, fq⟩ := R2.sh q mq
        obtain ⟨dx, b, e1, e2⟩ := id sq
        have lz : y.length = y.cps.toList.length := rfl
        refine ⟨_, rfl, _, rfl, _, rfl, q.1, C, dx, _, _, rfl, e1, S.cl, S.nM, flds_mark _ _, q.1, q.2, y, rfl, sq, fq, by omega, fun y2 h2 => ⟨y2, _, rfl, rfl, ?_, ?_⟩⟩
        · rw [h2, ey, List.take_add_one, hq]
          unfold cuts
          rw [List.map_append, List.foldl_append]
          rfl
        · rw [h2]
          exact fq.cut_lenW ly
    · rintro σ J ⟨y, u, rfl, rfl, ey, ly⟩
      rw [List.length_map, List.take_length] at ey
      exact ⟨_, rfl, k y ey⟩
def spShow (C : Addr) : Sp := fun vs H Q _ => ∃ (a : Addr) (rs : List (Addr × Rec)) (z : Str), vs = [.ref a, .str z] ∧ RowAt C H a rs ∧ 1 ≤ rs.length ∧ rs.length ≤ 4 ∧ isTxt z 200 = true ∧ ∀ (y : Str) (G : Hp), Same H G → y.cps.toList = cuts (rs.map (·.2)) z.cps.toList → Q (.str y) G
end
end Gu
namespace Gu
open PySem PySem.Spec PyProof.Rows L2
/-! ### texts of single signs -/
def one (c : Nat) : Str := ⟨#[c]⟩
def ones (cs : List Nat) : List V := cs.map fun c => V.str (one c)
theorem join_ones : ∀ cs : List Nat, (Str.join ⟨#[]⟩ (cs.map one)).cps.toList = cs
  | [] => rfl
  | c :: r => by
    rw [List.map_cons, join_nil_cons, app_cps, join_ones r]
    rfl
theorem tjoin_ones (cs : List Nat) : (Txt.join "" (cs.map one)).cps.toList = cs := by
  have e : (("" : String) : Str) = ⟨#[]⟩ := by decide +kernel
  show (Builtin.Str.glued _ _).cps.toList = cs
  rw [e, StrLaws.glued_eq_join]
  exact join_ones cs
theorem ones_len (cs : List Nat) : ((cs.map one).map (·.length)).sum = cs.length := by
  induction cs with
  | nil => rfl
  | cons c r ih =>
    rw [List.map_cons, List.map_cons, List.sum_cons, ih]
    show 1 + r.length = r.length + 1
    omega
theorem ones_map (cs : List Nat) : ones cs = (cs.map one).map V.str := by
  unfold ones
  rw [List.map_map]
  rfl
def cutsV (rs : List Rec) (xs : List V) : List V := rs.foldl (fun acc r => cut r.l.toNat r.h.toNat r.t.toNat (ones r.z.cps.toList) acc) xs
theorem cut_map {α β : Type} (f : α → β) (l h t : Nat) (m xs : List α) : cut l h t (m.map f) (xs.map f) = (cut l h t m xs).map f := by
  unfold cut
  rw [List.length_map]
  split
  · rfl
  · rw [List.map_append, List.map_append, List.map_take, List.map_drop]
theorem cutsV_ones : ∀ (rs : List Rec) (cs : List Nat), cutsV rs (ones cs) = ones (cuts rs cs)
  | [], _ => rfl
  | r :: rs, cs => by
    show cutsV rs (cut r.l.toNat r.h.toNat r.t.toNat (ones r.z.cps.toList) (ones cs)) = ones (cuts rs (r.cut cs))
    unfold ones
    rw [cut_map]
    exact cutsV_ones rs (r.cut cs)
theorem cuts_len : ∀ (rs : List Rec) {xs : List Nat}, (∀ r ∈ rs, r.fit) → xs.length ≤ 200 → (cuts rs xs).length ≤ 200
  | [], _, _, h => h
  | r :: rs, xs, hf, h => cuts_len rs (xs := r.cut xs) (fun q hq => hf q (List.mem_cons_of_mem _ hq)) ((hf r (List.mem_cons_self ..)).cut_len h)
theorem ShAt.list {C : Addr} {H : Hp} {x M : Addr} {r : Rec} {acc ys : List V} (h : ShAt C H x r) (e : H M = some (.lst acc)) : ShAt C (upd H M (.lst ys)) x r := by
  obtain ⟨dx, b, h1, h2⟩ := h
  exact ⟨dx, b, by rw [upd_ne (ne_of h1 e (by intro z; cases z))]; exact h1, by rw [upd_ne (ne_of h2 e (by intro z; cases z))]; exact h2⟩
theorem ToldsAt.same {H G : Hp} {D : Addr} {ps : List (Addr × Rec)} (s : Same H G) (h : ToldsAt H D ps) : ToldsAt G D ps := ⟨s _ _ h.ls, fun q hq => ⟨s _ _ (h.tp q hq).1, (h.tp q hq).2⟩⟩
section
variable {P : Program} {w : World} {K : PySem.W.Frag} {mg : Str → Option Value} {base : Heap} {C : Addr}
/-! ### _law_made -/
def spMade (C : Addr) : Sp := fun vs H Q _ => ∃ (D : Addr) (ps : List (Addr × Rec)), vs = [.ref D] ∧ ToldsAt H D ps ∧ ps.length ≤ 4 ∧ ∀ (a : Addr) (G : Hp) (rs : List (Addr × Rec)), H a = none → RowAt C G a rs → rs.map (·.2) = ps.map (·.2) → Same H G → Q (.ref a) G
theorem cal_made (B : Bi mg) (D : At K mg "_law_made" s_law_made ps_law_made) (M_sh : Mak P w K mg base 3 "Shortener" C (spInit C)) : Cal P w K mg base 5 "_law_made" ps_law_made (spMade C) := by
  refine D.cal sc_law_made (fun vs H Q E h => ?_) (fun f cdv A outer s H vs Q E hr h => ?_)
  · obtain ⟨D, ps, rfl, _⟩ := h
    rfl
  · obtain ⟨D, ps, rfl, hT, l4, k⟩ := h
    refine ⟨_, (pss_one (ps_ret (pe_callTy call_tuple_of (by rfl) B.tuple (by decide +kernel) (pa_cons (pe_lc (g := gTup K 4 (gCons (gName 1) (gCons (gName 2) (gCons (gName 3) (gCons (gName 4) gNil))))) (own := [("_law_a", 1), ("_law_b", 2), ("_law_c", 3), ("_law_d", 4)]) (by rfl) sc_law_made.nd (pi_list (pv 0)) (blkOk_by (own := [("_law_a", 1), ("_law_b", 2), ("_law_c", 3), ("_law_d", 4)]) (N := ["_law_tolds", "_law_a", "_law_b", "_law_c", "_law_d"]) (sc := defScope s_law_made) (by decide +kernel)) (fun _ _ _ _ _ => (pg_tup rfl (pgs_cons (pg_name (i := 1) sc_law_made.nd rfl (.inl rfl)) (pgs_cons (pg_name (i := 2) sc_law_made.nd rfl (.inl rfl)) (pgs_cons (pg_name (i := 3) sc_law_made.nd rfl (.inl rfl)) (pgs_cons (pg_name (i := 4) sc_law_made.nd rfl (.inl rfl)) pgs_nil)))))) (fun _ _ _ _ _ => pts_nil) (fun _ _ _ _ _ => (pe_new M_sh hr (by decide) (by rfl) (pa_cons (pv 1) (pa_cons (pv 2) (pa_cons (pv 3) (pa_cons (pv 4) pa_nil))))))) pa_nil)))), ?_⟩
    refine ⟨_, rfl, D, rfl, ⟨_, .inl (.inl hT.ls)⟩, fun M nM => lc_list (K := K) (a := D) (xs := ps.map fun q => V.ref q.1) (fun i J => ∃ rs : List (Addr × Rec), rs.length = i ∧ J M = some (.lst (rs.map fun q => V.ref q.1)) ∧ (∀ q ∈ rs, ShAt C J q.1 q.2 ∧ q.2.fit) ∧ rs.map (·.2) = (ps.take i).map (·.2) ∧ Same H J)
      ⟨[], rfl, upd_same, (fun q hq => by cases hq), rfl, same_new nM⟩ (fun i J _ ⟨_, _, _, _, _, sJ⟩ => .inl (.inl (sJ _ _ hT.ls))) ?_ ?_⟩
    · rintro i v J hi ⟨rs, rfl, eM, hs, er, sJ⟩
      rw [List.getElem?_map] at hi
      cases hq : ps[rs.length]? with
      | none =>
        rw [hq] at hi
        cases hi
      | some q =>
        rw [hq] at hi
        cases hi
        have mq : q ∈ ps := List.mem_of_getElem? hq
        obtain ⟨tq, oq⟩ := hT.tp q mq
        have il : rs.length < ps.length := (List.getElem?_eq_some_iff.mp hq).1
        refine ⟨q.1, q.2.vs, rfl, .inl (.inl (sJ _ _ tq)), rfl, _, _, rfl, _, _, rfl, _, _, rfl, _, _, rfl, rfl, rfl, yes (iteT ?_)⟩
        refine ⟨_, rfl, _, rfl, _, rfl, _, rfl, fun x dx nx ndx nex => ⟨x, dx, q.2, rfl, upd_same, oq.fit, fun b G nb gx gb keep => ⟨rfl, ?_⟩⟩⟩
        have sG : Same J G := fun c o e => keep c o (by rw [upd_ne (ne_of_none e nx), upd_ne (ne_of_none e ndx)]; exact e) (ne_of_none e nx)
        have gM := sG _ _ eM
        refine ⟨_, gM, small1000 (by rw [List.length_map]; omega), rs ++ [(x, q.2)], by rw [List.length_append]; rfl, ?_, fun r hr => ?_, ?_, ?_⟩
        · rw [upd_same, List.map_append]
          rfl
        · rcases List.mem_append.mp hr with hr | hr
          · obtain ⟨h1, h2⟩ := hs r hr
            exact ⟨(h1.same sG).list gM, h2⟩
          · rw [List.mem_singleton.mp hr]
            exact ⟨ShAt.list ⟨dx, b, gx, gb⟩ gM, oq.fit⟩
        · rw [List.map_append, er, List.take_add_one, hq, List.map_append]
          rfl
        · intro c o e
          rw [upd_ne (ne_of_none e nM)]
          exact sG _ _ (sJ _ _ e)
    · rintro J ⟨rs, el, eM, hs, er, sJ⟩
      refine ⟨M, _, rfl, .inl ⟨.inl (.inl eM), fun a na => ?_⟩⟩
      rw [List.length_map, List.take_length] at er
      have s1 : Same J (upd J a (.tup (rs.map fun q => V.ref q.1))) := same_new na
      exact k a _ rs (sJ.free na) ⟨upd_same, fun q hq => ⟨(hs q hq).1.same s1, (hs q hq).2⟩⟩ er (sJ.trans s1)
/-! ### _law_cut -/
theorem neg_back {α : Type} (xs : List α) {h : Int} (h0 : 0 < h) : (xs.drop (HT.sIx xs.length 0 (some (-h)))).take (HT.sIx xs.length xs.length none - HT.sIx xs.length 0 (some (-h))) = xs.drop (xs.length - h.toNat) := by
  have e : HT.sIx xs.length 0 (some (-h)) = xs.length - h.toNat := by
    show (if -h < 0 then (-h + (xs.length : Int)).toNat else min (-h).toNat xs.length) = _
    rw [if_pos (by omega)]
    omega
  rw [e, HT.sIx_none, List.take_of_length_le (by rw [List.length_drop]; omega)]
theorem cutsV_snoc (ps : List (Addr × Rec)) {i : Nat} {q : Addr × Rec} (h : ps[i]? = some q) (xs : List V) :
    cutsV ((ps.take (i + 1)).map (·.2)) xs = cut q.2.l.toNat q.2.h.toNat q.2.t.toNat (ones q.2.z.cps.toList) (cutsV ((ps.take i).map (·.2)) xs) := by
  rw [List.take_add_one, h, List.map_append]
  unfold cutsV
  rw [List.foldl_append]
  rfl
def spCut : Sp := fun vs H Q _ => ∃ (D T : Addr) (ps : List (Addr × Rec)) (xs : List V), vs = [.ref D, .ref T] ∧ ToldsAt H D ps ∧ H T = some (.lst xs) ∧ xs.length ≤ 600 ∧ ∀ (U : Addr) (G : Hp), Same H G → G U = some (.lst (cutsV (ps.map (·.2)) xs)) → Q (.ref U) G
theorem cal_cut (B : Bi mg) (D : At K mg "_law_cut" s_law_cut ps_law_cut) : Cal P w K mg base 1 "_law_cut" ps_law_cut spCut := by
  refine D.cal sc_law_cut (fun vs H Q E h => ?_) (fun f cdv A outer s H vs Q E hr h => ?_)
  · obtain ⟨D, T, ps, xs, rfl, _⟩ := h
    rfl
  · obtain ⟨D, T, ps, xs, rfl, hT, hx, lx, k⟩ := h
    refine ⟨_, (pss_cons (ps_for PassesOwn.never rfl (pi_list (pv 0)) (pg_tup rfl (pgs_cons (pg_name (i := 2) sc_law_cut.nd rfl (.inl rfl)) (pgs_cons (pg_name (i := 3) sc_law_cut.nd rfl (.inl rfl)) (pgs_cons (pg_name (i := 4) sc_law_cut.nd rfl (.inl rfl)) (pgs_cons (pg_name (i := 5) sc_law_cut.nd rfl (.inl rfl)) pgs_nil)))))
      (pss_one (ps_if (pt_cmpR op_gt (pe_callB call_len (by rfl) B.len (by decide +kernel) (pa_cons (pv 1) pa_nil)) (pv 2) (nomark _)) (pss_cons (ps_par (i := 6) (j := 7) (by rfl) sc_law_cut.nd rfl rfl (by decide) rfl rfl (pa_cons (pe_slice sl_list (pv 1) po_none (po_some (pv 3))) (pa_cons (pe_mid (pe_ifExp (pt_cmpR op_gt (pv 4) pe_int (nomark _)) (pe_slice sl_list (pv 1) (po_some (pe_un un_neg (pv 4))) po_none) (pe_lst pa_nil))) pa_nil)) (by rfl))
      (pss_one (ps_set (i := 1) sc_law_cut.nd rfl (.inl rfl) (pe_op op_cat (pe_op op_cat (pv 6) (pe_lc (own := [("_law_each", 8)]) (by rfl) sc_law_cut.nd (pi_str (pv 5)) (blkOk_by (own := [("_law_each", 8)]) (N := ["_law_tolds", "_law_things", "_law_bound", "_law_low", "_law_high", "_law_sign", "_law_front", "_law_back", "_law_each"]) (sc := defScope s_law_cut) (by decide +kernel)) (fun _ _ _ _ _ => pg_name (i := 8) sc_law_cut.nd rfl (.inl rfl)) (fun _ _ _ _ _ => pts_nil) (fun _ _ _ _ _ => (pv 8)))) (pv 7))))) pss_nil)))
      (pss_one (ps_ret (pv 1)))), ?_⟩
    refine ⟨_, rfl, D, rfl, ⟨_, .inl (.inl hT.ls)⟩, for_list (K := K) (a := D) (xs := ps.map fun q => V.ref q.1) (fun i σ J => ∃ (U : Addr) (a b c d e f g : Option V), σ = [some (.ref D), some (.ref U), a, b, c, d, e, f, g] ∧ Same H J ∧ J U = some (.lst (cutsV ((ps.take i).map (·.2)) xs)) ∧ (cutsV ((ps.take i).map (·.2)) xs).length ≤ 600)
      ⟨T, none, none, none, none, none, none, none, rfl, Same.refl H, hx, lx⟩ (fun i σ J _ ⟨_, _, _, _, _, _, _, _, _, sJ, _⟩ => .inl (.inl (sJ _ _ hT.ls))) ?_ ?_⟩
    · rintro i v σ J hi ⟨U, a, b, c, d, e, f, g, rfl, sJ, eU, lU⟩
      rw [List.getElem?_map] at hi
      cases hq : ps[i]? with
      | none =>
        rw [hq] at hi
        cases hi
      | some q =>
        rw [hq] at hi
        cases hi
        obtain ⟨tq, oq⟩ := hT.tp q (List.mem_of_getElem? hq)
        have zl := oq.fit.zl
        have es := cutsV_snoc ps hq xs
        generalize hys : cutsV ((ps.take i).map (·.2)) xs = ys at eU lU es
        have o1 := oq.l0
        have o2 := oq.h0
        have o3 := oq.t0
        have o4 := oq.h1
        have o5 := oq.t1
        refine ⟨q.1, q.2.vs, rfl, .inl (.inl (sJ _ _ tq)), rfl, _, _, rfl, _, _, rfl, _, _, rfl, _, _, rfl, rfl, ?_⟩
        refine ⟨_, rfl, _, _, rfl, .inl ⟨_, .inl (.inl eU), rfl⟩, _, rfl, _, _, rfl, rfl, _, rfl, ite2 (fun e1 => ?_) (fun e1 => ?_)⟩
        · have e2 : q.2.l < (ys.length : Int) := of_decide_eq_true e1
          refine ⟨_, rfl, _, rfl, _, rfl, U, ys, rfl, .inl (.inl eU), fun F nF => ?_⟩
          have s1 : Same J (upd J F (.lst (cutV ys none (some q.2.h)))) := same_new nF
          refine ⟨fun v G => ∃ bk, v = .ref bk ∧ Same (upd J F (.lst (cutV ys none (some q.2.h)))) G ∧ G bk = some (.lst (ys.drop (ys.length - q.2.t.toNat))), ?_, ?_⟩
          · refine ⟨_, rfl, _, _, rfl, rfl, _, rfl, ite2 (fun e3 => ?_) (fun e3 => ?_)⟩
            · have e4 : 0 < q.2.t := of_decide_eq_true e3
              refine ⟨_, rfl, _, rfl, _, rfl, _, rfl, U, ys, rfl, .inl (.inl (s1 _ _ eU)), fun R nR => ⟨R, rfl, same_new nR, ?_⟩⟩
              rw [upd_same]
              exact congrArg (fun l => some (HO.lst l)) (neg_back ys e4)
            · have e4 : ¬ 0 < q.2.t := fun h => e3 (decide_eq_true h)
              have e5 : q.2.t.toNat = 0 := by omega
              refine ⟨Nat.zero_le _, fun R nR => ⟨R, rfl, same_new nR, ?_⟩⟩
              rw [upd_same, e5, Nat.sub_zero, List.drop_length]
          · rintro _ G ⟨bk, rfl, s2, eB⟩
            refine ⟨_, _, rfl, ?_⟩
            have eF : G F = some (.lst (ys.take q.2.h.toNat)) := by
              rw [s2 F _ upd_same]
              exact congrArg (fun l => some (HO.lst l)) (cut_front ys o2)
            refine ⟨_, rfl, _, rfl, q.2.z, rfl, fun M nM => lc_it walk_str (fun j G1 => Same G G1 ∧ G1 M = some (.lst (ones (q.2.z.cps.toList.take j)))) ⟨same_new nM, by rw [upd_same]; rfl⟩ (fun _ _ _ _ => trivial) ?_ ?_⟩
            · rintro j v G1 _ hj ⟨sG1, eM⟩ ⟨rfl, ch, hch, rfl⟩
              refine ⟨rfl, yes (iteT ⟨_, rfl, _, eM, small1000 ?_, ?_, ?_⟩)⟩
              · unfold ones
                rw [List.length_map, List.length_take]
                omega
              · intro c2 o e
                rw [upd_ne (ne_of_none e nM)]
                exact sG1 _ _ e
              · rw [upd_same]
                have hc' : q.2.z.cps.toList[j]? = some ch := by
                  rw [← Array.getElem?_toList] at hch
                  exact hch
                unfold ones
                rw [List.take_add_one, hc', List.map_append]
                rfl
            · rintro G1 ⟨sG1, eM⟩
              rw [List.take_of_length_le (show q.2.z.cps.toList.length ≤ q.2.z.cps.size from Nat.le_refl _)] at eM
              have le1 : (ones q.2.z.cps.toList).length ≤ 3 := by
                unfold ones
                rw [List.length_map]
                exact zl
              refine ⟨F, M, _, _, rfl, rfl, sG1 _ _ eF, eM, Nat.le_of_lt (small1000 (by rw [List.length_take]; omega)), fun R1 nR1 => ?_⟩
              have s3 : Same G1 (upd G1 R1 (.lst (ys.take q.2.h.toNat ++ ones q.2.z.cps.toList))) := same_new nR1
              refine ⟨_, rfl, R1, bk, _, _, rfl, rfl, upd_same, s3 _ _ (sG1 _ _ eB), Nat.le_of_lt (small1000 (by rw [List.length_append, List.length_take, List.length_drop]; omega)), fun R2 nR2 => ?_⟩
              refine ⟨R2, _, _, _, _, _, _, _, rfl, (sJ.trans s1).trans (s2.trans (sG1.trans (s3.trans (same_new nR2)))), ?_, ?_⟩
              · rw [upd_same, es]
                unfold cut
                rw [if_neg (show ¬ ys.length ≤ q.2.l.toNat by omega)]
              · rw [es]
                refine Nat.le_trans cut_length ?_
                omega
        · have e2 : ¬ q.2.l < (ys.length : Int) := fun h => e1 (decide_eq_true h)
          have e3 : cut q.2.l.toNat q.2.h.toNat q.2.t.toNat (ones q.2.z.cps.toList) ys = ys := by
            unfold cut
            rw [if_pos (by omega)]
          refine ⟨U, _, _, _, _, _, _, _, rfl, sJ, ?_, ?_⟩
          · rw [es, e3]
            exact eU
          · rw [es, e3]
            exact lU
    · rintro σ J ⟨U, a, b, c, d, e, f, g, rfl, sJ, eU, lU⟩
      rw [List.length_map, List.take_length] at eU
      exact ⟨_, rfl, k U J sJ eU⟩
end
end Gu
namespace Gu
open PySem PySem.Spec PyProof.Rows L2
/-! ### calls by keywords alone -/
structure CalK (P : Program) (w : World) (K : PySem.W.Frag) (mg : Str → Option Value) (base : Heap) (k : Nat) (x : Str) (ks : List Str) (gV : List V → List V) (sp : Sp) : Prop where
  ex : ∃ (f : Addr) (fd : FuncData) (ps : List Str) (g : List Value → List Value), FnOk P w K mg base CX0 k f fd ps sp ∧ mg x = some (.ref f) ∧ PySem.W.keepIn K (.ref f) = true ∧ KBn K fd ps 0 ks (fun _ ws => g ws) (fun _ zs => gV zs)
theorem Cal.kw {P : Program} {w : World} {K : PySem.W.Frag} {mg : Str → Option Value} {base : Heap} {k : Nat} {x : Str} {st : Stmt} {ps ks : List Str} {sp : Sp} (g : {α : Type} → List α → List α) (c : Cal P w K mg base k x ps sp) (D : At K mg x st ps)
    (hv : ∀ {zs : List V} {ws : List Value}, Vals zs ws → Vals (g zs) (g ws))
    (hb : ∀ (kV doc pm : Value) (an : Option Addr) (cdv ct : Value) (ws : List Value), ws.length = ks.length → bindArgs (PySem.W.fnOf x x (defArgs st) (defBody st) (defScope st) .none kV doc pm an cdv ct) ⟨[], ks.zip ws⟩ = pure (ps.zip (g ws))) : CalK P w K mg base k x ks g sp := by
  obtain ⟨f, fd, F, hm, kp, b, oc, od, sl, lk⟩ := c.ex
  obtain ⟨f2, fd2, F2, b2, hm2⟩ := D.ex
  cases hm.symm.trans hm2
  obtain ⟨oc2, od2, kV, doc, pm, an, cdv, ct, sl2, e, lk2, hcd⟩ := F2.ex
  cases lk.symm.trans lk2
  refine ⟨f, fd, ps, g, F, hm, kp, ⟨fun s us ws I l1 l2 => ?_, fun _ r => hv r⟩⟩
  cases us with
  | nil =>
    rw [e]
    exact BindsTo.of_eq (hb kV doc pm an cdv ct ws l2)
  | cons u r => cases l1
def tKw (m : Nat) (gV : List V → List V) (sp : Sp) (tk : TA) : TE := fun σ H Q => tk σ H fun zs G => zs.length = m ∧ sp (gV zs) G Q E0
section
variable {X : Cx} {k j : Nat} {x : Str} {ks : List Str} {gV : List V → List V} {sp : Sp} {p pos : Pos} {kws : List Keyword} {tk : TA}
theorem pe_kw (c : CalK X.prog X.w X.K X.mg X.base k x ks gV sp) (hr : Room j X.A) (hk : k ≤ j) (hg : Gl X x) (hkw : PK X kws tk) (hall : (backToKw pos (keywordEach kws X.env)).all (·.1.isSome) = true := by rfl)
    (hks : (backToKw pos (keywordEach kws X.env)).filterMap (·.1) = ks := by rfl) (hdb : (x == ("__debug__" : Str)) = false := by decide)
    (hpl : ((backTo pos (starEach [] X.env)).any (·.1) || (backToKw pos (keywordEach kws X.env)).any (·.1.isNone)) = false := by rfl) : PE X (.Call (.Name x p) [] kws pos) (tKw ks.length gV sp tk) := by
  obtain ⟨f, fd, ps, g, F, hm, kp, b⟩ := c.ex
  refine ⟨fun pins s σ H Q I h => ?_⟩
  refine wpAny_Call_Name_kw (ld_glob I hg hm ?_ hdb)
  refine PySem.W.callWith_KW0 (h₀ := X.base) I.ok.mod.kin kp hall ?_ hpl
  refine thn (hkw.run pos pins s σ H _ I h) fun ws s2 ⟨zs, G, I2, rz, l2, q2⟩ => ⟨I2.kIn, ?_⟩
  rw [hks]
  exact run_fnN (us := []) (vs := []) F (hr.mono hk) b pass0 I2 .nil rz rfl l2 q2
end
def swap2 {α : Type} : List α → List α
  | [a, b] => [b, a]
  | l => l
theorem swap2_vals {zs : List V} {ws : List Value} (r : Vals zs ws) : Vals (swap2 zs) (swap2 ws) := by
  cases r with
  | nil => exact .nil
  | cons a r =>
    cases r with
    | nil => exact .cons a .nil
    | cons b r =>
      cases r with
      | nil => exact .cons b (.cons a .nil)
      | cons c r => exact .cons a (.cons b (.cons c r))
theorem str_ext {a b : Str} (h : a.cps.toList = b.cps.toList) : a = b := by
  cases a
  cases b
  exact congrArg Str.mk (Array.ext' h)
end Gu
namespace Gu
open PySem PySem.Spec PyProof.Rows L2
section
variable {P : Program} {w : World} {K : PySem.W.Frag} {mg : Str → Option Value} {base : Heap} {C : Addr}
def spSeen : Sp := fun vs H Q _ => ∃ (D : Addr) (ps : List (Addr × Rec)) (z : Str), vs = [.ref D, .str z] ∧ ToldsAt H D ps ∧ z.cps.toList.length ≤ 200 ∧ ∀ (y : Str) (G : Hp), Same H G → y.cps.toList = cuts (ps.map (·.2)) z.cps.toList → Q (.str y) G
theorem cal_seen (B : Bi mg) (D : At K mg "_law_seen" s_law_seen ps_law_seen) (C_law_cut : Cal P w K mg base 1 "_law_cut" ps_law_cut spCut) : Cal P w K mg base 2 "_law_seen" ps_law_seen spSeen := by
  refine D.cal sc_law_seen (fun vs H Q E h => ?_) (fun f cdv A outer s H vs Q E hr h => ?_)
  · obtain ⟨D, ps, z, rfl, _⟩ := h
    rfl
  · obtain ⟨D, ps, z, rfl, hT, zl, k⟩ := h
    refine ⟨_, (pss_one (ps_ret (pe_join pe_str (pe_own C_law_cut hr (by decide) (by rfl) (pa_cons (pv 0) (pa_cons (pe_lc (own := [("_law_each", 2)]) (by rfl) sc_law_seen.nd (pi_str (pv 1)) (blkOk_by (own := [("_law_each", 2)]) (N := ["_law_tolds", "_law_line", "_law_each"]) (sc := defScope s_law_seen) (by decide +kernel)) (fun _ _ _ _ _ => pg_name (i := 2) sc_law_seen.nd rfl (.inl rfl)) (fun _ _ _ _ _ => pts_nil) (fun _ _ _ _ _ => (pv 2))) pa_nil)))))), ?_⟩
    refine ⟨⟨_, rfl⟩, _, rfl, _, rfl, z, rfl, fun M nM => lc_it walk_str (fun j G => Same H G ∧ G M = some (.lst (ones (z.cps.toList.take j)))) ⟨same_new nM, by rw [upd_same]; rfl⟩ (fun _ _ _ _ => trivial) ?_ ?_⟩
    · rintro j v G _ hj ⟨sG, eM⟩ ⟨rfl, ch, hch, rfl⟩
      refine ⟨rfl, yes (iteT ⟨_, rfl, _, eM, small1000 ?_, ?_, ?_⟩)⟩
      · unfold ones
        rw [List.length_map, List.length_take]
        omega
      · intro c2 o e
        rw [upd_ne (ne_of_none e nM)]
        exact sG _ _ e
      · rw [upd_same]
        have hc' : z.cps.toList[j]? = some ch := by
          rw [← Array.getElem?_toList] at hch
          exact hch
        unfold ones
        rw [List.take_add_one, hc', List.map_append]
        rfl
    · rintro G ⟨sG, eM⟩
      rw [List.take_of_length_le (show z.cps.toList.length ≤ z.cps.size from Nat.le_refl _)] at eM
      refine ⟨D, M, ps, _, rfl, hT.same sG, eM, ?_, fun U G2 s2 eU => ?_⟩
      · unfold ones
        rw [List.length_map]
        omega
      · rw [cutsV_ones, ones_map] at eU
        have lc := cuts_len (ps.map (·.2)) (xs := z.cps.toList) (fun r hr => by
          obtain ⟨q, hq, rfl⟩ := List.mem_map.mp hr
          exact (hT.tp q hq).2.fit) zl
        refine ⟨_, U, _, rfl, rfl, .inl (.inl (.inl eU)), ?_, k _ G2 (sG.trans s2) (tjoin_ones _)⟩
        rw [ones_len, List.length_map]
        have e0 : (("" : String) : Str).length = 0 := by decide +kernel
        rw [e0]
        omega
end
end Gu
namespace Gu
open PySem PySem.Spec PyProof.Rows L2
section
variable {P : Program} {w : World} {K : PySem.W.Frag} {mg : Str → Option Value} {base : Heap} {C : Addr}
theorem Ladled.row {C : Addr} {H G : Hp} {p a : Addr} {rs : List (Addr × Rec)} (L : Ladled p H G) (hp : Pot H p) (h : RowAt C H a rs) : RowAt C G a rs := by
  obtain ⟨x, y, z, e⟩ := hp
  refine ⟨L.keep _ _ h.tp (ne_of h.tp e (by intro z; cases z)), fun q hq => ⟨?_, (h.sh q hq).2⟩⟩
  obtain ⟨dx, b, h1, h2⟩ := (h.sh q hq).1
  exact ⟨dx, b, L.keep _ _ h1 (ne_of h1 e (by intro z; cases z)), L.keep _ _ h2 (ne_of h2 e (by intro z; cases z))⟩
theorem Ladled.tolds {H G : Hp} {p D : Addr} {ps : List (Addr × Rec)} (L : Ladled p H G) (n : D ≠ p) (nq : ∀ q ∈ ps, q.1 ≠ p) (h : ToldsAt H D ps) : ToldsAt G D ps := ⟨L.keep _ _ h.ls n, fun q hq => ⟨L.keep _ _ (h.tp q hq).1 (nq q hq), (h.tp q hq).2⟩⟩
/-! ### signs stay signs -/
def Signs (xs : List Nat) : Prop := ∀ c ∈ xs, c ∈ signs.cps.toList
theorem isTxt_signs {z : Str} {m : Int} (h : isTxt z m = true) : Signs z.cps.toList := by
  unfold isTxt at h
  rw [Bool.and_eq_true, List.all_eq_true] at h
  exact fun c hc => of_decide_eq_true (h.2 c hc)
theorem cut_signs {l h t : Nat} {m xs : List Nat} (hm : Signs m) (hx : Signs xs) : Signs (cut l h t m xs) := by
  unfold cut
  split
  · exact hx
  · intro c hc
    rcases List.mem_append.mp hc with hc | hc
    · rcases List.mem_append.mp hc with hc | hc
      · exact hx c (List.mem_of_mem_take hc)
      · exact hm c hc
    · exact hx c (List.mem_of_mem_drop hc)
theorem cuts_signs : ∀ (rs : List Rec) {xs : List Nat}, (∀ r ∈ rs, r.fit) → Signs xs → Signs (cuts rs xs)
  | [], _, _, h => h
  | r :: rs, xs, hf, h => cuts_signs rs (xs := r.cut xs) (fun q hq => hf q (List.mem_cons_of_mem _ hq)) (cut_signs (isTxt_signs (hf r (List.mem_cons_self ..)).z) h)
theorem signs_ok {y : Str} (h : Signs y.cps.toList) : (PyData.str y).canLay0 = true := by
  have a : ∀ c ∈ signs.cps.toList, c < 0x110000 := by decide +kernel
  show y.cps.all _ = true
  rw [← Array.all_toList, List.all_eq_true]
  exact fun c hc => decide_eq_true (a c (h c hc))
theorem shaped_two {y z : Str} (hy : Signs y.cps.toList) (hz : Signs z.cps.toList) : SeqAt.shaped (.list [.str y, .str z]) = true := by
  have a := signs_ok hy
  have b := signs_ok hz
  show ((PyData.str y).canLay0 && ((PyData.str z).canLay0 && true) && true) = true
  rw [a, b]
  rfl
end
end Gu
namespace Gu
open PySem PySem.Spec PyProof.Rows L2
/-! ### defs that are called where no container is being written out -/
structure FnG (P : Program) (w : World) (K : PySem.W.Frag) (mg : Str → Option Value) (base : Heap) (k : Nat) (f : Addr) (fd : FuncData) (ps : List Str) (sp : Sp) : Prop where
  len : ∀ vs H Q E, sp vs H Q E → vs.length = ps.length
  run : ∀ (A : Around) (outer : List Env) (s : Shared) (H : Hp) (args : Args) (us : List Value) (vs : List V) (Q : VK) (E : XK), Room k A → A.guards = some [] → Env0 P w K mg base A outer s H → BindsTo s fd args (ps.zip us) → Vals vs us → sp vs H Q E →
    codeAny (model P w) A (.call (.ref f) args) (CR CX0 outer P w H s Q E) s
section
variable {P : Program} {w : World} {K : PySem.W.Frag} {mg : Str → Option Value} {base : Heap}
theorem okG {x qual : Str} {st : Stmt} {f : Addr} {fd : FuncData} {N ps : List Str} {k : Nat} {sp : Sp} (F : Fun K x qual st f fd) (S : FnScope N ps (defScope st)) (len : ∀ vs H Q E, sp vs H Q E → vs.length = ps.length)
    (body : ∀ (cdv : Value) (A : Around) (outer : List Env) (s : Shared) (H : Hp) (vs : List V) (Q : VK) (E : XK), Room k (A.deeper (envOfC qual (defScope st) s.heap.objs.size f cdv)) → A.guards = some [] → sp vs H Q E →
      ∃ t, PSs (cxOf CX0 P w K mg base N qual (defScope st) f cdv A outer s H E).nox (defBody st) t ∧ t { nx := fun _ G => Q .non G, rt := Q } (start N vs) H) : FnG P w K mg base (k + 1) f fd ps sp := by
  obtain ⟨oc, od, kV, doc, pm, an, cdv, ct, osl, rfl, lk, hcd⟩ := F.ex
  refine ⟨len, fun A outer s H args us vs Q E room quiet env binds rel want => ?_⟩
  have stays : ∀ b o, base.get? b = some o → s.heap.get? b = some o := fun b o e => (env.bs b o e).1
  have inK : K.In s.heap := env.mod.kin.keeps stays
  have free : s.heap.NoLimit := env.mod.nolimit.keeps stays
  refine codeAny_call_function room.depth (inK _ _ lk) rfl S.co S.gen rfl (PySem.W.codeRec_of inK hcd) (binds _ _ _ _ ?_)
  refine wpAny_newFunctionEnv_cells S.kind (fun ⟨n, v⟩ hy => (S.par n (List.of_mem_zip hy).1).imp id fun q => ⟨q, PySem.W.cellsFrom_some _ _ _ (.inl q)⟩) fun env1 e1 s1 c1 => ?_
  subst e1
  refine ⟨free.keeps c1.toInCall.keep, codeAny_func ?_⟩
  obtain ⟨t, d, q⟩ := body cdv A outer s H vs Q E (room.deeper _) quiet want
  refine wpAny_mono (d.nox.run [] s1 (start N vs) H _ (inv_start S room.hd env (len _ _ _ _ want) rel c1) q) (fun fl s2 h2 => ?_) fun e s2 h2 => h2
  cases fl with
  | ret u =>
    obtain ⟨v, σ2, G, J, rv, r⟩ := h2
    exact ⟨v, G, J.os, J.bare, J.base, J.hok, rv, r⟩
  | next =>
    obtain ⟨σ2, G, J, r⟩ := h2
    exact ⟨V.non, G, J.os, J.bare, J.base, J.hok, rfl, r⟩
  | brk => exact (h2.choose_spec.choose_spec.2 : False).elim
  | cont => exact (h2.choose_spec.choose_spec.2 : False).elim
structure CalG (P : Program) (w : World) (K : PySem.W.Frag) (mg : Str → Option Value) (base : Heap) (k : Nat) (x : Str) (ps : List Str) (sp : Sp) : Prop where
  ex : ∃ (f : Addr) (fd : FuncData), FnG P w K mg base k f fd ps sp ∧ mg x = some (.ref f) ∧ PySem.W.keepIn K (.ref f) = true ∧ Binds K fd ps []
theorem At.calG {x : Str} {st : Stmt} {N ps : List Str} {k : Nat} {sp : Sp} (D : At K mg x st ps) (S : FnScope N ps (defScope st)) (len : ∀ vs H Q E, sp vs H Q E → vs.length = ps.length)
    (body : ∀ (f : Addr) (cdv : Value) (A : Around) (outer : List Env) (s : Shared) (H : Hp) (vs : List V) (Q : VK) (E : XK), Room k (A.deeper (envOfC x (defScope st) s.heap.objs.size f cdv)) → A.guards = some [] → sp vs H Q E →
      ∃ t, PSs (cxOf CX0 P w K mg base N x (defScope st) f cdv A outer s H E).nox (defBody st) t ∧ t { nx := fun _ G => Q .non G, rt := Q } (start N vs) H) : CalG P w K mg base (k + 1) x ps sp := by
  obtain ⟨f, fd, F, b, g⟩ := D.ex
  exact ⟨f, fd, okG F S len (body f), g, F.kp, b⟩
end
def tCallG (sp : Sp) (t : TA) : TE := fun σ H Q => t σ H fun vs G => sp vs G Q E0
section
variable {X : Cx} {k j : Nat} {x : Str} {ps : List Str} {sp : Sp} {p pos : Pos} {e : Expr} {es : List Expr} {t : TA}
theorem pe_ownG (c : CalG X.prog X.w X.K X.mg X.base k x ps sp) (hr : Room j X.A) (hk : k ≤ j) (quiet : X.A.guards = some []) (hg : Gl X x) (ha : PA X (e :: es) t)
    (hdb : (x == ("__debug__" : Str)) = false := by decide) (he : starEach (e :: es) X.env = (false, eval e X.env) :: starEach es X.env := by rfl) (hpl : (backTo pos (starEach es X.env)).any (·.1) = false := by rfl) :
    PE X (.Call (.Name x p) (e :: es) [] pos) (tCallG sp t) := by
  obtain ⟨f, fd, F, hm, kp, b⟩ := c.ex
  refine ⟨fun pins s σ H Q I h => wpAny_Call_Name_kw (ld_glob I hg hm (PySem.W.callWith_K (h₀ := X.base) I.ok.mod.kin kp (thn (ha.run pos pins s σ H _ I h) fun us s1 ⟨vs, G, I1, r, q⟩ => ⟨I1.kIn, ?_⟩) he hpl) hdb)⟩
  have ll : (us ++ []).length = ps.length := by
    rw [List.append_nil, ← r.length]
    exact F.len _ _ _ _ q
  have bt := b s1 us I1.kIn ll
  rw [List.append_nil] at bt
  refine wpAny_call (codeAny_mono (F.run X.A X.stack s1 G ⟨us, []⟩ us vs Q E0 (hr.mono hk) quiet I1.env0 bt r q) fun rr s2 h2 => ?_)
  cases rr with
  | error e => exact (h2 : False).elim
  | ok fl =>
    cases fl with
    | ret u => exact I1.after h2
    | next => exact (h2 : False).elim
    | brk => exact (h2 : False).elim
    | cont => exact (h2 : False).elim
end
end Gu
namespace Gu
open PySem PySem.Spec PyProof.Rows L2
/-- a heap in which nothing is tracked but, at most, the script at a, which stands still there -/
theorem quiet_end {P : Program} {w : World} {K : PySem.W.Frag} {mg mb : Str → Option Value} {k : Nat} {fa a : Addr} {fd : FuncData} {x : Str} {sp : Sp} {s : Shared} {us : List Value} {H : Hp} (inK : K.In s.heap) (nsG : s.heap.Ns mainGlobals mg) (nsB : s.heap.Ns builtinsNs mb)
    (bb : ∀ x : Str, x ≠ "__name__" → mb x = bootBuiltins x) (nl : s.heap.NoLimit) (ng : s.gens = #[]) (at_a : s.heap.get? a = some { cls := .type "list", data := .seq us.toArray }) (room : Room k callerA)
    (F : ∀ base : Heap, K.In base → base.Ns mainGlobals mg → FnG P w K mg base k fa fd [x] sp) (bind : ∀ (s : Shared) (u : Value), BindsTo s fd ⟨[u], []⟩ [(x, u)]) (want : sp [.ref a] H (fun v _ => v = .bl true) fun _ _ _ => False)
    (only : Only H) (ok : HOk P w H s.heap) (one : ∀ b, H b ≠ none → b = a ∧ K.lookup a = none) :
    codeAny (model P w) callerA (.call (.ref fa) ⟨[.ref a], []⟩) (fun r s2 => r = .ok (.ret (.bool true)) ∧ OldK s.heap s2.heap ∧ s2.os = s.os ∧ AllBare s2.gens) s := by
  have dictFree : ∀ (b : Addr) (o : Obj) (es : Array DictEntry) (ep : Nat), s.heap.get? b = some o → o.data = .dict es ep → H b = none := fun b o es ep e d =>
    Classical.byContradiction fun z => by
      have hb := (one b z).1
      rw [hb, at_a] at e
      cases e
      exact Data.noConfusion d
  have hiddenNs : ∀ (b : Addr) (m : Str → Option Value), s.heap.Ns b m → (hidT s.heap H).Ns b m := fun b m h => by
    obtain ⟨o, es, ep, e, d, r⟩ := h
    exact ⟨o, es, ep, hidT_get e (dictFree b o es ep e d), d, r⟩
  have hiddenK : K.In (hidT s.heap H) := fun b o e => hidT_get (inK b o e) (Classical.byContradiction fun z => by
    obtain ⟨h1, h2⟩ := one b z
    rw [h1, h2] at e
    cases e)
  have env : Env0 P w K mg (hidT s.heap H) callerA [] s H := by
    refine ⟨rfl, ⟨hiddenK, hiddenNs _ _ nsG, ⟨mb, hiddenNs _ _ nsB, bb⟩, ?_⟩, fun b o e => of_hidT e, Nat.le_of_eq (hidT_size _ _), trivial, fun b hb => absurd (show b ∈ ([] : List Addr) from hb) List.not_mem_nil, ok, .of_eq ng⟩
    obtain ⟨mc, h1, h2⟩ := nl
    exact ⟨mc, hiddenNs _ _ h1, h2⟩
  refine codeAny_mono ((F _ hiddenK (hiddenNs _ _ nsG)).run callerA [] s H ⟨[.ref a], []⟩ [.ref a] [.ref a] _ _ room rfl env (bind s (.ref a)) (.cons rfl .nil) want) fun r s2 h2 => ?_
  cases r with
  | error e => exact (h2 : False).elim
  | ok fl =>
    cases fl with
    | next => exact (h2 : False).elim
    | brk => exact (h2 : False).elim
    | cont => exact (h2 : False).elim
    | ret u =>
      obtain ⟨v, G, os, bare, un, ok2, rv, hv⟩ := h2
      cases (show v = .bl true from hv)
      cases (show u = Value.bool true from rv)
      refine ⟨rfl, OldK.of_keep fun b o e => ?_, os, bare⟩
      rcases only b with z | ⟨ob, xs, z⟩
      · exact un.keep b o e z (fun y => absurd (show b ∈ ([] : List Addr) from y) List.not_mem_nil) (by simp)
      · have e1 := (ok b _ z).1
        have e2 := (ok2 b _ (un.frzs b ob _ z)).1
        rw [e] at e1
        cases e1
        exact e2
/-- the law's call, by its promise -/
theorem quiet_call {P : Program} {w : World} {K : PySem.W.Frag} {mg mb : Str → Option Value} {k : Nat} {fa a : Addr} {fd : FuncData} {x : Str} {sp : Sp} {s : Shared} {us : List Value} {ns : List Int} (inK : K.In s.heap) (nsG : s.heap.Ns mainGlobals mg) (nsB : s.heap.Ns builtinsNs mb)
    (bb : ∀ x : Str, x ≠ "__name__" → mb x = bootBuiltins x) (nl : s.heap.NoLimit) (ng : s.gens = #[]) (at_a : s.heap.get? a = some { cls := .type "list", data := .seq us.toArray }) (nums : IntsAre us ns) (small : ns.length ≤ sizeLine) (room : Room k callerA)
    (F : ∀ base : Heap, K.In base → base.Ns mainGlobals mg → FnG P w K mg base k fa fd [x] sp) (bind : ∀ (s : Shared) (u : Value), BindsTo s fd ⟨[u], []⟩ [(x, u)])
    (want : ∀ H : Hp, SqL K H a (ns.map V.int) → sp [.ref a] H (fun v _ => v = .bl true) fun _ _ _ => False) :
    codeAny (model P w) callerA (.call (.ref fa) ⟨[.ref a], []⟩) (fun r s2 => r = .ok (.ret (.bool true)) ∧ OldK s.heap s2.heap ∧ s2.os = s.os ∧ AllBare s2.gens) s := by
  have rel := vals_ints nums
  cases hk : K.lookup a with
  | some o =>
    have e := inK a o hk
    rw [at_a] at e
    cases e
    refine quiet_end (H := fun _ => none) inK nsG nsB bb nl ng at_a room F bind (want _ (.inr ⟨_, us.toArray, _, hk, rfl, rfl, rfl, ?_, rel⟩)) (fun _ => .inl rfl) (fun b u z => nomatch (show (none : Option HO) = some u from z)) fun b z => absurd rfl z
    rw [List.size_toArray, nums.length]
    exact small
  | none =>
    refine quiet_end (H := upd (fun _ => none) a (.frz { cls := .type "list", data := .seq us.toArray } (.lst (ns.map V.int)))) inK nsG nsB bb nl ng at_a room F bind (want _ (.inl (.inr ⟨_, upd_same⟩))) (fun b => ?_) (fun b u z => ?_) fun b z => ?_
    · by_cases hb : b = a
      · exact .inr ⟨_, _, by rw [hb]; exact upd_same⟩
      · exact .inl (upd_ne hb)
    · by_cases hb : b = a
      · subst hb
        rw [upd_same] at z
        cases z
        exact ⟨at_a, by rw [List.length_map]; exact small, us, _, rel, at_a⟩
      · rw [upd_ne hb] at z
        cases z
    · by_cases hb : b = a
      · exact ⟨hb, hk⟩
      · exact absurd (upd_ne hb) z
theorem walkG {l : PySem.W.OpenLaw} {n k : Nat} {q : Program} {loose : List Str} {XP : (Str → Option Value) → Heap → Prop} {YP : World → Heap → Prop} {d : DefRec} {K : Params → PySem.W.Frag} {x : Str} {sp : PySem.W.Frag → Sp} (most : l.most = some n) (small : n ≤ sizeLine) (plain : d.params.defaults = []) (room : Room k callerA)
    (left : ∀ (w : World) (h : Heap), YP w h → (K w.params).In h)
    (F : ∀ (w : World) (mg : Str → Option Value) (fa : Addr) (h : Heap), (K w.params).In h → h.Ns mainGlobals mg → mg d.name = some (.ref fa) → ∃ fd : FuncData, (∀ (s : Shared) (u : Value), BindsTo s fd ⟨[u], []⟩ [(x, u)]) ∧
      ∀ base : Heap, (K w.params).In base → base.Ns mainGlobals mg → FnG l.prog w (K w.params) mg base k fa fd [x] (sp (K w.params)))
    (want : ∀ (w : World) (H : Hp) (a : Addr) (ns : List Int), ns.length ≤ n → SqL (K w.params) H a (ns.map V.int) → sp (K w.params) [.ref a] H (fun v _ => v = .bl true) fun _ _ _ => False) :
    PySem.W.WalkO q loose XP YP l.row.toRowW d [] (fun f vs => PySem.call f vs) := by
  refine Att.attach_call most plain fun w s0 s mg mb fa o pm cd doc a us ns G Y ho hd hcd hmg at_a nums le ng => ?_
  obtain ⟨fd, bind, fn⟩ := F w mg fa _ (left w _ Y) G.T.g hmg
  exact quiet_call (left w _ Y) G.T.g G.T.b G.T.builtins G.T.nolimit ng at_a nums (Nat.le_trans le small) room fn bind fun H hS => want w H a ns le hS
end Gu
namespace Gu
open PySem PySem.Spec PyProof.Rows L2
/-! ### what can be written out -/
structure Fine (n W : Nat) (d : PyData) : Prop where
  nd : d.hasDict = false
  sh : d.showable = true
  ls : d.leavesShort 80 = true
  dp : d.depth ≤ n
  wt : d.weight ≤ W
structure FineAll (n W : Nat) (ds : List PyData) : Prop where
  nd : PyData.hasDictAll ds = false
  sh : PyData.showableAll ds = true
  ls : PyData.leavesShortAll 80 ds = true
  dp : PyData.depthAll ds ≤ n
  wt : PyData.weightAll ds ≤ ds.length * (W + 1)
theorem FineAll.of {n W : Nat} : ∀ {ds : List PyData}, (∀ d ∈ ds, Fine n W d) → FineAll n W ds
  | [], _ => ⟨rfl, rfl, rfl, Nat.zero_le _, Nat.zero_le _⟩
  | d :: ds, h => by
    have a := h d (List.mem_cons_self ..)
    have b := FineAll.of (ds := ds) fun e he => h e (List.mem_cons_of_mem _ he)
    refine ⟨?_, ?_, ?_, Nat.max_le.mpr ⟨a.dp, b.dp⟩, ?_⟩
    · show (d.hasDict || PyData.hasDictAll ds) = false
      rw [a.nd, b.nd]
      rfl
    · show (d.showable && PyData.showableAll ds) = true
      rw [a.sh, b.sh]
      rfl
    · show (d.leavesShort 80 && PyData.leavesShortAll 80 ds) = true
      rw [a.ls, b.ls]
      rfl
    · show d.weight + 1 + PyData.weightAll ds ≤ (ds.length + 1) * (W + 1)
      have := a.wt
      have := b.wt
      rw [Nat.succ_mul]
      omega
theorem FineAll.list {n W : Nat} {ds : List PyData} (a : FineAll n W ds) : Fine (n + 1) (ds.length * (W + 1)) (.list ds) := ⟨a.nd, a.sh, a.ls, Nat.succ_le_succ a.dp, a.wt⟩
theorem FineAll.tup {n W : Nat} {ds : List PyData} (a : FineAll n W ds) : Fine (n + 1) (ds.length * (W + 1)) (.tuple ds) := ⟨a.nd, a.sh, a.ls, Nat.succ_le_succ a.dp, a.wt⟩
theorem Fine.mono {n m W Z : Nat} {d : PyData} (h : Fine n W d) (a : n ≤ m) (b : W ≤ Z) : Fine m Z d := ⟨h.nd, h.sh, h.ls, Nat.le_trans h.dp a, Nat.le_trans h.wt b⟩
theorem Fine.bool (b : Bool) : Fine 0 0 (.bool b) := ⟨rfl, rfl, rfl, Nat.le_refl _, Nat.le_refl _⟩
theorem Fine.none : Fine 0 0 .none := ⟨rfl, rfl, rfl, Nat.le_refl _, Nat.le_refl _⟩
theorem Fine.int {i : Int} (h : i.natAbs < 2 ^ 70) : Fine 0 70 (.int i) := by
  have l : i.natAbs.log2 < 70 := PySem.Flt.log2_lt_of (by decide) h
  refine ⟨rfl, decide_eq_true (by omega), decide_eq_true ?_, Nat.le_refl _, ?_⟩
  · have e := int_text_length_le (a := i) (k := 70) (by decide) l
    show (Str.ofString (toString i)).length ≤ 80
    rw [PySem.ofString_length]
    omega
  · show (if i == 0 then 0 else i.natAbs.log2 + 1) ≤ 70
    split <;> omega
theorem Fine.str {z : Str} {W : Nat} (h : ∀ c ∈ z.cps.toList, c < 16 ^ 8) (w : z.cps.toList.length ≤ W) : Fine 0 W (.str z) := by
  refine ⟨rfl, rfl, ?_, Nat.le_refl _, w⟩
  show (z.cps.toList.all fun c => decide (c < 16 ^ 8)) = true
  rw [List.all_eq_true]
  exact fun c hc => decide_eq_true (h c hc)
theorem Fine.fits {d : PyData} (h : Fine 60 100000 d) : d.shown.length ≤ sizeLine := by
  have a := PyData.shown_le 80 (by decide) d h.ls
  have b := h.wt
  have c : (80 + 2) * d.weight ≤ 82 * 100000 := Nat.mul_le_mul_left _ b
  have e : sizeLine = 16777216 := by decide
  omega
section
variable {X : Cx}
/-- repr of a list or tuple, where none is being written out -/
theorem call_reprD (quiet : X.A.guards = some []) (hu : X.A.units + 64 < cLine) : CallR X (.builtin "repr") (fun xs H Q => ∃ (a : Addr) (d : PyData), xs = [.ref a] ∧ Dp X.K H (.ref a) d ∧ Fine 60 100000 d ∧ Q (.str d.shown) H) := by
  intro pins s σ H xs us Q I r h
  obtain ⟨a, d, rfl, hd, fine, q⟩ := h
  cases r with
  | cons r rr =>
    cases rr
    cases (show _ = Value.ref a from r)
    obtain ⟨as, rd⟩ := Dp.reads I d (.ref a) (.ref a) hd rfl
    have dp := fine.dp
    exact repr_of_reads' rd fine.sh (PyData.noDict_hsm fine.nd) quiet (by omega) (fun _ _ e => e) (fun g u tk keep => ⟨.str d.shown, H, I.kept (t' := tk) keep, ⟨_, rfl⟩, q⟩) fine.fits
end
end Gu
namespace Gu
open PySem PySem.Spec PyProof.Rows L2
/-! ### tuples: cut, joined, made of a text -/
section
variable {K : PySem.W.Frag} {H : Hp} {a b : Addr} {xs ys : List V} {Q : VK}
theorem cat_ok (ha : H a = some (.tup xs)) (hb : H b = some (.tup ys)) (hl : xs.length + ys.length ≤ sizeLine) (q : ∀ U G, Same H G → G U = some (.tup (xs ++ ys)) → Q (.ref U) G) : rCatA K (.ref a) (.ref b) H Q := by
  refine ⟨a, b, xs, ys, rfl, rfl, .inl (.inl ha), .inl (.inl hb), hl, fun e => q b H (Same.refl H) ?_, fun _ e => q a H (Same.refl H) ?_, fun _ _ p np => q p _ (same_new np) upd_same⟩
  · rw [e]
    exact hb
  · rw [e, List.append_nil]
    exact ha
theorem sl_ok {lo hi : Option Int} (ha : H a = some (.tup xs)) (q : ∀ U G, Same H G → G U = some (.tup (cutV xs lo hi)) → Q (.ref U) G) : rSlA K (.ref a) lo hi H Q := by
  refine ⟨a, xs, rfl, .inl (.inl ha), fun ⟨e1, e2⟩ => q a H (Same.refl H) ?_, fun _ p np => q p _ (same_new np) upd_same⟩
  unfold cutV
  rw [e1, e2, List.drop_zero, Nat.sub_zero, List.take_length]
  exact ha
end
theorem noPart {σ : L2.St} {H : Hp} {Q : Option Int → Hp → Prop} (h : Q none H) : tNoPart σ H Q := h
theorem call_tupS {X : Cx} (hc : X.calm = true) : CallR X (.type "tuple") (fun vs H Q => ∃ z : Str, vs = [.str z] ∧ z.cps.toList.length ≤ 1000 ∧ ∀ q, H q = none → Q (.ref q) (upd H q (.tup (ones z.cps.toList)))) := by
  intro pins s σ H vs us Q I r h
  obtain ⟨z, rfl, hz, q⟩ := h
  cases r with
  | cons r rr =>
    cases rr
    obtain ⟨t, rfl⟩ := r
    have zs : z.cps.size ≤ sizeLine := Nat.le_of_lt (small1000 hz)
    refine call_tuple_str (I.ok.hd hc) z t (fun g tk acc keep its => ?_) zs
    have I2 : Inv X pins σ H { s with heap := g, toks := tk } := I.kept keep
    have rel : Vals (ones z.cps.toList) acc.toList := by
      have el : acc.toList.length = z.cps.toList.length := its.1
      have e : ones z.cps.toList = (List.range acc.toList.length).map fun j => V.str (one (z.cps.toList.getD j 0)) := by
        unfold ones
        rw [el]
        refine List.ext_getElem? fun j => ?_
        rw [List.getElem?_map, List.getElem?_map]
        by_cases hj : j < z.cps.toList.length
        · rw [List.getElem?_eq_getElem hj, List.getElem?_range hj]
          show some (V.str (one z.cps.toList[j])) = some (V.str (one (z.cps.toList.getD j 0)))
          rw [List.getD_eq_getElem?_getD, List.getElem?_eq_getElem hj]
          rfl
        · rw [List.getElem?_eq_none (by omega), List.getElem?_eq_none (by rw [List.length_range]; omega)]
          rfl
      rw [e]
      refine vals_of_get acc.toList _ fun j u hj => ?_
      obtain ⟨c, tt, hc1, rfl⟩ := its.2 j u (by rw [← hj, Array.getElem?_toList])
      refine ⟨tt, ?_⟩
      rw [List.getD_eq_getElem?_getD, Array.getElem?_toList, hc1]
      rfl
    refine ⟨.ref g.objs.size, upd H g.objs.size (.tup (ones z.cps.toList)), I2.laid (t' := tk) (fun c o e => Heap.get?_push_of_some _ e) (Nat.le_refl _) (show ObjOk X.prog X.w _ _ _ (.tup (ones z.cps.toList)) from ⟨?_, acc.toList, rel, ?_⟩), rfl, q _ (I2.hok.fresh (Nat.le_refl _))⟩
    · unfold ones
      rw [List.length_map]
      exact zs
    · rw [Array.toArray_toList]
      exact IsTup.new _ _
def rLenK (K : PySem.W.Frag) : List V → Hp → VK → Prop := fun xs H Q => ∃ (x : V) (n : Nat), xs = [x] ∧ LenV K x H n ∧ Q (.int n) H
/-! ### lengths of what is cut -/
def Rec.len (r : Rec) (n : Nat) : Nat := if n ≤ r.l.toNat then n else min r.h.toNat n + r.z.cps.toList.length + min r.t.toNat n
def lens (rs : List Rec) (n : Nat) : Nat := rs.foldl (fun n r => r.len n) n
theorem cut_len (r : Rec) (xs : List V) : (cut r.l.toNat r.h.toNat r.t.toNat (ones r.z.cps.toList) xs).length = r.len xs.length := by
  unfold cut Rec.len
  split
  · rfl
  · rw [List.length_append, List.length_append, List.length_take, List.length_drop]
    unfold ones
    rw [List.length_map]
    omega
theorem cutsV_length : ∀ (rs : List Rec) (xs : List V), (cutsV rs xs).length = lens rs xs.length
  | [], _ => rfl
  | r :: rs, xs => by
    show (cutsV rs (cut r.l.toNat r.h.toNat r.t.toNat (ones r.z.cps.toList) xs)).length = lens rs (r.len xs.length)
    rw [cutsV_length rs, cut_len]
theorem Rec.fit.len_le {r : Rec} (f : r.fit) {n : Nat} (h : n ≤ 500) : r.len n ≤ 500 := by
  have a := f.zl
  have b := f.h
  have c := f.t
  unfold Rec.len
  split <;> omega
theorem lens_le : ∀ (rs : List Rec) {n : Nat}, (∀ r ∈ rs, r.fit) → n ≤ 500 → lens rs n ≤ 500
  | [], _, _, h => h
  | r :: rs, n, hf, h => lens_le rs (n := r.len n) (fun q hq => hf q (List.mem_cons_of_mem _ hq)) ((hf r (List.mem_cons_self ..)).len_le h)
/-- from 41 signs on all is as for 41 -/
theorem lens_far {rs : List Rec} (hf : ∀ r ∈ rs, r.fit) (h1 : 1 ≤ rs.length) {n : Nat} (h : 41 ≤ n) : lens rs n = lens rs 41 := by
  cases rs with
  | nil => cases h1
  | cons r rs =>
    have f := hf r (List.mem_cons_self ..)
    have a := f.l
    have b := f.h
    have c := f.t
    have e : r.len n = r.len 41 := by
      unfold Rec.len
      rw [if_neg (by omega), if_neg (by omega)]
      omega
    show lens rs (r.len n) = lens rs (r.len 41)
    rw [e]
section
variable {P : Program} {w : World} {K : PySem.W.Frag} {mg : Str → Option Value} {base : Heap} {C : Addr}
/-! ### shortened: of a tuple -/
def spShortT (C : Addr) : Sp := fun vs H Q _ => ∃ (x W M : Addr) (r : Rec) (xs : List V), vs = [.ref x, .ref W, .ref M] ∧ ShAt C H x r ∧ r.fit ∧ H W = some (.tup xs) ∧ xs.length ≤ 1000 ∧ H M = some (.tup (ones r.z.cps.toList)) ∧
  ∀ U G, Same H G → G U = some (.tup (cut r.l.toNat r.h.toNat r.t.toNat (ones r.z.cps.toList) xs)) → Q (.ref U) G
theorem cal_shortT (B : Bi mg) (S : ShC K mg C) (D : At K mg "shortened" s_shortened ps_shortened) : Cal P w K mg base 1 "shortened" ps_shortened (spShortT C) := by
  refine D.cal sc_shortened (fun vs H Q E h => ?_) (fun f cdv A outer s H vs Q E hr h => ?_)
  · obtain ⟨x, W, M, r, xs, rfl, _⟩ := h
    rfl
  · obtain ⟨x, W, M, r, xs, rfl, ⟨dx, b, hx, _⟩, fit, hW, xl, hM, k⟩ := h
    have f1 := fit.l
    have f2 := fit.h
    have f3 := fit.t
    have f4 := fit.zl
    have ol : (ones r.z.cps.toList).length = r.z.cps.toList.length := by
      unfold ones
      rw [List.length_map]
    refine ⟨_, (pss_cons (ps_if (pt_cmpR op_le (pe_callB call_len (by rfl) B.len (by decide +kernel) (pa_cons (pv 1) pa_nil)) (pe_fld (pv 0) rfl) (nomark _)) (pss_one (ps_ret (pv 1))) pss_nil)
      (pss_cons (ps_set (i := 3) sc_shortened.nd rfl (.inl rfl) (pe_callB (call_max2 rfl) (by rfl) B.max (by decide +kernel) (pa_cons pe_int (pa_cons (pe_op op_sub (pe_callB call_len (by rfl) B.len (by decide +kernel) (pa_cons (pv 1) pa_nil)) (pe_fld (pv 0) rfl)) pa_nil))))
      (pss_one (ps_ret (pe_op op_catA (pe_op op_catA (pe_slice sl_tupA (pv 1) po_none (po_some (pe_fld (pv 0) rfl))) (pv 2)) (pe_slice sl_tupA (pv 1) (po_some (pv 3)) po_none)))))), ?_⟩
    refine ⟨_, rfl, _, _, rfl, .inr ⟨_, .inl (.inl hW), rfl⟩, _, rfl, x, C, dx, _, _, rfl, hx, S.cl, S.nL, flds_limit _ _, _, _, rfl, rfl, _, rfl, ite2 (fun e => ?_) (fun e => ?_)⟩
    · have e1 := of_decide_eq_true e
      refine ⟨_, rfl, k W H (Same.refl H) ?_⟩
      unfold cut
      rw [if_pos (by omega)]
      exact hW
    · have e1 : ¬ (xs.length : Int) ≤ r.l := fun h => e (decide_eq_true h)
      refine ⟨_, rfl, _, _, rfl, .inr ⟨_, .inl (.inl hW), rfl⟩, _, rfl, x, C, dx, _, _, rfl, hx, S.cl, S.nT, flds_tail _ _, _, _, rfl, rfl, _, _, rfl, ?_⟩
      refine ⟨_, rfl, _, rfl, x, C, dx, _, _, rfl, hx, S.cl, S.nH, flds_head _ _, _, rfl, sl_ok hW fun U1 G1 s1 e1 => ?_⟩
      have c1 : cutV xs none (some r.h) = xs.take r.h.toNat := cut_front xs f2.1
      rw [c1] at e1
      refine ⟨_, rfl, cat_ok e1 (s1 _ _ hM) (Nat.le_of_lt (Nat.lt_of_le_of_lt (show _ ≤ 2000 by rw [List.length_take]; omega) (by decide))) fun U2 G2 s2 e2 => ?_⟩
      refine ⟨_, rfl, _, rfl, _, rfl, ?_⟩
      refine noPart ?_
      refine sl_ok (s2 _ _ (s1 _ _ hW)) fun U3 G3 s3 e3 => ?_
      have c3 : cutV xs (some (if (xs.length : Int) - r.t > 0 then (xs.length : Int) - r.t else 0)) none = xs.drop (xs.length - r.t.toNat) := by
        have q := cut_back xs (h := if (xs.length : Int) - r.t > 0 then (xs.length : Int) - r.t else 0) (by split <;> omega)
        have n : (if (xs.length : Int) - r.t > 0 then (xs.length : Int) - r.t else 0).toNat = xs.length - r.t.toNat := by split <;> omega
        rw [n] at q
        exact q
      rw [c3] at e3
      refine cat_ok (s3 _ _ e2) e3 (Nat.le_of_lt (Nat.lt_of_le_of_lt (show _ ≤ 4000 by rw [List.length_append, List.length_take, List.length_drop]; omega) (by decide))) fun U4 G4 s4 e4 => k U4 G4 (s1.trans (s2.trans (s3.trans s4))) ?_
      rw [e4]
      unfold cut
      rw [if_neg (show ¬ xs.length ≤ r.l.toNat by omega)]
/-! ### planned, check_length, plan, widest -/
theorem cutsV_snoc' (rs : List (Addr × Rec)) {i : Nat} {q : Addr × Rec} (h : rs[i]? = some q) (xs : List V) :
    cutsV ((rs.take (i + 1)).map (·.2)) xs = cut q.2.l.toNat q.2.h.toNat q.2.t.toNat (ones q.2.z.cps.toList) (cutsV ((rs.take i).map (·.2)) xs) := cutsV_snoc rs h xs
def spPlanned (C : Addr) : Sp := fun vs H Q _ => ∃ (a : Addr) (n : Nat) (rs : List (Addr × Rec)), vs = [.ref a, .int (n : Int)] ∧ RowAt C H a rs ∧ n ≤ 500 ∧ ∀ U G, Same H G → G U = some (.tup (cutsV (rs.map (·.2)) (rgV 0 n))) → Q (.ref U) G
theorem cal_planned (B : Bi mg) (S : ShC K mg C) (D : At K mg "planned" s_planned ps_planned) (C_shortened : Cal P w K mg base 1 "shortened" ps_shortened (spShortT C)) : Cal P w K mg base 2 "planned" ps_planned (spPlanned C) := by
  refine D.cal sc_planned (fun vs H Q E h => ?_) (fun f cdv A outer s H vs Q E hr h => ?_)
  · obtain ⟨a, n, rs, rfl, _⟩ := h
    rfl
  · obtain ⟨a, n, rs, rfl, hR, hn, k⟩ := h
    refine ⟨_, (pss_cons (ps_set (i := 2) sc_planned.nd rfl (.inl rfl) (pe_tupRg (by rfl) (by rfl) B.tuple (prg_1 (by rfl) B.range (pv 1))))
      (pss_cons (ps_for PassesOwn.never rfl (pi_tup (pv 0)) (pg_name (i := 3) sc_planned.nd rfl (.inl rfl))
      (pss_one (ps_set (i := 2) sc_planned.nd rfl (.inl rfl) (pe_own C_shortened hr (by decide) (by rfl) (pa_cons (pv 3) (pa_cons (pv 2) (pa_cons (pe_callTy (call_tupS rfl) (by rfl) B.tuple (by decide +kernel) (pa_cons (pe_fld (pv 3) rfl) pa_nil)) pa_nil)))))))
      (pss_one (ps_ret (pv 2))))), ?_⟩
    refine ⟨_, rfl, _, rfl, RgOk.of_le (by omega) (by omega) (by omega) (by omega), fun T nT => ?_⟩
    have s0 : Same H (upd H T (.tup (rgV 0 n))) := same_new nT
    have R0 := hR.same s0
    refine ⟨_, rfl, a, rfl, ⟨_, .inl (.inl R0.tp)⟩, for_tup (K := K) (a := a) (xs := rs.map fun q => V.ref q.1) (fun i σ J => ∃ (U : Addr) (u : Option V), σ = [some (.ref a), some (.int (n : Int)), some (.ref U), u] ∧ Same H J ∧ J U = some (.tup (cutsV ((rs.take i).map (·.2)) (rgV 0 n))))
      ⟨T, none, rfl, s0, upd_same⟩ (fun i σ J _ ⟨_, _, _, sJ, _⟩ => .inl (.inl (sJ _ _ hR.tp))) ?_ ?_⟩
    · rintro i v σ J hi ⟨U, u, rfl, sJ, eU⟩
      rw [List.getElem?_map] at hi
      cases hq : rs[i]? with
      | none =>
        rw [hq] at hi
        cases hi
      | some q =>
        rw [hq] at hi
        cases hi
        obtain ⟨sq, fq⟩ := (hR.same sJ).sh q (List.mem_of_getElem? hq)
        obtain ⟨dx, b, e1, e2⟩ := id sq
        refine ⟨_, rfl, _, rfl, _, rfl, q.1, C, dx, _, _, rfl, e1, S.cl, S.nM, flds_mark _ _, q.2.z, rfl, by have := fq.zl; omega, fun M nM => ?_⟩
        have s1 : Same J (upd J M (.tup (ones q.2.z.cps.toList))) := same_new nM
        refine ⟨q.1, U, M, q.2, _, rfl, sq.same s1, fq, s1 _ _ eU, ?_, upd_same, fun U2 G s2 e3 => ⟨U2, _, rfl, sJ.trans (s1.trans s2), ?_⟩⟩
        · rw [cutsV_length]
          have := lens_le ((rs.take i).map (·.2)) (n := (rgV 0 n).length) (fun r hr => by
            obtain ⟨p, hp, rfl⟩ := List.mem_map.mp hr
            exact (hR.sh p (List.mem_of_mem_take hp)).2) (by rw [rgV_length]; omega)
          omega
        · rw [e3, cutsV_snoc' rs hq]
    · rintro σ J ⟨U, u, rfl, sJ, eU⟩
      rw [List.length_map, List.take_length] at eU
      exact ⟨_, rfl, k U J sJ eU⟩
def spCheckLength : Sp := fun vs H Q _ => ∃ (n : Nat), vs = [.int (n : Int)] ∧ n ≤ 500 ∧ Q .non H
def spPlan (C : Addr) : Sp := fun vs H Q _ => ∃ (a : Addr) (n : Nat) (rs : List (Addr × Rec)), vs = [.ref a, .int (n : Int)] ∧ RowAt C H a rs ∧ 1 ≤ rs.length ∧ rs.length ≤ 4 ∧ n ≤ 500 ∧ ∀ U G, Same H G → G U = some (.tup (cutsV (rs.map (·.2)) (rgV 0 n))) → Q (.ref U) G
def wides (rs : List Rec) (n : Nat) : List Int := (List.range n).map fun i => (lens rs i : Int)
def Top (m : Int) (ns : List Int) : Prop := m ∈ ns ∧ ∀ y ∈ ns, y ≤ m
theorem Top.one {m k : Int} {ns : List Int} (a : Top m ns) (b : Top k ns) : m = k := Int.le_antisymm (b.2 m a.1) (a.2 k b.1)
theorem wides_top {rs : List Rec} (hf : ∀ r ∈ rs, r.fit) (h1 : 1 ≤ rs.length) {m : Int} {n : Nat} (hn : 42 ≤ n) (h : Top m (wides rs 42)) : Top m (wides rs n) := by
  obtain ⟨a, b⟩ := h
  unfold wides at a b ⊢
  obtain ⟨i, hi, rfl⟩ := List.mem_map.mp a
  refine ⟨List.mem_map.mpr ⟨i, List.mem_range.mpr (by have := List.mem_range.mp hi; omega), rfl⟩, fun y hy => ?_⟩
  obtain ⟨j, hj, rfl⟩ := List.mem_map.mp hy
  by_cases hj2 : j < 42
  · exact b _ (List.mem_map.mpr ⟨j, List.mem_range.mpr hj2, rfl⟩)
  · rw [lens_far hf h1 (show 41 ≤ j by omega)]
    exact b _ (List.mem_map.mpr ⟨41, List.mem_range.mpr (by decide), rfl⟩)
def spWidest (C : Addr) : Sp := fun vs H Q _ => ∃ (a : Addr) (rs : List (Addr × Rec)), vs = [.ref a] ∧ RowAt C H a rs ∧ 1 ≤ rs.length ∧ rs.length ≤ 4 ∧ ∀ m G, Same H G → Top m (wides (rs.map (·.2)) 42) → Q (.int m) G
end
end Gu
namespace Gu
open PySem PySem.Spec PyProof.Rows L2
/-! ### sets made of a list or a tuple of keys -/
/-- each once, in the order of their first coming -/
def dds {α : Type} [DecidableEq α] (ks : List α) : List α := ks.foldl (fun acc k => if k ∈ acc then acc else acc ++ [k]) []
/-- j is among ks -/
def isIn {α : Type} [DecidableEq α] (ks : List α) (j : α) : Bool := decide (j ∈ ks)
theorem dds_snoc {α : Type} [DecidableEq α] (ks : List α) (k : α) : dds (ks ++ [k]) = if k ∈ dds ks then dds ks else dds ks ++ [k] := by
  unfold dds
  rw [List.foldl_append]
  rfl
theorem mem_dds {α : Type} [DecidableEq α] {j : α} (ks : List α) : j ∈ dds ks ↔ j ∈ ks := by
  have main : ∀ (ks acc : List α), j ∈ ks.foldl (fun acc k => if k ∈ acc then acc else acc ++ [k]) acc ↔ j ∈ acc ∨ j ∈ ks := by
    intro ks
    induction ks with
    | nil =>
      intro acc
      show j ∈ acc ↔ _
      simp
    | cons k ks ih =>
      intro acc
      show j ∈ ks.foldl _ (if k ∈ acc then acc else acc ++ [k]) ↔ _
      rw [ih]
      by_cases h : k ∈ acc
      · rw [if_pos h, List.mem_cons]
        constructor
        · rintro (h1 | h1)
          · exact .inl h1
          · exact .inr (.inr h1)
        · rintro (h1 | h1 | h1)
          · exact .inl h1
          · exact .inl (h1 ▸ h)
          · exact .inr h1
      · rw [if_neg h, List.mem_append, List.mem_singleton, List.mem_cons, or_assoc]
  have := main ks []
  unfold dds
  rw [this]
  simp
theorem dds_nodup {α : Type} [DecidableEq α] (ks : List α) : (dds ks).Nodup := by
  have main : ∀ (ks acc : List α), acc.Nodup → (ks.foldl (fun acc k => if k ∈ acc then acc else acc ++ [k]) acc).Nodup := by
    intro ks
    induction ks with
    | nil => exact fun acc h => h
    | cons k ks ih =>
      intro acc h
      show (ks.foldl _ (if k ∈ acc then acc else acc ++ [k])).Nodup
      apply ih
      by_cases e : k ∈ acc
      · rw [if_pos e]
        exact h
      · rw [if_neg e, List.nodup_append]
        refine ⟨h, by simp, fun a ha b hb => ?_⟩
        rw [List.mem_singleton.mp hb]
        exact fun q => e (q ▸ ha)
  exact main ks [] List.nodup_nil
theorem dds_len {α : Type} [DecidableEq α] (ks : List α) : (dds ks).length ≤ ks.length := by
  have main : ∀ (ks acc : List α), (ks.foldl (fun acc k => if k ∈ acc then acc else acc ++ [k]) acc).length ≤ acc.length + ks.length := by
    intro ks
    induction ks with
    | nil => exact fun acc => Nat.le_refl _
    | cons k ks ih =>
      intro acc
      refine Nat.le_trans (ih _) ?_
      show (if k ∈ acc then acc else acc ++ [k]).length + _ ≤ _
      split
      · simp only [List.length_cons]
        omega
      · simp only [List.length_cons, List.length_append, List.length_nil]
        omega
  have e := main ks []
  rw [List.length_nil, Nat.zero_add] at e
  exact e
section
variable {prog : Program} {w : World} {A : Around} {R : Result → Shared → Prop} {I : Addr} {fp wr : List Addr} {G : Array GenState → Array GenState → Prop} {n : Nat} {Py : Nat → Value → Prop} {St : Nat → Shared → Prop} {α : Type} [DecidableEq α] {knd : KeyKind prog w α}
theorem fill_set (W : WalksS prog w A.in1 I fp wr G n Py St) (T : Addr) (away : T ∉ fp) (ks : List α) (many : n = ks.length) (few : ks.length + 1 < scanBound)
    (drawn : ∀ i v, Py i v → ∃ k, ks[i]? = some k ∧ knd.is k v = true ∧ v.scannable = true) :
    ∀ (left i : Nat) (s : Shared), n - i = left → i ≤ n → St i s → s.heap.SetOf knd T (isIn (ks.take i)) (dds (ks.take i)).length →
      (∀ t, Moved (T :: wr) G s t → t.heap.SetOf knd T (isIn ks) (dds ks).length → R (.ok (.ret .none)) t) →
      codeAny (model prog w) A (.builtin "set.update.loop" ⟨[.ref T, .ref I], []⟩) R s := by
  have awayW : T ∉ wr := fun h => away (W.sub _ h)
  have wider : ∀ b ∈ wr, b ∈ T :: wr := fun b q => List.mem_cons_of_mem _ q
  intro left
  induction left with
  | zero =>
    intro i s el il st so goal
    have ei : i = n := by omega
    subst ei
    refine codeAny_builtin F.entry_set_update_loop ?_
    rw [Around.under_plainId F.plain_set_update_loop _]
    show wpAny _ A.in1 (pyNext (.ref I) >>= _) _ _ s
    refine wpAny_bind (W.done s _ _ st fun t mv => ?_)
    show wpAny _ A.in1 (ret Value.none) _ _ t
    have full : ks.take i = ks := List.take_of_length_le (by omega)
    rw [full] at so
    refine wpAny_pure (goal t (mv.mono wider) ?_)
    obtain ⟨o, es, ep, tb, ho, more⟩ := so
    exact ⟨o, es, ep, tb, mv.heap T _ awayW ho, more⟩
  | succ left ih =>
    intro i s el il st so goal
    have less : i < n := by omega
    refine codeAny_builtin F.entry_set_update_loop ?_
    rw [Around.under_plainId F.plain_set_update_loop _]
    show wpAny _ A.in1 (pyNext (.ref I) >>= _) _ _ s
    refine wpAny_bind (W.item i s _ _ less st fun v t py st1 mv => ?_)
    obtain ⟨k, ek, isk, sc⟩ := drawn i v py
    have so1 : t.heap.SetOf knd T (isIn (ks.take i)) (dds (ks.take i)).length := by
      obtain ⟨o, es, ep, tb, ho, more⟩ := so
      exact ⟨o, es, ep, tb, mv.heap T _ awayW ho, more⟩
    show wpAny _ A.in1 (holding [v] (setAdd T v) >>= _) _ _ t
    refine wpAny_bind (wpAny_holding ?_)
    unfold setAdd
    refine wpAny_holding ?_
    refine wpAny_bind (knd.pyHash isk ?_)
    have room1 : (dds (ks.take i)).length + 1 < scanBound := by
      have a := dds_len (ks.take i)
      rw [List.length_take] at a
      omega
    refine wpAny_setAddHashed_of (knd := knd) (s := { t with toks := t.toks + 1 }) isk sc so1 room1 fun h2 sb so2 => ?_
    have snoc : ks.take (i + 1) = ks.take i ++ [k] := by
      rw [List.take_add_one, ek]
      rfl
    have so3 : h2.SetOf knd T (isIn (ks.take (i + 1))) (dds (ks.take (i + 1))).length := by
      have e1 : (fun j => isIn (ks.take i) j || decide (j = k)) = isIn (ks.take (i + 1)) := by
        funext j
        unfold isIn
        rw [snoc]
        simp [List.mem_append]
      have e2 : (if isIn (ks.take i) k = true then (dds (ks.take i)).length else (dds (ks.take i)).length + 1) = (dds (ks.take (i + 1))).length := by
        rw [snoc, dds_snoc]
        unfold isIn
        by_cases q : k ∈ ks.take i
        · rw [if_pos (decide_eq_true q), if_pos ((mem_dds _).mpr q)]
        · rw [if_neg (fun z => q (of_decide_eq_true z)), if_neg (fun z => q ((mem_dds _).mp z)), List.length_append]
          rfl
      rw [← e1, ← e2]
      exact so2
    refine wpAny_pure ⟨plainId_quiet F.plain_set_update_loop _, ih (i + 1) _ (by omega) less (W.frame _ t _ _ st1 (Nat.le_succ _) fun b q o e => ?_) so3 fun t2 mv2 so4 => ?_⟩
    · rw [sb.2 b (fun z : b = T => away (z ▸ q))]
      exact e
    · refine goal t2 (Moved.trans W.gtrans ((mv.mono wider).then_heap (Nat.le_succ _) fun b o q e => ?_) mv2) so4
      rw [sb.2 b (fun z : b = T => q (by rw [z]; exact List.mem_cons_self))]
      exact e
end
section
variable {prog : Program} {w : World} {A : Around} {E : Value → Shared → Prop} {s : Shared}
/-- the empty set's object, by its way of order -/
abbrev noneIn (b : Bool) : Obj := { cls := .type "set", dict := none, data := .set #[] 0 (.fresh 0 0 b) }
set_option maxHeartbeats 3200000 in
theorem init_goes {T l : Addr} {b : Bool} {Q : PySem.Fin → Shared → Prop} {TY : String} {od : Option Addr} {dt : Data} {sl : Array (Option Value)} (at_T : s.heap.get? T = some (noneIn b)) (at_l : s.heap.get? l = some { cls := .type TY, dict := od, data := dt, slots := sl })
    (notS : isSubtype (.type TY) (.type "set") = pure false) (notF : isSubtype (.type TY) (.type "frozenset") = pure false) (notD : (Value.type TY == Value.type "dict") = false)
    (h : wpAny (model prog w) A (pyIter (.ref l)) (fun a t => wpAny (model prog w) A (do let _ ← runValue (Code.builtin "set.update.loop" { pos := [Value.ref T, a] }); pure ()) (fun _ t2 => wpAny (model prog w) A (ret Value.none) Q E t2) E t) E s) :
    wpAny (model prog w) A (Builtin.«set.__init__» ⟨[.ref T, .ref l], []⟩) Q E s := by
  have isS : Shared.TypeIs s (.ref T) "set" := ⟨_, at_T, rfl⟩
  unfold Builtin.«set.__init__» noKeywords Builtin.Frozenset.updateFrom
  revert h
  generalize pyIter = PI
  intro h
  wp_walk
  exact h
end
section
variable {prog : Program} {w : World} {A : Around} {E : Value → Shared → Prop} {s : Shared} {α : Type} [DecidableEq α] {knd : KeyKind prog w α}
set_option maxHeartbeats 3200000 in
theorem call_setOfL {l : Addr} {items : Array Value} (ks : List α) {Q : Value → Shared → Prop} (calm : A.handled = none) (at_l : s.heap.IsList l items) (size : items.size = ks.length) (few : ks.length + 1 < scanBound)
    (keys : ∀ (i : Nat) (v : Value), items[i]? = some v → ∃ k : α, ks[i]? = some k ∧ knd.is k v = true ∧ v.scannable = true)
    (h : ∀ (g : Heap) (tk : Nat), g.SetOf knd s.heap.objs.size (isIn ks) (dds ks).length → (∀ b o, s.heap.get? b = some o → g.get? b = some o) → Q (.ref s.heap.objs.size) { s with heap := g, toks := tk }) :
    wpAny (model prog w) A (call (.type "set") [.ref l]) Q E s := by
  obtain ⟨c0, tl0, mro0⟩ := F.called_set.mro
  have made0 := F.called_set.made
  have sub0 := F.called_set.sub
  refine wpAny_call (codeAny_of_tree ?_)
  show wpAny _ _ (callAny (.type "set") _) _ _ _
  refine wpAny_pure ⟨Code.quiet_builtin _ (by decide +kernel), codeAny_builtin F.entry_type_call ?_⟩
  rw [Around.under_plain (weight_type_call_type "set" [.ref l] []) rfl]
  have nt0 := F.called_set.notType
  have cc0 := F.called_set.canCreate
  have tc0 := F.typeCall_set_1 (.ref l)
  repeat (any_goals (first | assumption | wp_step))
  refine codeAny_mono (code_set_new_1 (.ref l) (E := E) (Q₁ := fun x t => ∃ b : Bool, x = .ref s.heap.objs.size ∧ t = { s with heap := s.heap.push (noneIn b) }) fun b => ⟨b, rfl, rfl⟩) fun r t hr => ?_
  cases r with
  | error e => exact hr
  | ok fl =>
    cases fl with
    | next => exact (hr : False).elim
    | brk => exact (hr : False).elim
    | cont => exact (hr : False).elim
    | ret x =>
      obtain ⟨b0, rfl, rfl⟩ := hr
      have new0 : (s.heap.push (noneIn b0)).get? s.heap.objs.size = some (noneIn b0) := Heap.get?_push_size _ rfl
      have isS : Shared.TypeIs { s with heap := s.heap.push (noneIn b0) } (.ref s.heap.objs.size) "set" := ⟨_, new0, rfl⟩
      have li0 := F.called_set.init.lookup
      have bi0 := F.called_set.init.bind (.ref s.heap.objs.size)
      repeat (any_goals (first | assumption | wp_step))
      refine codeAny_mono (codeAny_call_builtin (R := wants (fun y t2 => y = .none ∧ ∃ (g : Heap) (tk : Nat), t2 = { s with heap := g, toks := tk } ∧ g.SetOf knd s.heap.objs.size (isIn ks) (dds ks).length ∧ (∀ b o, s.heap.get? b = some o → g.get? b = some o)) E)
        F.called_set.init.plain F.entry_set_init (check_set_init_1 isS ?_)) fun r2 t2 hr2 => ?_
      · obtain ⟨ol, hol, cl0, nl, dl0⟩ := at_l
        obtain ⟨ocls, odict, odata, oslots⟩ := ol
        simp only at cl0 dl0
        subst cl0
        subst dl0
        have hol1 : (s.heap.push (noneIn b0)).get? l = some { cls := .type "list", dict := odict, data := .seq items nl, slots := oslots } := Heap.get?_push_of_some _ hol
        have notS := F.sub_list_set
        have notF := F.sub_list_frozenset
        have notD : (Value.type "list" == Value.type "dict") = false := by decide
        have at1 : (s.heap.push (noneIn b0)).IsList l items := ⟨_, hol1, rfl, nl, rfl⟩
        refine init_goes (b := b0) new0 hol1 notS notF notD ?_
        refine wpAny_pyIter_list at1 ?_
        refine wpAny_bind (wpAny_runValue ?_)
        have lt0 : l < s.heap.objs.size := Heap.lt_size hol
        have calm3 : A.in1.in1.in1.handled = none := by simp [calm]
        have z1 : (s.heap.push (noneIn b0)).objs.size = s.heap.objs.size + 1 := Heap.size_push ..
        have apart : l ≠ (s.heap.push (noneIn b0)).objs.size := by
          rw [z1]
          exact Nat.ne_of_lt (Nat.lt_succ_of_lt lt0)
        have off : s.heap.objs.size ∉ [(s.heap.push (noneIn b0)).objs.size, l] := by
          rw [z1]
          intro q
          rcases List.mem_cons.mp q with q | q
          · exact absurd q (Nat.ne_of_lt (Nat.lt_succ_self _))
          · exact absurd (List.mem_singleton.mp q) (Nat.ne_of_gt lt0)
        refine fill_set ((Walks.list calm3 _ l apart items).toS) s.heap.objs.size off ks size few keys (items.size - 0) 0 _ (by omega) (Nat.zero_le _) ⟨⟨_, Heap.get?_push_size _ rfl, rfl, rfl⟩, (at1.push _)⟩ ?first ?last
        case first =>
          have got : ((s.heap.push (noneIn b0)).push { cls := .type "list_iterator", data := .fields #[.ref l, .int 0 0] }).get? s.heap.objs.size = some (noneIn b0) := Heap.get?_push_of_some _ new0
          refine ⟨_, #[], 0, _, got, ⟨rfl, rfl, rfl⟩, rfl, (fun e he => by simp at he), (fun k => by simp [isIn]), (by decide), (by rfl), rfl⟩
        case last =>
          intro t3 mv so
          obtain ⟨g, gn, dr, tk, os⟩ := t3
          have e1 : gn = s.gens := mv.gens
          have e2 : dr = s.drawn := mv.drawn
          have e3 : os = s.os := mv.os
          subst e1
          subst e2
          subst e3
          show wpAny _ _ _ _ _ _
          refine wpAny_pure ?_
          show wpAny _ _ (ret Value.none) _ _ _
          refine wpAny_pure ⟨rfl, g, tk, rfl, so, fun b o e => ?_⟩
          have below : b < s.heap.objs.size := Heap.lt_size e
          refine mv.heap b o (fun q => ?_) (Heap.get?_push_of_some _ (Heap.get?_push_of_some _ e))
          rcases List.mem_cons.mp q with q | q
          · exact absurd q (Nat.ne_of_lt below)
          · have q2 := List.mem_singleton.mp q
            rw [z1] at q2
            exact absurd q2 (Nat.ne_of_lt (Nat.lt_succ_of_lt below))
      · cases r2 with
        | error e => exact hr2
        | ok fl2 =>
          cases fl2 with
          | next => exact (hr2 : False).elim
          | brk => exact (hr2 : False).elim
          | cont => exact (hr2 : False).elim
          | ret y =>
            obtain ⟨rfl, g, tk, rfl, so, keep⟩ := hr2
            repeat (any_goals (first | assumption | wp_step))
            exact h _ _ so keep
end
section
variable {prog : Program} {w : World} {A : Around} {E : Value → Shared → Prop} {s : Shared} {α : Type} [DecidableEq α] {knd : KeyKind prog w α}
set_option maxHeartbeats 3200000 in
theorem call_setOfT {l : Addr} {items : Array Value} (ks : List α) {Q : Value → Shared → Prop} (calm : A.handled = none) (at_l : s.heap.IsTuple l items) (size : items.size = ks.length) (few : ks.length + 1 < scanBound)
    (keys : ∀ (i : Nat) (v : Value), items[i]? = some v → ∃ k : α, ks[i]? = some k ∧ knd.is k v = true ∧ v.scannable = true)
    (h : ∀ (g : Heap) (tk : Nat), g.SetOf knd s.heap.objs.size (isIn ks) (dds ks).length → (∀ b o, s.heap.get? b = some o → g.get? b = some o) → Q (.ref s.heap.objs.size) { s with heap := g, toks := tk }) :
    wpAny (model prog w) A (call (.type "set") [.ref l]) Q E s := by
  obtain ⟨c0, tl0, mro0⟩ := F.called_set.mro
  have made0 := F.called_set.made
  have sub0 := F.called_set.sub
  refine wpAny_call (codeAny_of_tree ?_)
  show wpAny _ _ (callAny (.type "set") _) _ _ _
  refine wpAny_pure ⟨Code.quiet_builtin _ (by decide +kernel), codeAny_builtin F.entry_type_call ?_⟩
  rw [Around.under_plain (weight_type_call_type "set" [.ref l] []) rfl]
  have nt0 := F.called_set.notType
  have cc0 := F.called_set.canCreate
  have tc0 := F.typeCall_set_1 (.ref l)
  repeat (any_goals (first | assumption | wp_step))
  refine codeAny_mono (code_set_new_1 (.ref l) (E := E) (Q₁ := fun x t => ∃ b : Bool, x = .ref s.heap.objs.size ∧ t = { s with heap := s.heap.push (noneIn b) }) fun b => ⟨b, rfl, rfl⟩) fun r t hr => ?_
  cases r with
  | error e => exact hr
  | ok fl =>
    cases fl with
    | next => exact (hr : False).elim
    | brk => exact (hr : False).elim
    | cont => exact (hr : False).elim
    | ret x =>
      obtain ⟨b0, rfl, rfl⟩ := hr
      have new0 : (s.heap.push (noneIn b0)).get? s.heap.objs.size = some (noneIn b0) := Heap.get?_push_size _ rfl
      have isS : Shared.TypeIs { s with heap := s.heap.push (noneIn b0) } (.ref s.heap.objs.size) "set" := ⟨_, new0, rfl⟩
      have li0 := F.called_set.init.lookup
      have bi0 := F.called_set.init.bind (.ref s.heap.objs.size)
      repeat (any_goals (first | assumption | wp_step))
      refine codeAny_mono (codeAny_call_builtin (R := wants (fun y t2 => y = .none ∧ ∃ (g : Heap) (tk : Nat), t2 = { s with heap := g, toks := tk } ∧ g.SetOf knd s.heap.objs.size (isIn ks) (dds ks).length ∧ (∀ b o, s.heap.get? b = some o → g.get? b = some o)) E)
        F.called_set.init.plain F.entry_set_init (check_set_init_1 isS ?_)) fun r2 t2 hr2 => ?_
      · obtain ⟨ol, hol, cl0, nl, dl0⟩ := at_l
        obtain ⟨ocls, odict, odata, oslots⟩ := ol
        simp only at cl0 dl0
        subst cl0
        subst dl0
        have hol1 : (s.heap.push (noneIn b0)).get? l = some { cls := .type "tuple", dict := odict, data := .seq items nl, slots := oslots } := Heap.get?_push_of_some _ hol
        have notS := F.sub_tuple_set
        have notF := F.sub_tuple_frozenset
        have notD : (Value.type "tuple" == Value.type "dict") = false := by decide
        have at1 : (s.heap.push (noneIn b0)).IsTuple l items := ⟨_, hol1, rfl, nl, rfl⟩
        refine init_goes (b := b0) new0 hol1 notS notF notD ?_
        refine wpAny_pyIter_tuple at1 ?_
        refine wpAny_bind (wpAny_runValue ?_)
        have lt0 : l < s.heap.objs.size := Heap.lt_size hol
        have calm3 : A.in1.in1.in1.handled = none := by simp [calm]
        have z1 : (s.heap.push (noneIn b0)).objs.size = s.heap.objs.size + 1 := Heap.size_push ..
        have apart : l ≠ (s.heap.push (noneIn b0)).objs.size := by
          rw [z1]
          exact Nat.ne_of_lt (Nat.lt_succ_of_lt lt0)
        have off : s.heap.objs.size ∉ [(s.heap.push (noneIn b0)).objs.size, l] := by
          rw [z1]
          intro q
          rcases List.mem_cons.mp q with q | q
          · exact absurd q (Nat.ne_of_lt (Nat.lt_succ_self _))
          · exact absurd (List.mem_singleton.mp q) (Nat.ne_of_gt lt0)
        refine fill_set ((Walks.tuple calm3 _ l apart items).toS) s.heap.objs.size off ks size few keys (items.size - 0) 0 _ (by omega) (Nat.zero_le _) ⟨⟨_, Heap.get?_push_size _ rfl, rfl, rfl⟩, (at1.push _)⟩ ?first ?last
        case first =>
          have got : ((s.heap.push (noneIn b0)).push { cls := .type "tuple_iterator", data := .fields #[.ref l, .int 0 0] }).get? s.heap.objs.size = some (noneIn b0) := Heap.get?_push_of_some _ new0
          refine ⟨_, #[], 0, _, got, ⟨rfl, rfl, rfl⟩, rfl, (fun e he => by simp at he), (fun k => by simp [isIn]), (by decide), (by rfl), rfl⟩
        case last =>
          intro t3 mv so
          obtain ⟨g, gn, dr, tk, os⟩ := t3
          have e1 : gn = s.gens := mv.gens
          have e2 : dr = s.drawn := mv.drawn
          have e3 : os = s.os := mv.os
          subst e1
          subst e2
          subst e3
          show wpAny _ _ _ _ _ _
          refine wpAny_pure ?_
          show wpAny _ _ (ret Value.none) _ _ _
          refine wpAny_pure ⟨rfl, g, tk, rfl, so, fun b o e => ?_⟩
          have below : b < s.heap.objs.size := Heap.lt_size e
          refine mv.heap b o (fun q => ?_) (Heap.get?_push_of_some _ (Heap.get?_push_of_some _ e))
          rcases List.mem_cons.mp q with q | q
          · exact absurd q (Nat.ne_of_lt below)
          · have q2 := List.mem_singleton.mp q
            rw [z1] at q2
            exact absurd q2 (Nat.ne_of_lt (Nat.lt_succ_of_lt below))
      · cases r2 with
        | error e => exact hr2
        | ok fl2 =>
          cases fl2 with
          | next => exact (hr2 : False).elim
          | brk => exact (hr2 : False).elim
          | cont => exact (hr2 : False).elim
          | ret y =>
            obtain ⟨rfl, g, tk, rfl, so, keep⟩ := hr2
            repeat (any_goals (first | assumption | wp_step))
            exact h _ _ so keep
end
theorem key_at : ∀ {ks : List Key} {us : List Value}, Vals (ks.map kV) us → ∀ (i : Nat) (v : Value), us[i]? = some v → ∃ k, ks[i]? = some k ∧ RelV (kV k) v
  | [], _, .nil, i, v, h => by simp at h
  | k :: ks, _, .cons r t, 0, v, h => by
    cases h
    exact ⟨k, rfl, r⟩
  | k :: ks, _, .cons r t, i + 1, v, h => key_at t i v h
/-- len(set(x)): how many different keys -/
def tLenSetK (K : PySem.W.Frag) (ta : TE) : TE := fun σ H Q => ta σ H fun x G => ∃ (l : Addr) (ks : List Key), x = .ref l ∧ (SqL K G l (ks.map kV) ∨ SqT K G l (ks.map kV)) ∧ ks.length ≤ 4000 ∧ Q (.int ((dds ks).length : Nat)) G
theorem pe_lenSetK {X : Cx} {a : Expr} {ta : TE} {p p2 q pos : Pos} (hg : Gl X "len") (hm : X.mg "len" = none) (hg2 : Gl X "set") (hm2 : X.mg "set" = none) (ha : PE X a ta) (calm : X.calm = true := by rfl)
    (na : starEach [a] X.env = (false, eval a X.env) :: starEach [] X.env := by rfl) : PE X (.Call (.Name "len" p) [.Call (.Name "set" p2) [a] [] q] [] pos) (tLenSetK X.K ta) := by
  refine ⟨fun pins s σ H Q I h => Call_ (ld_blt I hg hm boot_len (PyProof.Rows.callWith_builtin1 (PyProof.Rows.args_cons ?_ rfl) rfl rfl))⟩
  refine Call_ (ld_blt I hg2 hm2 boot_set (PyProof.Rows.callWith_type1 (PyProof.Rows.args_cons (thn (ha.run pins s σ H _ I h) fun v s1 ⟨x, G, I1, r1, q1⟩ => PyProof.Rows.args_nil ?_) na) na rfl))
  obtain ⟨l, ks, rfl, hq, few, q1⟩ := q1
  cases r1
  have fin : ∀ (g : Heap) (tk : Nat), g.SetOf (mixKind X.prog X.w) s1.heap.objs.size (isIn ks) (dds ks).length → (∀ b o, s1.heap.get? b = some o → g.get? b = some o) →
      wpAny (model X.prog X.w) X.A (call (.builtin "len") [.ref s1.heap.objs.size]) (fun v s' => ∃ (y : V) (J : Hp), Inv X pins σ J s' ∧ RelV y v ∧ Q y J) X.xe { s1 with heap := g, toks := tk } := by
    intro g tk so keep
    obtain ⟨o, es, ep, t, ho, hex, hd, _, _, _, hf, hn⟩ := so
    have I2 : Inv X pins σ G { s1 with heap := g, toks := tk } := I1.kept keep
    have b1 := dds_len ks
    exact call_len_set ho hex hd hf (by rw [hn]; omega) ⟨.int ((dds ks).length : Nat), G, I2.tok _, ⟨_, by rw [hn]⟩, q1⟩
  rcases hq with hq | hq
  · obtain ⟨its, r, pl, hz⟩ := I1.list hq
    have el : its.toArray.size = ks.length := by rw [List.size_toArray, ← r.length, List.length_map]
    refine call_setOfL (knd := mixKind X.prog X.w) ks (I1.ok.hd calm) pl.isList el (by unfold scanBound; omega) (fun i v hv => ?_) fun g tk so keep => PyProof.Rows.args_nil (fin g tk so keep)
    obtain ⟨k, e1, e2⟩ := key_at r i v (by simpa using hv)
    exact ⟨k, e1, kV_is e2, key_scan e2⟩
  · obtain ⟨its, r, pl, hz⟩ := I1.tuple hq
    have el : its.toArray.size = ks.length := by rw [List.size_toArray, ← r.length, List.length_map]
    refine call_setOfT (knd := mixKind X.prog X.w) ks (I1.ok.hd calm) pl el (by unfold scanBound; omega) (fun i v hv => ?_) fun g tk so keep => PyProof.Rows.args_nil (fin g tk so keep)
    obtain ⟨k, e1, e2⟩ := key_at r i v (by simpa using hv)
    exact ⟨k, e1, kV_is e2, key_scan e2⟩
end Gu
namespace Gu
open PySem PySem.Spec PyProof.Rows L2
/-! ### plans as data, and filled in -/
def dat : V → PyData
  | .int i => .int i
  | .str z => .str z
  | _ => .none
/-- a place or a single sign -/
def Plain (n : Nat) (x : V) : Prop := (∃ i : Int, x = .int i ∧ 0 ≤ i ∧ i < (n : Int)) ∨ ∃ c : Nat, x = .str (one c) ∧ c < 128
theorem Plain.fine {n : Nat} {x : V} (hn : n ≤ 500) (h : Plain n x) : Fine 0 70 (dat x) := by
  rcases h with ⟨i, rfl, h0, h1⟩ | ⟨c, rfl, hc⟩
  · exact Fine.int (by omega)
  · exact (Fine.str (z := one c) (W := 1) (fun d hd => by
      rw [List.mem_singleton.mp (show d ∈ [c] from hd)]
      exact Nat.lt_of_lt_of_le hc (by decide)) (Nat.le_refl _)).mono (Nat.le_refl _) (by decide)
theorem Plain.dp {K : PySem.W.Frag} {H : Hp} {n : Nat} {x : V} (h : Plain n x) : Dp K H x (dat x) := by
  rcases h with ⟨i, rfl, _⟩ | ⟨c, rfl, _⟩
  · exact .int i
  · exact .str _
theorem dp_all {K : PySem.W.Frag} {H : Hp} {n : Nat} : ∀ {xs : List V}, (∀ x ∈ xs, Plain n x) → DpAll K H xs (xs.map dat)
  | [], _ => .nil
  | x :: xs, h => .cons (h x (List.mem_cons_self ..)).dp (dp_all fun y hy => h y (List.mem_cons_of_mem _ hy))
theorem ones_plain {n : Nat} {cs : List Nat} (h : Signs cs) : ∀ x ∈ ones cs, Plain n x := by
  intro x hx
  obtain ⟨c, hc, rfl⟩ := List.mem_map.mp hx
  have a : ∀ c ∈ signs.cps.toList, c < 128 := by decide +kernel
  exact .inr ⟨c, rfl, a c (h c hc)⟩
theorem cutsV_all {p : V → Prop} : ∀ (rs : List Rec) {xs : List V}, (∀ r ∈ rs, ∀ x ∈ ones r.z.cps.toList, p x) → (∀ x ∈ xs, p x) → ∀ x ∈ cutsV rs xs, p x
  | [], _, _, h => h
  | r :: rs, xs, hz, h => by
    refine cutsV_all rs (xs := cut r.l.toNat r.h.toNat r.t.toNat (ones r.z.cps.toList) xs) (fun q hq => hz q (List.mem_cons_of_mem _ hq)) fun x hx => ?_
    unfold cut at hx
    split at hx
    · exact h x hx
    · rcases List.mem_append.mp hx with hx | hx
      · rcases List.mem_append.mp hx with hx | hx
        · exact h x (List.mem_of_mem_take hx)
        · exact hz r (List.mem_cons_self ..) x hx
      · exact h x (List.mem_of_mem_drop hx)
theorem plan_plain {rs : List Rec} (hf : ∀ r ∈ rs, r.fit) {n : Nat} : ∀ x ∈ cutsV rs (rgV 0 n), Plain n x :=
  cutsV_all rs (fun r hr => ones_plain (isTxt_signs (hf r hr).z)) fun x hx => by
    unfold rgV at hx
    obtain ⟨i, hi, rfl⟩ := List.mem_map.mp hx
    have := List.mem_range.mp hi
    exact .inl ⟨_, rfl, by omega, by omega⟩
theorem plan_fine {rs : List Rec} (hf : ∀ r ∈ rs, r.fit) {n : Nat} (hn : n ≤ 500) : Fine 60 100000 (.list [.tuple ((cutsV rs (rgV 0 n)).map dat), .tuple ((cutsV rs (rgV 0 n)).map dat)]) := by
  have a : FineAll 0 70 ((cutsV rs (rgV 0 n)).map dat) := .of fun d hd => by
    obtain ⟨x, hx, rfl⟩ := List.mem_map.mp hd
    exact (plan_plain hf x hx).fine hn
  have l : ((cutsV rs (rgV 0 n)).map dat).length ≤ 500 := by
    rw [List.length_map, cutsV_length, rgV_length]
    exact lens_le rs hf (by omega)
  have b := a.tup
  have c : Fine 1 35500 (.tuple ((cutsV rs (rgV 0 n)).map dat)) := b.mono (Nat.le_refl _) (by omega)
  have d : FineAll 1 35500 [.tuple ((cutsV rs (rgV 0 n)).map dat), .tuple ((cutsV rs (rgV 0 n)).map dat)] := .of fun e he => by
    simp only [List.mem_cons, List.not_mem_nil, or_false, or_self] at he
    rw [he]
    exact c
  exact d.list.mono (by decide) (by show 2 * 35501 ≤ 100000; decide)
def fill (cs : List Nat) : V → V
  | .int i => .str (one (cs.getD i.toNat 0))
  | v => v
theorem fill_ones (cs ds : List Nat) : (ones ds).map (fill cs) = ones ds := by
  unfold ones
  rw [List.map_map]
  rfl
theorem fill_cuts (cs : List Nat) : ∀ (rs : List Rec) (xs : List V), (cutsV rs xs).map (fill cs) = cutsV rs (xs.map (fill cs))
  | [], _ => rfl
  | r :: rs, xs => by
    show (cutsV rs (cut r.l.toNat r.h.toNat r.t.toNat (ones r.z.cps.toList) xs)).map (fill cs) = cutsV rs (cut r.l.toNat r.h.toNat r.t.toNat (ones r.z.cps.toList) (xs.map (fill cs)))
    rw [fill_cuts cs rs, ← cut_map, fill_ones]
theorem fill_range (cs : List Nat) : (rgV 0 (cs.length : Nat)).map (fill cs) = ones cs := by
  unfold rgV ones
  rw [List.map_map]
  refine List.ext_getElem? fun j => ?_
  rw [List.getElem?_map, List.getElem?_map]
  simp only [Int.sub_zero, Int.toNat_natCast]
  by_cases hj : j < cs.length
  · rw [List.getElem?_range hj, List.getElem?_eq_getElem hj]
    show some (V.str (one (cs.getD (0 + (j : Int)).toNat 0))) = some (V.str (one cs[j]))
    rw [Int.zero_add, Int.toNat_natCast, List.getD_eq_getElem?_getD, List.getElem?_eq_getElem hj]
    rfl
  · rw [List.getElem?_eq_none (by rw [List.length_range]; omega), List.getElem?_eq_none (by omega)]
    rfl
theorem at_of' {α : Type} {xs : List α} {i : Int} {j : Nat} {v : α} (e : i = (j : Int)) (h : xs[j]? = some v) : atI xs i = some v := by
  rw [e]
  exact atI_nat h
def idl {α : Type} (l : List α) : List α := l
end Gu
namespace Gu
open PySem PySem.Spec PyProof.Rows L2
/-! ### plans that differ, and the least text that tells -/
def planV (rs : List Rec) (n : Nat) : List V := cutsV rs (rgV 0 (n : Int))
theorem fill_plan (rs : List Rec) (cs : List Nat) : (planV rs cs.length).map (fill cs) = ones (cuts rs cs) := by
  unfold planV
  rw [fill_cuts, fill_range, cutsV_ones]
theorem map_injL {α β : Type} {f : α → β} (h : ∀ x y, f x = f y → x = y) : ∀ {xs ys : List α}, xs.map f = ys.map f → xs = ys
  | [], [], _ => rfl
  | [], _ :: _, e => nomatch e
  | _ :: _, [], e => nomatch e
  | x :: xs, y :: ys, e => by
    have e := List.cons.inj e
    rw [h _ _ e.1, map_injL h e.2]
theorem ones_inj {cs ds : List Nat} (h : ones cs = ones ds) : cs = ds := by
  refine map_injL (fun a b e => ?_) h
  have := congrArg (fun z : Str => z.cps.toList) (V.str.inj e)
  exact List.singleton_inj.mp this
theorem shown_iff (rs ss : List Rec) (cs : List Nat) : cuts rs cs = cuts ss cs ↔ (planV rs cs.length).map (fill cs) = (planV ss cs.length).map (fill cs) := by
  rw [fill_plan, fill_plan]
  exact ⟨fun h => by rw [h], ones_inj⟩
theorem map_cuts {f : V → V} (hf : ∀ z, f (.str z) = .str z) : ∀ (rs : List Rec) (xs : List V), cutsV rs (xs.map f) = (cutsV rs xs).map f
  | [], _ => rfl
  | r :: rs, xs => by
    have e : ones r.z.cps.toList = (ones r.z.cps.toList).map f := by
      unfold ones
      rw [List.map_map]
      refine List.map_congr_left fun c _ => ?_
      exact (hf _).symm
    show cutsV rs (cut r.l.toNat r.h.toNat r.t.toNat (ones r.z.cps.toList) (xs.map f)) = (cutsV rs (cut r.l.toNat r.h.toNat r.t.toNat (ones r.z.cps.toList) xs)).map f
    conv => lhs; rw [e]
    rw [cut_map, map_cuts hf rs]
/-! far lengths -/
def far (n : Nat) : V → V
  | .int i => .int (if i < 40 then i else i + ((n : Int) - 80))
  | v => v
theorem far_inj {n : Nat} (h : 80 ≤ n) {x y : V} (e : far n x = far n y) : x = y := by
  cases x <;> cases y <;> first | exact e | cases e | skip
  have e := V.int.inj e
  congr 1
  split at e <;> split at e <;> omega
theorem rg_get (n j : Nat) : (rgV 0 (n : Int))[j]? = if j < n then some (V.int (j : Int)) else none := by
  unfold rgV
  rw [List.getElem?_map, Int.sub_zero, Int.toNat_natCast]
  split
  · next h =>
    rw [List.getElem?_range h]
    show some (V.int (0 + (j : Int))) = _
    rw [Int.zero_add]
  · next h =>
    rw [List.getElem?_eq_none (by rw [List.length_range]; omega)]
    rfl
theorem rg_len (n : Nat) : (rgV 0 (n : Int)).length = n := by
  rw [rgV_length]
  omega
theorem cut_far {r : Rec} (f : r.fit) {n : Nat} (hn : 80 ≤ n) : cut r.l.toNat r.h.toNat r.t.toNat (ones r.z.cps.toList) (rgV 0 (n : Int)) = (cut r.l.toNat r.h.toNat r.t.toNat (ones r.z.cps.toList) (rgV 0 ((80 : Nat) : Int))).map (far n) := by
  have f1 := f.l
  have f2 := f.h
  have f3 := f.t
  unfold cut
  rw [rg_len, rg_len, if_neg (by omega), if_neg (by omega), List.map_append, List.map_append]
  congr 1
  · congr 1
    · refine List.ext_getElem? fun j => ?_
      rw [List.getElem?_map, List.getElem?_take, List.getElem?_take]
      split
      · rw [rg_get, rg_get, if_pos (by omega), if_pos (by omega)]
        show _ = some (V.int _)
        rw [if_pos (by omega)]
      · rfl
    · unfold ones
      rw [List.map_map]
      rfl
  · refine List.ext_getElem? fun j => ?_
    rw [List.getElem?_map, List.getElem?_drop, List.getElem?_drop, rg_get, rg_get]
    by_cases hj : j < r.t.toNat
    · rw [if_pos (by omega), if_pos (by omega)]
      show _ = some (V.int _)
      rw [if_neg (by omega)]
      congr 2
      omega
    · rw [if_neg (by omega), if_neg (by omega)]
      rfl
theorem plan_far {rs : List Rec} (hf : ∀ r ∈ rs, r.fit) (h1 : 1 ≤ rs.length) {n : Nat} (hn : 80 ≤ n) : planV rs n = (planV rs 80).map (far n) := by
  cases rs with
  | nil => cases h1
  | cons r rs =>
    show cutsV rs (cut r.l.toNat r.h.toNat r.t.toNat (ones r.z.cps.toList) (rgV 0 (n : Int))) = (cutsV rs (cut r.l.toNat r.h.toNat r.t.toNat (ones r.z.cps.toList) (rgV 0 ((80 : Nat) : Int)))).map (far n)
    rw [cut_far (hf r (List.mem_cons_self ..)) hn, map_cuts (fun z => rfl)]
theorem map_inj {f : V → V} (h : ∀ x y, f x = f y → x = y) {xs ys : List V} (e : xs.map f = ys.map f) : xs = ys := map_injL h e
/-- what is so up to 80 is so for all lengths -/
theorem alike_all {rs ss : List Rec} (hr : ∀ r ∈ rs, r.fit) (hs : ∀ r ∈ ss, r.fit) (r1 : 1 ≤ rs.length) (s1 : 1 ≤ ss.length) (h : ∀ n, n ≤ 80 → planV rs n = planV ss n) (n : Nat) : planV rs n = planV ss n := by
  rcases Nat.lt_or_ge 80 n with hn | hn
  · rw [plan_far hr r1 (by omega), plan_far hs s1 (by omega), h 80 (by omega)]
  · exact h n hn
/-! least texts -/
def dots (n : Nat) : List Nat := List.replicate n 46
def dotp (n p : Nat) : List Nat := List.replicate p 46 ++ 48 :: List.replicate (n - p - 1) 46
theorem dots_len (n : Nat) : (dots n).length = n := List.length_replicate ..
theorem dotp_len {n p : Nat} (h : p < n) : (dotp n p).length = n := by
  unfold dotp
  rw [List.length_append, List.length_cons, List.length_replicate, List.length_replicate]
  omega
theorem dots_at {n i : Nat} (h : i < n) : (dots n).getD i 0 = 46 := by
  unfold dots
  rw [List.getD_eq_getElem?_getD, List.getElem?_replicate, if_pos h]
  rfl
theorem dotp_at {n p i : Nat} (hp : p < n) (h : i < n) : (dotp n p).getD i 0 = if i = p then 48 else 46 := by
  unfold dotp
  rw [List.getD_eq_getElem?_getD]
  rcases Nat.lt_trichotomy i p with h1 | h1 | h1
  · rw [List.getElem?_append_left (by rw [List.length_replicate]; exact h1), List.getElem?_replicate, if_pos h1, if_neg (by omega)]
    rfl
  · rw [List.getElem?_append_right (by rw [List.length_replicate]; omega), List.length_replicate, h1, Nat.sub_self, if_pos rfl]
    rfl
  · rw [List.getElem?_append_right (by rw [List.length_replicate]; omega), List.length_replicate, if_neg (by omega)]
    obtain ⟨k, hk⟩ : ∃ k, i - p = k + 1 := ⟨i - p - 1, by omega⟩
    rw [hk, List.getElem?_cons_succ, List.getElem?_replicate, if_pos (by omega)]
    rfl
/-- at some place one has the sign p and the other something else -/
def Diff (xs ys : List V) (p : Nat) : Prop := ∃ (i : Nat) (x y : V), xs[i]? = some x ∧ ys[i]? = some y ∧ x ≠ y ∧ (x = V.int (p : Int) ∨ y = V.int (p : Int))
def flat0 : V → V
  | .int _ => .str (one 46)
  | v => v
theorem fill_dots {n : Nat} {x : V} (h : Plain n x) : fill (dots n) x = flat0 x := by
  rcases h with ⟨i, rfl, h0, h1⟩ | ⟨c, rfl, _⟩
  · show V.str (one _) = V.str (one 46)
    rw [dots_at (by omega)]
  · rfl
theorem fill_dotp {n p : Nat} (hp : p < n) {x : V} (h : Plain n x) (ne : x ≠ .int (p : Int)) : fill (dotp n p) x = fill (dots n) x := by
  rcases h with ⟨i, rfl, h0, h1⟩ | ⟨c, rfl, _⟩
  · show V.str (one _) = V.str (one _)
    rw [dots_at (by omega), dotp_at hp (by omega), if_neg]
    intro e
    exact ne (by rw [← e, Int.toNat_of_nonneg h0])
  · rfl
theorem fill_here {n p : Nat} (hp : p < n) : fill (dotp n p) (.int (p : Int)) = .str (one 48) := by
  show V.str (one _) = _
  rw [Int.toNat_natCast, dotp_at hp hp, if_pos rfl]
theorem one_ne : ¬ V.str (one 48) = V.str (one 46) := by
  intro h
  have := congrArg (fun z : Str => z.cps.toList) (V.str.inj h)
  exact absurd this (by decide)
section
variable {n : Nat} {xs ys : List V} (px : ∀ x ∈ xs, Plain n x) (py : ∀ y ∈ ys, Plain n y) (e0 : xs.map (fill (dots n)) = ys.map (fill (dots n)))
include px py e0
theorem same_at {i : Nat} {x y : V} (hx : xs[i]? = some x) (hy : ys[i]? = some y) : fill (dots n) x = fill (dots n) y := by
  have a := congrArg (fun l : List V => l[i]?) e0
  simp only [List.getElem?_map, hx, hy, Option.map_some] at a
  exact Option.some.inj a
theorem not_diff {p : Nat} (hp : p < n) (h : ¬ Diff xs ys p) : xs.map (fill (dotp n p)) = ys.map (fill (dotp n p)) := by
  have el : xs.length = ys.length := by
    have := congrArg List.length e0
    rw [List.length_map, List.length_map] at this
    exact this
  refine List.ext_getElem? fun i => ?_
  rw [List.getElem?_map, List.getElem?_map]
  by_cases hi : i < xs.length
  · have hx := List.getElem?_eq_getElem hi
    have hi2 : i < ys.length := by omega
    have hy := List.getElem?_eq_getElem hi2
    rw [hx, hy]
    show some _ = some _
    by_cases e : xs[i] = ys[i]
    · rw [e]
    · have n1 : xs[i] ≠ .int (p : Int) := fun q => h ⟨i, _, _, hx, hy, e, .inl q⟩
      have n2 : ys[i] ≠ .int (p : Int) := fun q => h ⟨i, _, _, hx, hy, e, .inr q⟩
      rw [fill_dotp hp (px _ (List.getElem_mem hi)) n1, fill_dotp hp (py _ (List.getElem_mem hi2)) n2, same_at px py e0 hx hy]
  · rw [List.getElem?_eq_none (by omega), List.getElem?_eq_none (by omega)]
theorem is_diff {p : Nat} (hp : p < n) (h : Diff xs ys p) : xs.map (fill (dotp n p)) ≠ ys.map (fill (dotp n p)) := by
  intro e
  obtain ⟨i, x, y, hx, hy, ne, h⟩ := h
  have a := congrArg (fun l : List V => l[i]?) e
  simp only [List.getElem?_map, hx, hy, Option.map_some] at a
  have a := Option.some.inj a
  have b := same_at px py e0 hx hy
  have qx := px x (List.mem_of_getElem? hx)
  have qy := py y (List.mem_of_getElem? hy)
  rcases h with rfl | rfl
  · rw [fill_here hp, fill_dotp hp qy (fun q => ne q.symm), ← b, fill_dots qx] at a
    exact one_ne a
  · rw [fill_here hp, fill_dotp hp qx ne, b, fill_dots qy] at a
    exact one_ne a.symm
theorem some_diff (ne : xs ≠ ys) : ∃ p, p < n ∧ Diff xs ys p := by
  have el : xs.length = ys.length := by
    have := congrArg List.length e0
    rw [List.length_map, List.length_map] at this
    exact this
  obtain ⟨i, hi, h⟩ : ∃ i, ∃ hi : i < xs.length, ¬ xs[i] = ys[i] := Decidable.byContradiction fun q => ne (List.ext_getElem el fun i h1 h2 => Decidable.byContradiction fun z => q ⟨i, h1, z⟩)
  have hx := List.getElem?_eq_getElem hi
  have hi2 : i < ys.length := by omega
  have hy := List.getElem?_eq_getElem hi2
  have b := same_at px py e0 hx hy
  have qx := px _ (List.getElem_mem hi)
  have qy := py _ (List.getElem_mem hi2)
  rcases id qx with ⟨j, ej, j0, j1⟩ | ⟨c, ec, _⟩
  · exact ⟨j.toNat, by omega, i, _, _, hx, hy, h, .inl (by rw [ej, Int.toNat_of_nonneg j0])⟩
  · rcases id qy with ⟨j, ej, j0, j1⟩ | ⟨d, ed, _⟩
    · exact ⟨j.toNat, by omega, i, _, _, hx, hy, h, .inr (by rw [ej, Int.toNat_of_nonneg j0])⟩
    · rw [fill_dots qx, fill_dots qy, ec, ed] at b
      exact absurd (by rw [ec, ed]; exact b) h
end
/-! the places that differ, as they are gathered -/
def isI : V → List Int
  | .int i => [i]
  | _ => []
def dpl : List V → List V → List Int
  | x :: xs, y :: ys => (if x = y then [] else isI x ++ isI y) ++ dpl xs ys
  | _, _ => []
theorem dpl_snoc : ∀ {xs ys : List V} (x y : V), xs.length = ys.length → dpl (xs ++ [x]) (ys ++ [y]) = dpl xs ys ++ (if x = y then [] else isI x ++ isI y)
  | [], [], x, y, _ => by
    show (if x = y then [] else isI x ++ isI y) ++ dpl [] [] = [] ++ _
    show _ ++ [] = [] ++ _
    rw [List.append_nil, List.nil_append]
  | a :: xs, b :: ys, x, y, h => by
    show (if a = b then [] else isI a ++ isI b) ++ dpl (xs ++ [x]) (ys ++ [y]) = ((if a = b then [] else isI a ++ isI b) ++ dpl xs ys) ++ _
    rw [dpl_snoc x y (by simpa using h), List.append_assoc]
theorem mem_isI {x : V} {i : Int} : i ∈ isI x ↔ x = .int i := by
  cases x <;> simp [isI, eq_comm]
theorem mem_dpl : ∀ {xs ys : List V} {i : Int}, i ∈ dpl xs ys ↔ ∃ (j : Nat) (x y : V), xs[j]? = some x ∧ ys[j]? = some y ∧ x ≠ y ∧ (x = V.int i ∨ y = V.int i)
  | [], ys, i => by
    refine ⟨fun h => ?_, fun ⟨j, x, y, hx, _⟩ => by simp at hx⟩
    unfold dpl at h
    cases h
  | a :: xs, [], i => by
    refine ⟨fun h => ?_, fun ⟨j, x, y, _, hy, _⟩ => by simp at hy⟩
    unfold dpl at h
    cases h
  | a :: xs, b :: ys, i => by
    show i ∈ (if a = b then [] else isI a ++ isI b) ++ dpl xs ys ↔ _
    rw [List.mem_append, mem_dpl (xs := xs) (ys := ys)]
    constructor
    · rintro (h | ⟨j, x, y, hx, hy, h⟩)
      · split at h
        · cases h
        · next ne => exact ⟨0, a, b, rfl, rfl, ne, (List.mem_append.mp h).imp mem_isI.mp mem_isI.mp⟩
      · exact ⟨j + 1, x, y, hx, hy, h⟩
    · rintro ⟨j, x, y, hx, hy, ne, h⟩
      cases j with
      | zero =>
        cases (Option.some.inj hx : a = x)
        cases (Option.some.inj hy : b = y)
        refine .inl ?_
        rw [if_neg ne]
        exact List.mem_append.mpr (h.imp mem_isI.mpr mem_isI.mpr)
      | succ j => exact .inr ⟨j, x, y, hx, hy, ne, h⟩
/-- the least text of n signs that two rows show differently -/
def LeastAt (rs ss : List Rec) (n : Nat) (cs : List Nat) : Prop :=
  (cs = dots n ∧ cuts rs (dots n) ≠ cuts ss (dots n)) ∨ ∃ p, p < n ∧ cs = dotp n p ∧ cuts rs (dots n) = cuts ss (dots n) ∧ cuts rs (dotp n p) ≠ cuts ss (dotp n p) ∧ ∀ q, p < q → q < n → cuts rs (dotp n q) = cuts ss (dotp n q)
theorem LeastAt.one {rs ss : List Rec} {n : Nat} {cs ds : List Nat} (a : LeastAt rs ss n cs) (b : LeastAt rs ss n ds) : cs = ds := by
  rcases a with ⟨rfl, a⟩ | ⟨p, hp, rfl, a0, a1, a2⟩
  · rcases b with ⟨rfl, _⟩ | ⟨q, _, _, b0, _⟩
    · rfl
    · exact absurd b0 a
  · rcases b with ⟨_, b⟩ | ⟨q, hq, rfl, b0, b1, b2⟩
    · exact absurd a0 b
    · rcases Nat.lt_trichotomy p q with h | h | h
      · exact absurd (a2 q h hq) b1
      · rw [h]
      · exact absurd (b2 p h hp) a1
theorem LeastAt.len {rs ss : List Rec} {n : Nat} {cs : List Nat} (a : LeastAt rs ss n cs) : cs.length = n := by
  rcases a with ⟨rfl, _⟩ | ⟨p, hp, rfl, _⟩
  · exact dots_len n
  · exact dotp_len hp
theorem LeastAt.ne {rs ss : List Rec} {n : Nat} {cs : List Nat} (a : LeastAt rs ss n cs) : cuts rs cs ≠ cuts ss cs := by
  rcases a with ⟨rfl, h⟩ | ⟨p, hp, rfl, _, h, _⟩ <;> exact h
theorem LeastAt.sg {rs ss : List Rec} {n : Nat} {cs : List Nat} (a : LeastAt rs ss n cs) : Signs cs := by
  have d : 46 ∈ signs.cps.toList := by decide +kernel
  have z : 48 ∈ signs.cps.toList := by decide +kernel
  rcases a with ⟨rfl, _⟩ | ⟨p, hp, rfl, _⟩
  · intro c hc
    rw [(List.mem_replicate.mp hc).2]
    exact d
  · intro c hc
    rcases List.mem_append.mp hc with hc | hc
    · rw [(List.mem_replicate.mp hc).2]
      exact d
    · rcases List.mem_cons.mp hc with rfl | hc
      · exact z
      · rw [(List.mem_replicate.mp hc).2]
        exact d
theorem LeastAt.symm {rs ss : List Rec} {n : Nat} {cs : List Nat} (a : LeastAt rs ss n cs) : LeastAt ss rs n cs := by
  rcases a with ⟨rfl, h⟩ | ⟨p, hp, rfl, a0, a1, a2⟩
  · exact .inl ⟨rfl, fun e => h e.symm⟩
  · exact .inr ⟨p, hp, rfl, a0.symm, fun e => a1 e.symm, fun q h1 h2 => (a2 q h1 h2).symm⟩
section
variable {rs ss : List Rec} (hr : ∀ r ∈ rs, r.fit) (hs : ∀ r ∈ ss, r.fit) {n : Nat}
include hr hs
theorem dots_iff : cuts rs (dots n) = cuts ss (dots n) ↔ (planV rs n).map (fill (dots n)) = (planV ss n).map (fill (dots n)) := by
  have := shown_iff rs ss (dots n)
  rw [dots_len] at this
  exact this
theorem dotp_iff {p : Nat} (hp : p < n) : cuts rs (dotp n p) = cuts ss (dotp n p) ↔ (planV rs n).map (fill (dotp n p)) = (planV ss n).map (fill (dotp n p)) := by
  have := shown_iff rs ss (dotp n p)
  rw [dotp_len hp] at this
  exact this
/-- the last place that differs tells it -/
theorem least_last (e0 : cuts rs (dots n) = cuts ss (dots n)) {m : Int} (h : Top m (dpl (planV rs n) (planV ss n))) : ∃ p : Nat, m = (p : Int) ∧ p < n ∧ LeastAt rs ss n (dotp n p) := by
  have px : ∀ x ∈ planV rs n, Plain n x := plan_plain hr
  have py : ∀ y ∈ planV ss n, Plain n y := plan_plain hs
  have f0 := (dots_iff hr hs).mp e0
  obtain ⟨j, x, y, hx, hy, ne, h1⟩ := mem_dpl.mp h.1
  obtain ⟨p, rfl, hp⟩ : ∃ p : Nat, m = (p : Int) ∧ p < n := by
    have a : Plain n (.int m) := by
      rcases h1 with rfl | rfl
      · exact px _ (List.mem_of_getElem? hx)
      · exact py _ (List.mem_of_getElem? hy)
    rcases a with ⟨i, e, i0, i1⟩ | ⟨c, e, _⟩
    · cases e
      exact ⟨m.toNat, by omega, by omega⟩
    · cases e
  refine ⟨p, rfl, hp, .inr ⟨p, hp, rfl, e0, fun e => is_diff px py f0 hp ⟨j, x, y, hx, hy, ne, h1⟩ ((dotp_iff hr hs hp).mp e), fun q h2 h3 => (dotp_iff hr hs h3).mpr (not_diff px py f0 h3 fun ⟨i, u, v, hu, hv, nuv, hh⟩ => ?_)⟩⟩
  have := h.2 (q : Int) (mem_dpl.mpr ⟨i, u, v, hu, hv, nuv, hh⟩)
  omega
theorem dpl_some (e0 : cuts rs (dots n) = cuts ss (dots n)) (ne : planV rs n ≠ planV ss n) : dpl (planV rs n) (planV ss n) ≠ [] := by
  obtain ⟨p, hp, i, x, y, hx, hy, h⟩ := some_diff (plan_plain hr) (plan_plain hs) ((dots_iff hr hs).mp e0) ne
  intro e
  have : (p : Int) ∈ dpl (planV rs n) (planV ss n) := mem_dpl.mpr ⟨i, x, y, hx, hy, h⟩
  rw [e] at this
  cases this
/-- rows whose plans are the same show the same -/
theorem plan_show {cs : List Nat} (h : planV rs cs.length = planV ss cs.length) : cuts rs cs = cuts ss cs := (shown_iff rs ss cs).mpr (by rw [h])
end
/-- the first length at which the plans differ -/
structure First (rs ss : List Rec) (n : Nat) : Prop where
  ne : planV rs n ≠ planV ss n
  eq : ∀ m, m < n → planV rs m = planV ss m
theorem First.one {rs ss : List Rec} {n m : Nat} (a : First rs ss n) (b : First rs ss m) : n = m := by
  rcases Nat.lt_trichotomy n m with h | h | h
  · exact absurd (b.eq n h) a.ne
  · exact h
  · exact absurd (a.eq m h) b.ne
theorem First.symm {rs ss : List Rec} {n : Nat} (a : First rs ss n) : First ss rs n := ⟨fun e => a.ne e.symm, fun m h => (a.eq m h).symm⟩
/-- what is told of two rows -/
def Told (rs ss : List Rec) (v : V) : Prop := (v = .non ∧ ∀ n, planV rs n = planV ss n) ∨ ∃ n y, v = .str y ∧ n ≤ 80 ∧ First rs ss n ∧ LeastAt rs ss n y.cps.toList
theorem Told.one {rs ss : List Rec} {u v : V} (a : Told rs ss u) (b : Told rs ss v) : u = v := by
  rcases a with ⟨rfl, a⟩ | ⟨n, y, rfl, _, a, a1⟩
  · rcases b with ⟨rfl, _⟩ | ⟨m, z, _, _, b, _⟩
    · rfl
    · exact absurd (a m) b.ne
  · rcases b with ⟨_, b⟩ | ⟨m, z, rfl, _, b, b1⟩
    · exact absurd (b n) a.ne
    · cases a.one b
      rw [str_ext (a1.one b1)]
theorem Told.symm {rs ss : List Rec} {v : V} (a : Told rs ss v) : Told ss rs v := by
  rcases a with ⟨rfl, a⟩ | ⟨n, y, rfl, h, a, a1⟩
  · exact .inl ⟨rfl, fun n => (a n).symm⟩
  · exact .inr ⟨n, y, rfl, h, a.symm, a1.symm⟩
/-! signs of what is filled in -/
def fillN (cs : List Nat) : V → Nat
  | .int i => cs.getD i.toNat 0
  | .str z => z.cps.toList.getD 0 0
  | _ => 0
theorem fillN_one {n : Nat} {cs : List Nat} {x : V} (h : Plain n x) : fill cs x = .str (one (fillN cs x)) := by
  rcases h with ⟨i, rfl, _⟩ | ⟨c, rfl, _⟩
  · rfl
  · rfl
theorem fillN_map {n : Nat} {cs : List Nat} {xs : List V} (h : ∀ x ∈ xs, Plain n x) : xs.map (fill cs) = ones (xs.map (fillN cs)) := by
  unfold ones
  rw [List.map_map]
  exact List.map_congr_left fun x hx => fillN_one (h x hx)
end Gu
namespace Gu
open PySem PySem.Spec PyProof.Rows L2
theorem stF_same {K : PySem.W.Frag} {H G : Hp} {l : Addr} {xs : List V} (a : Same H G) (h : SqT K H l xs) : SqT K G l xs := by
  rcases h with (h | ⟨o, h⟩) | h
  · exact .inl (.inl (a _ _ h))
  · exact .inl (.inr ⟨o, a _ _ h⟩)
  · exact .inr h
theorem same_offF {H J : Hp} {M : Addr} {o : HO} (s : Same H J) (n : H M = none) : Same H (upd J M o) := fun b x e => by
  rw [upd_ne (ne_of_none e n)]
  exact s b x e
theorem takeF_next {α : Type} {qs : List α} {i : Nat} {q : α} (h : qs[i]? = some q) : qs.take (i + 1) = qs.take i ++ [q] := by
  rw [List.take_add_one, h]
  rfl
theorem RowAt.fits {C : Addr} {H : Hp} {a : Addr} {rs : List (Addr × Rec)} (h : RowAt C H a rs) : ∀ r ∈ rs.map (·.2), r.fit := fun r hr => by
  obtain ⟨q, hq, rfl⟩ := List.mem_map.mp hr
  exact (h.sh q hq).2
end Gu
namespace Gu
open PySem PySem.Spec PyProof.Rows L2
/-! text * int, however often -/
def rRepN : R2 := fun x y H Q => ∃ z k, x = .str z ∧ y = .int k ∧ 0 ≤ k ∧ k ≤ 1000 ∧ z.length ≤ 1000 ∧ ∀ y : Str, y.cps.toList = (List.replicate k.toNat z.cps.toList).flatten → Q (.str y) H
theorem fold_repN (z : Array Nat) : ∀ (k : Nat) (acc : Array Nat), ((List.replicate k z).foldl (· ++ ·) acc).toList = acc.toList ++ (List.replicate k z.toList).flatten
  | 0, acc => by simp
  | k + 1, acc => by
    rw [List.replicate_succ, List.foldl_cons, fold_repN z k, List.replicate_succ, List.flatten_cons, Array.toList_append, List.append_assoc]
theorem op_mul_strN {X : Cx} : OpR X (binaryOp .Mult) rRepN := by
  intro pins s σ H x y v u Q I rx ry h
  obtain ⟨z, k, rfl, rfl, k0, k1, z1, q⟩ := h
  obtain ⟨t, rfl⟩ := rx
  obtain ⟨t', rfl⟩ := ry
  refine PySem.P.mul_str ?_ (fun h1 _ => Int.not_lt.mpr ((Int.le_ediv_iff_mul_le (by omega)).mpr ?_)) (fun _ _ => decide_eq_false ?_) ?_
  · rw [Bool.or_eq_false_iff]
    exact ⟨decide_eq_false (by omega), decide_eq_false (by omega)⟩
  · have m1 : (z.length : Int) * k ≤ 1000 * 1000 := Int.mul_le_mul (by omega) k1 (by omega) (by omega)
    omega
  · have m2 : z.length * k.toNat ≤ 1000 * 1000 := Nat.mul_le_mul z1 (by omega)
    rw [sizeLine_eq]
    omega
  · split
    · next h1 =>
      refine ⟨by decide, .str Str.empty, H, I.tok _, ⟨_, rfl⟩, q _ ?_⟩
      rw [show k.toNat = 0 by omega]
      rfl
    · split
      · next h1 h2 =>
        refine ⟨.str z, H, I, ⟨_, rfl⟩, q _ ?_⟩
        rcases Bool.or_eq_true _ _ ▸ h2 with e | e
        · have e := eq_of_beq e
          rw [e]
          simp
        · have e : z.cps.toList.length = 0 := eq_of_beq e
          rw [List.eq_nil_of_length_eq_zero e]
          simp
      · have m2 : z.length * k.toNat ≤ 1000 * 1000 := Nat.mul_le_mul z1 (by omega)
        have e : ((List.replicate k.toNat z.cps).foldl (· ++ ·) #[]).toList = (List.replicate k.toNat z.cps.toList).flatten := by
          rw [fold_repN]
          rfl
        refine ⟨?_, .str ⟨(List.replicate k.toNat z.cps).foldl (· ++ ·) #[]⟩, H, I.tok _, ⟨_, rfl⟩, q _ e⟩
        show ((List.replicate k.toNat z.cps).foldl (· ++ ·) #[]).size ≤ _
        rw [← Array.length_toList, e, PyProof.Rows.lm_len_rep_flat]
        show k.toNat * z.length ≤ sizeLine
        rw [Nat.mul_comm, sizeLine_eq]
        omega
/-- a call without arguments -/
theorem pe_own0 {X : Cx} {k j : Nat} {x : Str} {sp : Sp} {p pos : Pos} (c : Cal X.prog X.w X.K X.mg X.base k x [] sp) (hr : Room j X.A) (hk : k ≤ j) (hg : Gl X x) (hdb : (x == ("__debug__" : Str)) = false := by decide) : PE X (.Call (.Name x p) [] [] pos) (tCall sp [] E0 tNil) := by
  obtain ⟨f, fd, F, hm, kp, b, _⟩ := c.ex
  exact pe_call0 F (hr.mono hk) hg hm kp b .nil pass0 hdb
def rIsiK (K : PySem.W.Frag) : List V → Hp → VK → Prop := rIsi K
section
variable {P : Program} {w : World} {K : PySem.W.Frag} {mg : Str → Option Value} {base : Heap} {C : Addr}
theorem Isa.str_int {H : Hp} {z : Str} : Isa K H (.str z) "int" false := ⟨_, .base (.str z), kit_ty (by decide +kernel)⟩
/-! ### telling_lengths -/
def spTelling : Sp := fun vs H Q _ => vs = [] ∧ ∀ (T : Addr), H T = none → Q (.ref T) (upd H T (.lst (rgV 0 ((81 : Nat) : Int))))
theorem cal_telling (B : Bi mg) (D : At K mg "telling_lengths" s_telling_lengths ps_telling_lengths) : Cal P w K mg base 1 "telling_lengths" ps_telling_lengths spTelling := by
  refine D.cal sc_telling_lengths (fun vs H Q E h => ?_) (fun f cdv A outer s H vs Q E hr h => ?_)
  · obtain ⟨rfl, _⟩ := h
    rfl
  · obtain ⟨rfl, k⟩ := h
    refine ⟨_, (pss_one (ps_ret (pe_listRg (by rfl) (by rfl) B.list (prg_1 (by rfl) B.range (pe_op op_add (pe_op op_mul pe_int (pe_cst B.MOST_SIGNS (by rfl))) pe_int))))), ?_⟩
    exact ⟨_, _, rfl, rfl, .inl ⟨by decide, by decide⟩, _, _, rfl, rfl, _, rfl, RgOk.of_le (by decide) (by decide) (by decide) (by decide), fun T nT => k T nT⟩
/-! ### filled_in -/
def spFilled (K : PySem.W.Frag) : Sp := fun vs H Q _ => ∃ (a : Addr) (xs : List V) (z : Str), vs = [.ref a, .str z] ∧ SqT K H a xs ∧ (∀ x ∈ xs, Plain z.cps.toList.length x) ∧ xs.length ≤ 600 ∧ z.cps.toList.length ≤ 600 ∧ ∀ (y : Str) (G : Hp), Same H G → y.cps.toList = xs.map (fillN z.cps.toList) → Q (.str y) G
/-! ### differing_places -/
def spDiffP (K : PySem.W.Frag) : Sp := fun vs H Q _ => ∃ (a b : Addr) (xs ys : List V) (n : Nat), vs = [.ref a, .ref b] ∧ SqT K H a xs ∧ SqT K H b ys ∧ xs.length = ys.length ∧ xs.length ≤ 600 ∧ (∀ x ∈ xs, Plain n x) ∧ (∀ y ∈ ys, Plain n y) ∧ ∀ (p : Addr) (G : Hp), G p = some (.lst ((dpl xs ys).map V.int)) → Same H G → Q (.ref p) G
theorem scal_plain {n m : Nat} {x y : V} (hx : Plain n x) (hy : Plain m y) : scal x y = true := by
  rcases hx with ⟨i, rfl, _⟩ | ⟨c, rfl, _⟩ <;> rcases hy with ⟨j, rfl, _⟩ | ⟨d, rfl, _⟩ <;> rfl
theorem isI_len (x : V) : (isI x).length ≤ 1 := by
  cases x <;> simp [isI]
theorem dpl_len : ∀ xs ys : List V, (dpl xs ys).length ≤ 2 * xs.length
  | [], _ => Nat.le_refl _
  | _ :: _, [] => Nat.zero_le _
  | x :: xs, y :: ys => by
    have a := isI_len x
    have b := isI_len y
    have c := dpl_len xs ys
    show ((if x = y then [] else isI x ++ isI y) ++ dpl xs ys).length ≤ 2 * (xs.length + 1)
    rw [List.length_append]
    split
    · rw [List.length_nil]
      omega
    · rw [List.length_append]
      omega
/-! ### least_difference -/
def spLeastD (K : PySem.W.Frag) : Sp := fun vs H Q _ => ∃ (a b : Addr) (rs ss : List Rec) (n : Nat), vs = [.ref a, .ref b, .int (n : Int)] ∧ SqT K H a (planV rs n) ∧ SqT K H b (planV ss n) ∧ (∀ r ∈ rs, r.fit) ∧ (∀ r ∈ ss, r.fit) ∧ n ≤ 80 ∧ planV rs n ≠ planV ss n ∧ ∀ (y : Str) (G : Hp), Same H G → LeastAt rs ss n y.cps.toList → Q (.str y) G
theorem plan_len {rs : List Rec} (hf : ∀ r ∈ rs, r.fit) {n : Nat} (hn : n ≤ 500) : (planV rs n).length ≤ 500 := by
  unfold planV
  rw [cutsV_length, rg_len]
  exact lens_le rs hf hn
theorem rep_dot {z y : Str} (hz : z.cps.toList = [46]) {k : Nat} (e : y.cps.toList = (List.replicate k z.cps.toList).flatten) : y.cps.toList = List.replicate k 46 := by
  rw [e, hz]
  clear e
  induction k with
  | zero => rfl
  | succ k ih => rw [List.replicate_succ, List.flatten_cons, ih]; rfl
def spRaised : Sp := fun vs H Q _ => ∃ (n i : Nat), vs = [.int (n : Int), .int (i : Int)] ∧ i < n ∧ n ≤ 500 ∧ ∀ y : Str, y.cps.toList = List.replicate i 46 ++ 48 :: List.replicate (n - i - 1) 46 → Q (.str y) H
theorem cal_raised (B : Bi mg) (D : At K mg "least_raised_at" s_least_raised_at ps_least_raised_at) : Cal P w K mg base 1 "least_raised_at" ps_least_raised_at spRaised := by
  refine D.cal sc_least_raised_at (fun vs H Q E h => ?_) (fun f cdv A outer s H vs Q E hr h => ?_)
  · obtain ⟨n, i, rfl, _⟩ := h
    rfl
  · obtain ⟨n, i, rfl, hi, n5, k⟩ := h
    have s0 : atI signs.cps.toList 0 = some 46 := by decide +kernel
    have s1 : atI signs.cps.toList 1 = some 48 := by decide +kernel
    refine ⟨_, (pss_one (ps_ret (pe_op op_add_str (pe_op op_add_str (pe_op op_mul_strN (pe_ix ix_str (pe_cst B.SIGNS (by rfl)) pe_int (fun _ _ => rfl)) (pv 1)) (pe_ix ix_str (pe_cst B.SIGNS (by rfl)) pe_int (fun _ _ => rfl))) (pe_op op_mul_strN (pe_ix ix_str (pe_cst B.SIGNS (by rfl)) pe_int (fun _ _ => rfl)) (pe_op op_sub (pe_op op_sub (pv 0) (pv 1)) pe_int))))), ?_⟩
    refine ⟨signs, 0, 46, rfl, rfl, by decide +kernel, s0, _, rfl, one 46, _, rfl, rfl, by omega, by omega, by decide, fun y1 e1 => ?_⟩
    have e1 : y1.cps.toList = List.replicate i 46 := rep_dot (z := one 46) rfl (by rw [Int.toNat_natCast] at e1; exact e1)
    have l1 : y1.length = i := by
      show y1.cps.toList.length = i
      rw [e1, List.length_replicate]
    refine ⟨signs, 1, 48, rfl, rfl, by decide +kernel, s1, _, _, rfl, rfl, Nat.le_of_lt (small1000 (by show y1.length + 1 ≤ 1000; omega)), ?_⟩
    refine ⟨signs, 0, 46, rfl, rfl, by decide +kernel, s0, _, rfl, _, rfl, _, _, rfl, rfl, _, _, rfl, rfl, one 46, _, rfl, rfl, by omega, by omega, by decide, fun y2 e2 => ?_⟩
    have e2 : y2.cps.toList = List.replicate (n - i - 1) 46 := rep_dot (z := one 46) rfl (by rw [e2]; congr 2; omega)
    have l2 : y2.length = n - i - 1 := by
      show y2.cps.toList.length = _
      rw [e2, List.length_replicate]
    refine ⟨_, _, rfl, rfl, ?_, k _ ?_⟩
    · have l3 : (y1 ++ (one 48)).length = i + 1 := by
        show (y1 ++ (one 48)).cps.toList.length = _
        rw [app_cps, List.length_append, e1, List.length_replicate]
        rfl
      exact Nat.le_of_lt (small1000 (by show (y1 ++ (one 48)).length + y2.length ≤ 1000; omega))
    · rw [app_cps, app_cps, e1, e2]
      show List.replicate i 46 ++ [48] ++ List.replicate (n - i - 1) 46 = _
      rw [List.append_assoc]
      rfl
end
end Gu
namespace Gu
open PySem PySem.Spec PyProof.Rows L2
/-! ### plans compared -/
theorem eqv_one {n m : Nat} {x y : V} (hx : Plain n x) (hy : Plain m y) : PyData.eqv (dat x) (dat y) = decide (x = y) := by
  rcases hx with ⟨i, rfl, _⟩ | ⟨c, rfl, _⟩ <;> rcases hy with ⟨j, rfl, _⟩ | ⟨d, rfl, _⟩
  · rw [dec_int]
    rfl
  · rw [decide_eq_false (fun h => by cases h)]
    rfl
  · rw [decide_eq_false (fun h => by cases h)]
    rfl
  · rw [dec_str]
    rfl
theorem eqv_plain {n m : Nat} : ∀ {xs ys : List V}, (∀ x ∈ xs, Plain n x) → (∀ y ∈ ys, Plain m y) → PyData.eqvAll (xs.map dat) (ys.map dat) = decide (xs = ys)
  | [], [], _, _ => rfl
  | [], _ :: _, _, _ => rfl
  | _ :: _, [], _, _ => rfl
  | x :: xs, y :: ys, hx, hy => by
    show (PyData.eqv (dat x) (dat y) && PyData.eqvAll (xs.map dat) (ys.map dat)) = _
    rw [eqv_one (hx x (List.mem_cons_self ..)) (hy y (List.mem_cons_self ..)), eqv_plain (fun z hz => hx z (List.mem_cons_of_mem _ hz)) fun z hz => hy z (List.mem_cons_of_mem _ hz)]
    by_cases e : x = y
    · subst e
      by_cases f : xs = ys
      · subst f
        rw [decide_eq_true rfl, decide_eq_true rfl, decide_eq_true rfl]
        rfl
      · rw [decide_eq_false f, decide_eq_false (fun h => f (List.cons.inj h).2), Bool.and_false]
    · rw [decide_eq_false (fun h => e (List.cons.inj h).1), decide_eq_false e, Bool.false_and]
theorem lay_plain {n : Nat} : ∀ {xs : List V}, (∀ x ∈ xs, Plain n x) → PyData.canLayAll0 (xs.map dat) = true ∧ PyData.depthAll (xs.map dat) = 0
  | [], _ => ⟨rfl, rfl⟩
  | x :: xs, h => by
    have b := lay_plain fun z hz => h z (List.mem_cons_of_mem _ hz)
    have a : (dat x).canLay0 = true ∧ (dat x).depth = 0 := by
      rcases h x (List.mem_cons_self ..) with ⟨i, rfl, _⟩ | ⟨c, rfl, hc⟩
      · exact ⟨rfl, rfl⟩
      · refine ⟨?_, rfl⟩
        show (one c).cps.all _ = true
        rw [← Array.all_toList, List.all_eq_true]
        intro d hd
        rw [List.mem_singleton.mp (show d ∈ [c] from hd)]
        exact decide_eq_true (Nat.lt_of_lt_of_le hc (by decide))
    refine ⟨?_, ?_⟩
    · show ((dat x).canLay0 && PyData.canLayAll0 (xs.map dat)) = true
      rw [a.1, b.1]
      rfl
    · show max (dat x).depth (PyData.depthAll (xs.map dat)) = 0
      rw [a.2, b.2]
      rfl
theorem shaped_plainT {n : Nat} {xs : List V} (h : ∀ x ∈ xs, Plain n x) : SeqAt.shaped (.tuple (xs.map dat)) = true := by
  have b := lay_plain h
  unfold SeqAt.shaped
  rw [Bool.and_eq_true]
  refine ⟨b.1, decide_eq_true ?_⟩
  show PyData.depthAll (xs.map dat) + 1 ≤ 64
  omega
theorem shaped_plainL {n : Nat} {xs : List V} (h : ∀ x ∈ xs, Plain n x) : SeqAt.shaped (.list (xs.map dat)) = true := by
  have b := lay_plain h
  unfold SeqAt.shaped
  rw [Bool.and_eq_true]
  refine ⟨b.1, decide_eq_true ?_⟩
  show PyData.depthAll (xs.map dat) + 1 ≤ 64
  omega
theorem ne_planT {K : PySem.W.Frag} {H : Hp} {a b : Addr} {n m : Nat} {xs ys : List V} {Q : VK} (ha : SqT K H a xs) (hb : SqT K H b ys) (px : ∀ x ∈ xs, Plain n x) (py : ∀ y ∈ ys, Plain m y) (q : Q (.bl (!decide (xs = ys))) H) : rNeD K (.ref a) (.ref b) H Q :=
  ⟨_, _, .tup ha (dp_all px), .tup hb (dp_all py), shaped_plainT px, shaped_plainT py, by
    rw [show PyData.eqv (.tuple (xs.map dat)) (.tuple (ys.map dat)) = decide (xs = ys) from eqv_plain px py]
    exact q⟩
theorem ne_planL {K : PySem.W.Frag} {H : Hp} {a b : Addr} {n m : Nat} {xs ys : List V} {Q : VK} (ha : SqL K H a xs) (hb : SqL K H b ys) (px : ∀ x ∈ xs, Plain n x) (py : ∀ y ∈ ys, Plain m y) (q : Q (.bl (!decide (xs = ys))) H) : rNeD K (.ref a) (.ref b) H Q :=
  ⟨_, _, .lst ha (dp_all px), .lst hb (dp_all py), shaped_plainL px, shaped_plainL py, by
    rw [show PyData.eqv (.list (xs.map dat)) (.list (ys.map dat)) = decide (xs = ys) from eqv_plain px py]
    exact q⟩
section
variable {P : Program} {w : World} {K : PySem.W.Frag} {mg : Str → Option Value} {base : Heap} {C : Addr}
/-! ### first_difference -/
def spFirstD (C : Addr) : Sp := fun vs H Q _ => ∃ (a b : Addr) (rs ss : List (Addr × Rec)), vs = [.ref a, .ref b] ∧ RowAt C H a rs ∧ RowAt C H b ss ∧ 1 ≤ rs.length ∧ 1 ≤ ss.length ∧ ∀ (v : V) (G : Hp), Same H G → Told (rs.map (·.2)) (ss.map (·.2)) v → Q v G
end
end Gu
namespace Gu
open PySem PySem.Spec PyProof.Rows L2
def spRight : Sp := fun vs H Q _ => ∃ (p : Addr), vs = [.ref p] ∧ Pot H p ∧ ∀ G, Ladled p H G → Q (.bl true) G
end Gu
namespace Gu
open PySem PySem.Spec PyProof.Rows L2
/-! ### answers written out -/
/-- None, a bool, or a short text of signs -/
inductive Ans : V → Prop
  | non : Ans .non
  | bl (b : Bool) : Ans (.bl b)
  | str {y : Str} (l : y.cps.toList.length ≤ 500) (s : Signs y.cps.toList) : Ans (.str y)
def adat : V → PyData
  | .bl b => .bool b
  | .str y => .str y
  | _ => .none
theorem Ans.dp {K : PySem.W.Frag} {H : Hp} {v : V} (h : Ans v) : Dp K H v (adat v) := by
  cases h with
  | non => exact .non
  | bl b => exact .bl b
  | str l s => exact .str _
theorem Ans.fine {v : V} (h : Ans v) : Fine 0 500 (adat v) := by
  cases h with
  | non => exact Fine.none.mono (Nat.le_refl _) (by decide)
  | bl b => exact (Fine.bool b).mono (Nat.le_refl _) (by decide)
  | str l s =>
    have a : ∀ c ∈ signs.cps.toList, c < 16 ^ 8 := by decide +kernel
    exact Fine.str (fun c hc => a c (s c hc)) l
theorem ans_all {K : PySem.W.Frag} {H : Hp} : ∀ {vs : List V}, (∀ v ∈ vs, Ans v) → DpAll K H vs (vs.map adat)
  | [], _ => .nil
  | v :: vs, h => .cons (h v (List.mem_cons_self ..)).dp (ans_all fun u hu => h u (List.mem_cons_of_mem _ hu))
theorem ans_fine {vs : List V} (l : vs.length ≤ 100) (h : ∀ v ∈ vs, Ans v) : Fine 60 100000 (.list (vs.map adat)) := by
  have a : FineAll 0 500 (vs.map adat) := .of fun d hd => by
    obtain ⟨v, hv, rfl⟩ := List.mem_map.mp hd
    exact (h v hv).fine
  refine a.list.mono (by decide) ?_
  rw [List.length_map]
  have := Nat.mul_le_mul_right (500 + 1) l
  omega
theorem Told.ans {rs ss : List Rec} {v : V} (h : Told rs ss v) : Ans v := by
  rcases h with ⟨rfl, _⟩ | ⟨n, y, rfl, hn, _, L⟩
  · exact .non
  · exact .str (by rw [L.len]; omega) L.sg
theorem Told.self {rs : List Rec} {v : V} (h : Told rs rs v) : v = .non := by
  rcases h with ⟨rfl, _⟩ | ⟨n, y, rfl, _, f, _⟩
  · rfl
  · exact absurd rfl f.ne
end Gu
namespace Gu
open PySem PySem.Spec PyProof.Rows L2
/-! ### (number, text) < (number, text) -/
def pairLt (m n : Int) (y z : Str) : Bool := if (m == n) = true then (if (y == z) = true then false else decide (y.cps.toList < z.cps.toList)) else decide (m < n)
def rLtP (K : PySem.W.Frag) : R2 := fun x y H Q => ∃ (a b : Addr) (m n : Int) (u v : Str), x = .ref a ∧ y = .ref b ∧ SqT K H a [.int m, .str u] ∧ SqT K H b [.int n, .str v] ∧ Q (.bl (pairLt m n u v)) H
theorem op_ltP {X : Cx} (hu : X.A.units < cLine) : OpR X (compareOp .Lt) (rLtP X.K) := by
  intro pins s σ H x y v u Q I rx ry h
  obtain ⟨a, b, m, n, y1, z1, rfl, rfl, ha, hb, q⟩ := h
  cases rx
  cases ry
  obtain ⟨its, r1, p1, _⟩ := I.tuple ha
  obtain ⟨its2, r2, p2, _⟩ := I.tuple hb
  cases r1 with
  | cons a1 r1 =>
    cases r1 with
    | cons a2 r1 =>
      cases r1
      cases r2 with
      | cons b1 r2 =>
        cases r2 with
        | cons b2 r2 =>
          cases r2
          obtain ⟨t1, rfl⟩ := a1
          obtain ⟨t2, rfl⟩ := a2
          obtain ⟨t3, rfl⟩ := b1
          obtain ⟨t4, rfl⟩ := b2
          have R := Ob.RcOp.tuples_lt (A := X.A) (s := s) (e := fun j => if j = 0 then (m == n) else (y1 == z1)) (r := fun j => if j = 0 then decide (m < n) else decide (y1.cps.toList < z1.cps.toList)) p1 p2 hu (fun j h1 h2 => by
            match j, h1, h2 with
            | 0, _, _ => exact SeqAt.EqAt.int_int _ _ _ _
            | 1, _, _ => exact SeqAt.EqAt.str_str _ _ _ _) (fun j h1 h2 _ => by
            match j, h1, h2 with
            | 0, _, _ => exact Ob.RcOp.lt_int _ _ _ _
            | 1, _, _ => exact fun _ _ _ _ h => PyProof.Rows.lt_str h)
          have e : Ob.lexAt (fun j => if j = 0 then (m == n) else (y1 == z1)) (fun j => if j = 0 then decide (m < n) else decide (y1.cps.toList < z1.cps.toList)) (decide ((#[Value.int m t1, Value.str y1 t2] : Array Value).size < (#[Value.int n t3, Value.str z1 t4] : Array Value).size)) 0 2 = pairLt m n y1 z1 := by
            rw [Ob.lexAt_succ, Ob.lexAt_succ, Ob.lexAt_zero]
            rfl
          exact R X.prog X.w X.xe (EP X pins σ Q) (by
            show EP X pins σ Q (.bool (Ob.lexAt _ _ _ 0 2)) s
            rw [e]
            exact ⟨.bl _, H, I, rfl, q⟩)
theorem pairLt_iff {m n : Int} {y z : Str} (h : pairLt m n y z = true) : m < n ∨ (m = n ∧ y.cps.toList < z.cps.toList) := by
  unfold pairLt at h
  split at h
  · next e =>
    split at h
    · cases h
    · exact .inr ⟨eq_of_beq e, of_decide_eq_true h⟩
  · exact .inl (of_decide_eq_true h)
/-! ### smaller texts are shown alike -/
theorem sign_low {c : Nat} (h : c ∈ signs.cps.toList) : c = 46 ∨ 48 ≤ c := by
  have a : ∀ c ∈ signs.cps.toList, c = 46 ∨ 48 ≤ c := by decide +kernel
  exact a c h
theorem not_dots : ∀ (n : Nat) (ds : List Nat), Signs ds → ds.length = n → ¬ ds < List.replicate n 46
  | 0, ds, _, l, h => by
    rw [List.eq_nil_of_length_eq_zero l] at h
    exact absurd h (by decide)
  | n + 1, [], _, l, _ => by cases l
  | n + 1, d :: ds, sd, l, h => by
    rw [List.replicate_succ, List.cons_lt_cons_iff] at h
    have a := sign_low (sd d (List.mem_cons_self ..))
    rcases h with h | ⟨_, h⟩
    · omega
    · exact not_dots n ds (fun c hc => sd c (List.mem_cons_of_mem _ hc)) (by simpa using l) h
theorem low_dotp : ∀ (p k : Nat) (ds : List Nat), Signs ds → ds.length = p + 1 + k → ds < List.replicate p 46 ++ 48 :: List.replicate k 46 → ∀ i, i ≤ p → ds[i]? = some 46
  | 0, k, [], _, l, _, _, _ => by
    rw [List.length_nil] at l
    omega
  | 0, k, d :: ds, sd, l, h, i, hi => by
    have a := sign_low (sd d (List.mem_cons_self ..))
    have h : d :: ds < 48 :: List.replicate k 46 := h
    rw [List.cons_lt_cons_iff] at h
    rcases h with h | ⟨_, h⟩
    · rw [show i = 0 by omega, show d = 46 by omega]
      rfl
    · exact absurd h (not_dots k ds (fun c hc => sd c (List.mem_cons_of_mem _ hc)) (by rw [List.length_cons] at l; omega))
  | p + 1, k, [], _, l, _, _, _ => by
    rw [List.length_nil] at l
    omega
  | p + 1, k, d :: ds, sd, l, h, i, hi => by
    have a := sign_low (sd d (List.mem_cons_self ..))
    rw [List.replicate_succ, List.cons_append, List.cons_lt_cons_iff] at h
    rcases h with h | ⟨rfl, h⟩
    · omega
    · cases i with
      | zero => rfl
      | succ i =>
        rw [List.getElem?_cons_succ]
        exact low_dotp p k ds (fun c hc => sd c (List.mem_cons_of_mem _ hc)) (by rw [List.length_cons] at l; omega) h i (by omega)
theorem smaller_same {rs ss : List Rec} (hr : ∀ r ∈ rs, r.fit) (hs : ∀ r ∈ ss, r.fit) {n : Nat} {cs ds : List Nat} (L : LeastAt rs ss n cs) (dl : ds.length = n) (sd : Signs ds) (lt : ds < cs) : cuts rs ds = cuts ss ds := by
  rcases L with ⟨rfl, _⟩ | ⟨p, hp, rfl, e0, _, high⟩
  · exact absurd lt (not_dots n ds sd dl)
  · have low := low_dotp p (n - p - 1) ds sd (by omega) lt
    have px : ∀ x ∈ planV rs n, Plain n x := plan_plain hr
    have py : ∀ y ∈ planV ss n, Plain n y := plan_plain hs
    have f0 := (dots_iff hr hs).mp e0
    have el : (planV rs n).length = (planV ss n).length := by
      have := congrArg List.length f0
      rw [List.length_map, List.length_map] at this
      exact this
    have few : ∀ q : Nat, q < n → Diff (planV rs n) (planV ss n) q → q ≤ p := fun q hq d => Decidable.byContradiction fun z => is_diff px py f0 hq d ((dotp_iff hr hs hq).mp (high q (by omega) hq))
    have at46 : ∀ i : Int, 0 ≤ i → i.toNat ≤ p → fill ds (.int i) = fill (dots n) (.int i) := fun i i0 ip => by
      show V.str (one _) = V.str (one _)
      rw [dots_at (by omega), List.getD_eq_getElem?_getD, low i.toNat ip]
      rfl
    rw [shown_iff, dl]
    refine List.ext_getElem? fun i => ?_
    rw [List.getElem?_map, List.getElem?_map]
    by_cases hi : i < (planV rs n).length
    · have hx := List.getElem?_eq_getElem hi
      have hi2 : i < (planV ss n).length := by omega
      have hy := List.getElem?_eq_getElem hi2
      rw [hx, hy]
      show some _ = some _
      have b := same_at px py f0 hx hy
      have qx := px _ (List.getElem_mem hi)
      have qy := py _ (List.getElem_mem hi2)
      generalize (planV rs n)[i] = x at hx b qx
      generalize (planV ss n)[i] = y at hy b qy
      by_cases e : x = y
      · rw [e]
      · have fx : fill ds x = fill (dots n) x := by
          rcases qx with ⟨j, rfl, j0, j1⟩ | ⟨c, rfl, _⟩
          · exact at46 j j0 (few j.toNat (by omega) ⟨i, _, _, hx, hy, e, .inl (by rw [Int.toNat_of_nonneg j0])⟩)
          · rfl
        have fy : fill ds y = fill (dots n) y := by
          rcases qy with ⟨j, rfl, j0, j1⟩ | ⟨c, rfl, _⟩
          · exact at46 j j0 (few j.toNat (by omega) ⟨i, _, _, hx, hy, e, .inr (by rw [Int.toNat_of_nonneg j0])⟩)
          · rfl
        rw [fx, fy, b]
    · rw [List.getElem?_eq_none (by omega), List.getElem?_eq_none (by omega)]
/-- what is told, of a smaller text -/
theorem Told.smaller {rs ss : List Rec} (hr : ∀ r ∈ rs, r.fit) (hs : ∀ r ∈ ss, r.fit) {y z : Str} (h : Told rs ss (.str y)) (sz : Signs z.cps.toList) (lt : pairLt z.length y.length z y = true) : cuts rs z.cps.toList = cuts ss z.cps.toList := by
  rcases h with ⟨e, _⟩ | ⟨n, y', e, _, f, L⟩
  · cases e
  · cases e
    have yl : y.length = n := L.len
    have zl : z.length = z.cps.toList.length := rfl
    rcases pairLt_iff lt with h | ⟨h1, h2⟩
    · exact plan_show hr hs (f.eq _ (by omega))
    · exact smaller_same hr hs L (by omega) sz h2
/-- rows that are alike are unlike a third one for the same text -/
theorem Told.alike {rs ss os : List Rec} (hr : ∀ r ∈ rs, r.fit) (hs : ∀ r ∈ ss, r.fit) (e : ∀ n, planV rs n = planV ss n) {v : V} (h : Told rs os v) : Told ss os v := by
  have c : ∀ cs : List Nat, cuts ss cs = cuts rs cs := fun cs => (plan_show hr hs (e cs.length)).symm
  rcases h with ⟨rfl, h⟩ | ⟨n, y, rfl, hn, f, L⟩
  · exact .inl ⟨rfl, fun n => (e n).symm.trans (h n)⟩
  · refine .inr ⟨n, y, rfl, hn, ⟨fun q => f.ne ((e n).trans q), fun m hm => (e m).symm.trans (f.eq m hm)⟩, ?_⟩
    rcases L with ⟨a, b⟩ | ⟨p, hp, a, b0, b1, b2⟩
    · exact .inl ⟨a, by rw [c]; exact b⟩
    · exact .inr ⟨p, hp, a, by rw [c]; exact b0, by rw [c]; exact b1, fun q h1 h2 => by rw [c]; exact b2 q h1 h2⟩
theorem Told.non_all {rs ss : List Rec} {v : V} (h : Told rs ss v) (e : v = .non) : ∀ n, planV rs n = planV ss n := by
  rcases h with ⟨_, h⟩ | ⟨n, y, rfl, _⟩
  · exact h
  · cases e
end Gu
namespace Gu
open PySem PySem.Spec PyProof.Rows L2
theorem ToldsAt.off {H : Hp} {D p : Addr} {ps : List (Addr × Rec)} (h : ToldsAt H D ps) (hp : Pot H p) (l : 1 ≤ ps.length) : D ≠ p := fun e => by
  subst e
  obtain ⟨x, y, z, e⟩ := hp
  have a := h.ls.symm.trans e
  cases ps with
  | nil => cases l
  | cons q ps => cases a
theorem same_len {ps rs : List (Addr × Rec)} (e : rs.map (·.2) = ps.map (·.2)) : rs.length = ps.length := by
  have := congrArg List.length e
  rw [List.length_map, List.length_map] at this
  exact this
end Gu
namespace Gu
open PySem PySem.Spec PyProof.Rows L2
/-! ### zip of a tuple and a text -/
/-- the tuple at a as it stands at each turn, with the signs of y, in new pairs -/
def ItzS (K : PySem.W.Frag) (a : Addr) (y : Str) : It where
  go := fun i H => ∃ (xs : List V) (x : V) (c : Nat), SqT K H a xs ∧ xs[i]? = some x ∧ y.cps[i]? = some c
  yld := fun i H v G => ∃ T x c, v = .ref T ∧ H T = none ∧ G = upd H T (.tup [x, .str ⟨#[c]⟩]) ∧ (∀ xs, SqT K H a xs → xs[i]? = some x) ∧ y.cps[i]? = some c
  stop := fun i H => ∃ xs : List V, SqT K H a xs ∧ i ≤ xs.length ∧ i ≤ y.cps.size ∧ (i = xs.length ∨ i = y.cps.size)
theorem turn_zipS {P : Program} {w : World} {K : PySem.W.Frag} {es : List Expr} {kk : Nat} {tp : Pos} {a z TI TO i1 i2 : Addr} {y : Str} {t : Tok} (S : ZipSep2 z TI TO i1 i2 [i1, a] [i2]) :
    Turn P w K (.Tuple es kk tp) (ItzS K a y) [z, TI, TO, i1, i2] z (fun i h => IsZip h z TI TO .none ∧ IsTupOf2 h TI (.ref i1) (.ref i2) ∧ (∃ u v, IsTupOf2 h TO u v) ∧ h.IsTupleIter i1 a i ∧ h.IsStrIter i2 (strIterType y) y t i) where
  mem := List.mem_cons_self ..
  obj := fun i h st c hc => by
    obtain ⟨hz, hTI, ⟨u, v, hTO⟩, ⟨o1, e1, _, d1⟩, ⟨o2, e2, _, d2⟩⟩ := st
    simp only [List.mem_cons, List.not_mem_nil, or_false] at hc
    rcases hc with rfl | rfl | rfl | rfl | rfl
    · exact ⟨_, hz, fun v q => nomatch q⟩
    · exact ⟨_, hTI, fun v q => nomatch q⟩
    · exact ⟨_, hTO, fun v q => nomatch q⟩
    · exact ⟨o1, e1, fun v q => by rw [d1] at q; cases q⟩
    · exact ⟨o2, e2, fun v q => by rw [d2] at q; cases q⟩
  keep := fun i h g st k => by
    obtain ⟨hz, hTI, ⟨u, v, hTO⟩, h1, h2⟩ := st
    exact ⟨k z (by simp) _ hz, k TI (by simp) _ hTI, ⟨u, v, k TO (by simp) _ hTO⟩, h1.at fun o q => k i1 (by simp) o q, by
      obtain ⟨o, e, c, d⟩ := h2
      exact ⟨o, k i2 (by simp) o e, c, d⟩⟩
  item := by
    intro X hP hw hK hc i pins s σ H E I hf st hg
    subst hP hw hK
    obtain ⟨hz, hTI, ⟨u0, v0, hTO⟩, h1, h2⟩ := st
    obtain ⟨xs, x, c, hq, hx, hc0⟩ := hg
    obtain ⟨its, rv, p1, _⟩ := I.tuple hq
    obtain ⟨u, hu, ru⟩ := rv.get hx
    have p1' : s.heap.IsTuple a its.toArray := p1
    have nai : a ≠ i1 := fun e => by
      obtain ⟨o1, g1, c1, _⟩ := p1'
      obtain ⟨o2, g2, c2, _⟩ := h1
      rw [e] at g1
      cases g1.symm.trans g2
      exact absurd (Value.type.inj (c1.symm.trans c2)) (by decide)
    have hd : X.A.in1.handled = none := I.ok.hd hc
    have hzl : z < s.heap.objs.size := Heap.lt_size hz
    have il : i < its.toArray.size := by
      have := (List.getElem?_eq_some_iff.mp hu).1
      simpa using this
    have iy : i < y.cps.size := (Array.getElem?_eq_some_iff.mp hc0).1
    refine wpAny_pyNext_zipD2_item S (Draws.tuple hd i1 a nai its.toArray) (Draws.text hd i2 y t) hz hTI hTO ⟨h1, p1'⟩ h2 il iy fun x1 x2 h' tk y1 y2 b1 b2 d1 d2 b5 b6 b7 => ?_
    obtain rfl : x1 = u := by
      have : its[i]? = some x1 := by simpa using y1
      rw [hu] at this
      exact (Option.some.inj this).symm
    obtain ⟨c', tc, hc1, rfl⟩ := y2
    obtain rfl : c' = c := Option.some.inj (hc1.symm.trans hc0)
    refine ⟨_, rfl, wpAny_letOwnedTupleGo_zip (s := { s with heap := h', toks := tk }) b1 fun h'' z'' sb => ?_⟩
    have hT2 : h''.get? s.heap.objs.size = some { cls := .type "tuple", data := .seq #[x1, .str ⟨#[c']⟩ tc] } := (sb.2 _ (Nat.ne_of_gt hzl)).trans b5
    have nw : ObjOk X.prog X.w (upd H s.heap.objs.size (.tup [x, .str ⟨#[c']⟩])) h'' s.heap.objs.size (.tup [x, .str ⟨#[c']⟩]) := ⟨by show 2 ≤ sizeLine; decide, [x1, .str ⟨#[c']⟩ tc], .cons ru (.cons ⟨_, rfl⟩ .nil), ⟨_, hT2, rfl, _, rfl⟩⟩
    have I1 : Inv X pins σ (upd H s.heap.objs.size (.tup [x, .str ⟨#[c']⟩])) { s with heap := h'', toks := tk } :=
      I.turnedNew (ch := [z, TI, TO, i1, i2]) (fun c o hb q => (sb.2 c (fun q' => hb (by simp [q']))).trans (b7 c o (fun q' => hb (by simp [q'])) (fun q' => hb (by simp [q'])) (fun q' => hb (by simp [q'])) (fun q' => hb (by simp [q'])) q)) hf (Nat.le_refl _) nw
    refine ⟨.ref s.heap.objs.size, _, I1, rfl, ⟨_, x, c', rfl, I.hok.fresh (Nat.le_refl _), rfl, fun l hl => by rw [I.tuple_inj hl hq]; exact hx, hc0⟩, ⟨z'', ?_, ⟨x1, .str ⟨#[c']⟩ tc, ?_⟩, ?_, ?_⟩, fun c hcm => ?_⟩
    · exact (sb.2 _ S.TIz).trans (b7 _ _ S.TIz S.TITO S.TIi1 S.TIi2 hTI)
    · exact (sb.2 _ S.TOz).trans b2
    · exact d1.1.at fun o q => (sb.2 _ (Ne.symm S.zi1)).trans q
    · obtain ⟨o, e, cc, dd⟩ := d2
      exact ⟨o, (sb.2 _ (Ne.symm S.zi2)).trans e, cc, dd⟩
    · have hlt : c < s.heap.objs.size := by
        simp only [List.mem_cons, List.not_mem_nil, or_false] at hcm
        rcases hcm with rfl | rfl | rfl | rfl | rfl
        · exact hzl
        · exact Heap.lt_size hTI
        · exact Heap.lt_size hTO
        · obtain ⟨_, e1, _⟩ := h1
          exact Heap.lt_size e1
        · obtain ⟨_, e2, _⟩ := h2
          exact Heap.lt_size e2
      rw [upd_ne (Nat.ne_of_lt hlt)]
      exact (hf c hcm).1
  done := by
    intro X hP hw hK hc i pins s σ H E I hf st hg
    subst hP hw hK
    obtain ⟨hz, hTI, ⟨u0, v0, hTO⟩, h1, h2⟩ := st
    obtain ⟨xs, hq, l1, l2, hend⟩ := hg
    obtain ⟨its, rv, p1, _⟩ := I.tuple hq
    have p1' : s.heap.IsTuple a its.toArray := p1
    have nai : a ≠ i1 := fun e => by
      obtain ⟨o1, g1, c1, _⟩ := p1'
      obtain ⟨o2, g2, c2, _⟩ := h1
      rw [e] at g1
      cases g1.symm.trans g2
      exact absurd (Value.type.inj (c1.symm.trans c2)) (by decide)
    have hd : X.A.in1.handled = none := I.ok.hd hc
    have el : its.toArray.size = xs.length := by
      rw [List.size_toArray]
      exact rv.length.symm
    exact wpAny_pyNext_zipD2_end S (Draws.tuple hd i1 a nai its.toArray) (Draws.text hd i2 y t) hz hTI hTO ⟨h1, p1'⟩ h2 (by omega) l2 (by omega) fun h' tk hk => ⟨rfl, I.turnedL (t' := tk) (ch := [z, TI, TO, i1, i2]) (fun c o hb q =>
      hk c o (fun q' => hb (by simp [q'])) (fun q' => hb (by simp [q'])) (fun q' => hb (by simp [q'])) (fun q' => hb (by simp [q'])) q) hf⟩
  self := fun A i s Q E st h => wpAny_pyIter_zip st.1 h
theorem sepS (n a : Nat) (h : a < n) : ZipSep2 (n + 4) (n + 2) (n + 3) n (n + 1) [n, a] [n + 1] where
  TIz := by show (n + 2 : Nat) ≠ n + 4; omega
  TOz := by show (n + 3 : Nat) ≠ n + 4; omega
  TITO := by show (n + 2 : Nat) ≠ n + 3; omega
  TIi1 := by show (n + 2 : Nat) ≠ n; omega
  mem1 := List.mem_cons_self ..
  zf1 := by simp only [List.mem_cons, List.not_mem_nil, or_false]; show ¬ ((n + 4 : Nat) = n ∨ (n + 4 : Nat) = a); omega
  Tf1 := by simp only [List.mem_cons, List.not_mem_nil, or_false]; show ¬ ((n + 3 : Nat) = n ∨ (n + 3 : Nat) = a); omega
  TIi2 := by show (n + 2 : Nat) ≠ n + 1; omega
  mem2 := List.mem_cons_self ..
  zf2 := by simp only [List.mem_cons, List.not_mem_nil, or_false]; show ¬ (n + 4 : Nat) = n + 1; omega
  Tf2 := by simp only [List.mem_cons, List.not_mem_nil, or_false]; show ¬ (n + 3 : Nat) = n + 1; omega
  sep1_2 := by simp only [List.mem_cons, List.not_mem_nil, or_false]; show ¬ (n : Nat) = n + 1; omega
  sep2_1 := by simp only [List.mem_cons, List.not_mem_nil, or_false]; show ¬ ((n + 1 : Nat) = n ∨ (n + 1 : Nat) = a); omega
def iZipS (K : PySem.W.Frag) (ta : TA) : TI := fun σ H R => ta σ H fun vs G => ∃ (a : Addr) (y : Str) (xs : List V), vs = [.ref a, .str y] ∧ SqT K G a xs ∧ R (ItzS K a y) G
theorem pi_zipS {X : Cx} {e e2 : Expr} {ta : TA} {p pos tp : Pos} {es : List Expr} {kk : Nat} (hg : Gl X "zip") (hm : X.mg "zip" = none) (ha : PA X [e, e2] ta)
    (hs : starEach [e, e2] X.env = (false, eval e X.env) :: starEach [e2] X.env := by rfl) (hpl : (backTo pos (starEach [e2] X.env)).any (·.1) = false := by rfl) :
    PI X (.Tuple es kk tp) (.Call (.Name "zip" p) [e, e2] [] pos) (iZipS X.K ta) := by
  refine ⟨fun pins s σ H R I h => ?_⟩
  refine Call_ (ld_blt I hg hm PyProof.Rows.boot_zip (PyProof.Rows.callWith_type1 (thn (ha.run pos pins s σ H _ I h) fun us s1 ⟨vs, G, I1, r1, q1⟩ => ?_) hs hpl))
  obtain ⟨a, y, xs, ex, hq, q⟩ := q1
  subst ex
  cases r1 with
  | cons r rr =>
    cases rr with
    | cons r' rr =>
      cases rr
      cases r
      obtain ⟨t, rfl⟩ := r'
      obtain ⟨its, rv, p1, _⟩ := I1.tuple hq
      have p1' : s1.heap.IsTuple a its.toArray := p1
      have al : a < s1.heap.objs.size := by
        obtain ⟨o, ho, _⟩ := p1'
        exact Heap.lt_size ho
      refine zip_begins2 (begins_tuple a its.toArray) (begins_text y t) p1' trivial fun h' hz hTI hTO e1 e2 hsz hk => wpAny_pyIter_zip hz ?_
      have I2 : Inv X pins σ G { s1 with heap := h' } := I1.kept (t' := s1.toks) hk
      have S := sepS s1.heap.objs.size a al
      refine ⟨s1.heap.objs.size + 4, [s1.heap.objs.size + 4, s1.heap.objs.size + 2, s1.heap.objs.size + 3, s1.heap.objs.size, s1.heap.objs.size + 1], _, _, G, rfl, I2, turn_zipS S, ⟨hz, hTI, ⟨_, _, hTO⟩, ⟨_, e1, rfl, rfl⟩, ⟨_, e2, rfl, rfl⟩⟩, fun c hcm => ?_, q⟩
      have le : s1.heap.objs.size ≤ c := by
        simp only [List.mem_cons, List.not_mem_nil, or_false] at hcm
        rcases hcm with rfl | rfl | rfl | rfl | rfl
        · exact Nat.le_add_right _ _
        · exact Nat.le_add_right _ _
        · exact Nat.le_add_right _ _
        · exact Nat.le_refl _
        · exact Nat.le_add_right _ _
      exact I1.fpOk le (I1.hok.fresh le)
theorem walk_zipS {K : PySem.W.Frag} {a : Addr} {y : Str} {xs : List V} (el : xs.length = y.cps.size) : Walk (ItzS K a y) xs.length (fun H => SqT K H a xs) (fun i H v G => ∃ T x c, xs[i]? = some x ∧ y.cps[i]? = some c ∧ v = .ref T ∧ H T = none ∧ G = upd H T (.tup [x, .str ⟨#[c]⟩])) where
  goes := fun i H hi h => ⟨xs, xs[i], y.cps[i]'(by omega), h, List.getElem?_eq_getElem hi, Array.getElem?_eq_getElem (by omega)⟩
  stops := fun H h => ⟨xs, h, Nat.le_refl _, by omega, .inl rfl⟩
  yields := fun i H v G hi h ⟨T, x, c, e1, e2, e3, e4, e5⟩ => ⟨T, x, c, e4 xs h, e5, e1, e2, e3⟩
end Gu
namespace Gu
open PySem PySem.Spec PyProof.Rows L2
/-! ### views in the heap -/
structure VW where
  pr : Addr
  rw : Addr
  rs : List (Addr × Rec)
  y : Str
def VW.recs (v : VW) : List Rec := v.rs.map (·.2)
def VW.cs (v : VW) : List Nat := v.y.cps.toList
structure ViewAt (C : Addr) (H : Hp) (v : VW) : Prop where
  pr : H v.pr = some (.tup [.ref v.rw, .str v.y])
  row : RowAt C H v.rw v.rs
  l1 : 1 ≤ v.rs.length
  l4 : v.rs.length ≤ 4
  tx : isTxt v.y 200 = true
structure ViewsAt (C : Addr) (H : Hp) (a : Addr) (vs : List VW) : Prop where
  tp : H a = some (.tup (vs.map fun v => V.ref v.pr))
  el : ∀ v ∈ vs, ViewAt C H v
  l1 : 1 ≤ vs.length
  l4 : vs.length ≤ 4
theorem ViewAt.same {C : Addr} {H G : Hp} {v : VW} (s : Same H G) (h : ViewAt C H v) : ViewAt C G v := ⟨s _ _ h.pr, h.row.same s, h.l1, h.l4, h.tx⟩
theorem ViewsAt.same {C : Addr} {H G : Hp} {a : Addr} {vs : List VW} (s : Same H G) (h : ViewsAt C H a vs) : ViewsAt C G a vs := ⟨s _ _ h.tp, fun v hv => (h.el v hv).same s, h.l1, h.l4⟩
/-- a text fits the views -/
def Fits (vs : List VW) (cs : List Nat) : Prop := ∀ v ∈ vs, cuts v.recs cs = v.cs
/-! what is known, by places -/
def Agree (kvs : List (Key × V)) (cs : List Nat) : Prop := ∀ (p c : Nat), valV kvs (Sum.inl (p : Int)) = some (.str (one c)) → cs[p]? = some c
structure Knows (n : Nat) (kvs : List (Key × V)) (Pd : List Nat → Prop) : Prop where
  ks : ∀ k v, valV kvs k = some v → ∃ p c : Nat, k = Sum.inl (p : Int) ∧ p < n ∧ v = .str (one c) ∧ c ∈ signs.cps.toList
  iff : ∀ cs : List Nat, cs.length = n → (Pd cs ↔ Agree kvs cs)
theorem Knows.imp {n : Nat} {kvs : List (Key × V)} {Pd Qd : List Nat → Prop} (h : Knows n kvs Pd) (e : ∀ cs : List Nat, cs.length = n → (Pd cs ↔ Qd cs)) : Knows n kvs Qd := ⟨h.ks, fun cs l => (e cs l).symm.trans (h.iff cs l)⟩
theorem Knows.start (n : Nat) : Knows n [] (fun _ => True) := ⟨fun k v h => (by cases h), fun cs l => ⟨fun _ p c h => (by cases h), fun _ => trivial⟩⟩
theorem one_inj {c d : Nat} (h : V.str (one c) = V.str (one d)) : c = d := by
  have := congrArg (fun z : Str => z.cps.toList) (V.str.inj h)
  exact List.singleton_inj.mp this
/-- one more place is known -/
theorem Knows.put {n p c : Nat} {kvs : List (Key × V)} {Pd : List Nat → Prop} (h : Knows n kvs Pd) (hp : p < n) (hc : c ∈ signs.cps.toList) (e : valV kvs (Sum.inl (p : Int)) = none) : Knows n (putK kvs (Sum.inl (p : Int)) (.str (one c))) (fun cs => Pd cs ∧ cs[p]? = some c) := by
  refine ⟨fun k v q => ?_, fun cs l => ?_⟩
  · rw [valV_put] at q
    split at q
    · next ek => exact ⟨p, c, ek, hp, (Option.some.inj q).symm, hc⟩
    · exact h.ks k v q
  · rw [h.iff cs l]
    constructor
    · rintro ⟨a, b⟩ q d hq
      rw [valV_put] at hq
      split at hq
      · next ek =>
        have ek : q = p := by have := Sum.inl.inj ek; omega
        rw [ek, b, one_inj (Option.some.inj hq)]
      · exact a q d hq
    · intro a
      refine ⟨fun q d hq => a q d ?_, a p c ?_⟩
      · rw [valV_put]
        split
        · next ek =>
          rw [ek, e] at hq
          cases hq
        · exact hq
      · rw [valV_put, if_pos rfl]
theorem fillN_int {cs : List Nat} {p c : Nat} (hp : p < cs.length) : fillN cs (.int (p : Int)) = c ↔ cs[p]? = some c := by
  show cs.getD (p : Int).toNat 0 = c ↔ _
  rw [Int.toNat_natCast, List.getD_eq_getElem?_getD, List.getElem?_eq_getElem hp]
  exact ⟨fun h => congrArg some h, fun h => Option.some.inj h⟩
/-- a row shows a text as y: sign by sign -/
theorem shown_each {rs : List Rec} (hf : ∀ r ∈ rs, r.fit) {cs ys : List Nat} : cuts rs cs = ys ↔ (planV rs cs.length).map (fillN cs) = ys := by
  have e := fill_plan rs cs
  have px : ∀ x ∈ planV rs cs.length, Plain cs.length x := plan_plain hf
  rw [fillN_map px] at e
  rw [ones_inj e]
section
variable {P : Program} {w : World} {K : PySem.W.Frag} {mg : Str → Option Value} {base : Heap} {C : Addr}
theorem Isa.str_intV {H : Hp} {z : Str} : Isa K H (.str z) "int" false := ⟨_, .base (.str z), kit_ty (by decide +kernel)⟩
/-! ### is_row, is_view, check_views -/
def spIsRow (C : Addr) : Sp := fun vs H Q _ => ∃ (a : Addr) (rs : List (Addr × Rec)), vs = [.ref a] ∧ RowAt C H a rs ∧ 1 ≤ rs.length ∧ rs.length ≤ 4 ∧ ∀ G, Same H G → Q (.bl true) G
theorem cal_isRow (B : Bi mg) (S : ShC K mg C) (D : At K mg "is_row" s_is_row ps_is_row) (C_is_tuple : Cal P w K mg base 1 "is_tuple" ps_is_tuple (spIsTuple K)) : Cal P w K mg base 2 "is_row" ps_is_row (spIsRow C) := by
  refine D.cal sc_is_row (fun vs H Q E h => ?_) (fun f cdv A outer s H vs Q E hr h => ?_)
  · obtain ⟨a, rs, rfl, _⟩ := h
    rfl
  · obtain ⟨a, rs, rfl, hR, l1, l4, k⟩ := h
    refine ⟨_, (pss_one (ps_ret (pe_and (pe_own C_is_tuple hr (by decide) (by rfl) (pa_cons (pv 0) (pa_cons pe_int (pa_cons (pe_cst B.MOST_ROW (by rfl)) pa_nil)))) (pe_one (pe_callB (cr_all rfl) (by rfl) B.all (by decide +kernel) (pa_cons (pe_lc (own := [("part", 1)]) (by rfl) sc_is_row.nd (pi_tup (pv 0)) (blkOk_by (own := [("part", 1)]) (N := ["value", "part"]) (sc := defScope s_is_row) (by decide +kernel)) (fun _ _ _ _ _ => pg_name (i := 1) sc_is_row.nd rfl (.inl rfl)) (fun _ _ _ _ _ => pts_nil) (fun _ _ _ _ _ => (pe_callB (id := "isinstance") (r := rIsi K) call_isi (by rfl) B.isinstance (by decide +kernel) (pa_cons (pv 1) (pa_cons (pe_glob (v := .ref C) (by rfl) S.g rfl) pa_nil))))) pa_nil)))))), ?_⟩
    refine ⟨_, rfl, _, _, _, rfl, .inl ⟨a, _, rfl, .inl (.inl hR.tp), _, rfl, ?_⟩⟩
    rw [decide_eq_true (show (1 : Int) ≤ ((rs.map fun q => V.ref q.1).length : Int) ∧ ((rs.map fun q => V.ref q.1).length : Int) ≤ 4 by rw [List.length_map]; omega)]
    refine iteT ⟨_, rfl, a, rfl, ⟨_, .inl (.inl hR.tp)⟩, fun M nM => lc_tup (K := K) (a := a) (xs := rs.map fun q => V.ref q.1) (fun i J => (∃ bs : List Bool, bs.length = i ∧ bs.all id = true ∧ J M = some (.lst (bs.map V.bl))) ∧ Same H J)
      ⟨⟨[], rfl, rfl, upd_same⟩, same_new nM⟩ (fun i J _ ⟨_, sJ⟩ => .inl (.inl (sJ _ _ hR.tp))) ?_ ?_⟩
    · rintro i v J hi ⟨⟨bs, rfl, ha, eM⟩, sJ⟩
      have il := (List.getElem?_eq_some_iff.mp hi).1
      rw [List.length_map] at il
      obtain ⟨q, hq, rfl⟩ : ∃ q ∈ rs, v = .ref q.1 := by
        obtain ⟨q, h1, h2⟩ := List.mem_map.mp (List.mem_of_getElem? hi)
        exact ⟨q, h1, h2.symm⟩
      obtain ⟨dx, b, e1, _⟩ := ((hR.sh q hq).1).same sJ
      refine ⟨rfl, yes (iteT ⟨_, rfl, _, _, _, _, true, rfl, .own C, .base (.ins e1 S.cl S.ha S.hn S.ht S.hm), S.kk, _, eM, small1000 (by rw [List.length_map]; omega), ⟨bs ++ [true], by rw [List.length_append]; rfl, by rw [List.all_append, ha]; rfl, ?_⟩, same_offF sJ nM⟩)⟩
      rw [upd_same, List.map_append]
      rfl
    · rintro J ⟨⟨bs, el, ha, eM⟩, sJ⟩
      refine ⟨M, bs, rfl, .inl (.inl eM), ?_⟩
      rw [ha]
      exact k J sJ
def spIsView (C : Addr) : Sp := fun vs H Q _ => ∃ (v : VW), vs = [.ref v.pr] ∧ ViewAt C H v ∧ ∀ G, Same H G → Q (.bl true) G
theorem cal_isView (B : Bi mg) (D : At K mg "is_view" s_is_view ps_is_view) (C_is_tuple : Cal P w K mg base 1 "is_tuple" ps_is_tuple (spIsTuple K)) (C_is_text : Cal P w K mg base 1 "is_text" ps_is_text (spIsText K)) (C_is_row : Cal P w K mg base 2 "is_row" ps_is_row (spIsRow C)) : Cal P w K mg base 3 "is_view" ps_is_view (spIsView C) := by
  refine D.cal sc_is_view (fun vs H Q E h => ?_) (fun f cdv A outer s H vs Q E hr h => ?_)
  · obtain ⟨v, rfl, _⟩ := h
    rfl
  · obtain ⟨v, rfl, hv, k⟩ := h
    have yl := isTxt_len hv.tx
    refine ⟨_, (pss_one (ps_ret (pe_and (pe_own C_is_tuple hr (by decide) (by rfl) (pa_cons (pv 0) (pa_cons pe_int (pa_cons pe_int pa_nil)))) (pe_and (pe_own C_is_row hr (by decide) (by rfl) (pa_cons (pe_ix ix_tup (pv 0) pe_int (fun _ _ => rfl)) pa_nil)) (pe_one (pe_own C_is_text hr (by decide) (by rfl) (pa_cons (pe_ix ix_tup (pv 0) pe_int (fun _ _ => rfl)) (pa_cons (pe_cst B.MOST_TEXT (by rfl)) pa_nil)))))))), ?_⟩
    refine ⟨_, rfl, _, _, _, rfl, .inl ⟨v.pr, _, rfl, .inl (.inl hv.pr), _, rfl, ?_⟩⟩
    rw [decide_eq_true (show (2 : Int) ≤ (([V.ref v.rw, V.str v.y] : List V).length : Int) ∧ (([V.ref v.rw, V.str v.y] : List V).length : Int) ≤ 2 from ⟨by show (2 : Int) ≤ 2; decide, by show (2 : Int) ≤ 2; decide⟩)]
    refine iteT ⟨_, rfl, v.pr, _, _, _, rfl, rfl, .inl (.inl hv.pr), (rfl : atI [V.ref v.rw, V.str v.y] 0 = some (V.ref v.rw)), ?_⟩
    refine ⟨v.rw, v.rs, rfl, hv.row, hv.l1, hv.l4, fun G sG => ⟨_, rfl, iteT ?_⟩⟩
    refine ⟨_, rfl, v.pr, _, _, _, rfl, rfl, .inl (.inl (sG _ _ hv.pr)), (rfl : atI [V.ref v.rw, V.str v.y] 1 = some (V.str v.y)), ?_⟩
    refine ⟨_, _, rfl, .inl ⟨v.y, rfl, by omega, fun G2 s2 => ?_⟩⟩
    rw [show isTxt v.y 200 = true from hv.tx]
    exact k G2 (sG.trans s2)
def spCheckViews (C : Addr) : Sp := fun vs H Q _ => ∃ (a : Addr) (ws : List VW), vs = [.ref a] ∧ ViewsAt C H a ws ∧ ∀ G, Same H G → Q .non G
theorem cal_checkViews (B : Bi mg) (D : At K mg "check_views" s_check_views ps_check_views) (C_is_tuple : Cal P w K mg base 1 "is_tuple" ps_is_tuple (spIsTuple K)) (C_is_view : Cal P w K mg base 3 "is_view" ps_is_view (spIsView C)) : Cal P w K mg base 4 "check_views" ps_check_views (spCheckViews C) := by
  refine D.cal sc_check_views (fun vs H Q E h => ?_) (fun f cdv A outer s H vs Q E hr h => ?_)
  · obtain ⟨a, ws, rfl, _⟩ := h
    rfl
  · obtain ⟨a, ws, rfl, hV, k⟩ := h
    have l1 := hV.l1
    have l4 := hV.l4
    refine ⟨_, (pss_cons (ps_if (pt_not (pt_val (pe_own C_is_tuple hr (by decide) (by rfl) (pa_cons (pv 0) (pa_cons pe_int (pa_cons (pe_cst B.MOST_VIEWS (by rfl)) pa_nil)))))) pss_never pss_nil)
      (pss_one (ps_for PassesOwn.never rfl (pi_enT (by rfl) B.enumerate (pa_cons (pv 0) pa_nil)) (pg_tup rfl (pgs_cons (pg_name (i := 1) sc_check_views.nd rfl (.inl rfl)) (pgs_cons (pg_name (i := 2) sc_check_views.nd rfl (.inl rfl)) pgs_nil)))
      (pss_one (ps_if (pt_not (pt_val (pe_own C_is_view hr (by decide) (by rfl) (pa_cons (pv 2) pa_nil)))) pss_never pss_nil))))), ?_⟩
    refine ⟨_, rfl, _, _, _, rfl, .inl ⟨a, _, rfl, .inl (.inl hV.tp), _, rfl, ?_⟩⟩
    rw [decide_eq_true (show (1 : Int) ≤ ((ws.map fun v => V.ref v.pr).length : Int) ∧ ((ws.map fun v => V.ref v.pr).length : Int) ≤ 4 by rw [List.length_map]; omega)]
    refine iteF ⟨_, rfl, a, _, rfl, .inl (.inl hV.tp), for_it walk_enT (fun i σ J => ∃ u v, σ = [some (.ref a), u, v] ∧ Same H J) ⟨none, none, rfl, Same.refl H⟩ (fun i σ J _ ⟨_, _, _, sJ⟩ => .inl (.inl (sJ _ _ hV.tp))) ?_ ?_⟩
    · rintro i x σ J J1 hi ⟨u, v2, rfl, sJ⟩ ⟨T, z, hz, rfl, nT, rfl⟩
      obtain ⟨v, hv, rfl⟩ : ∃ v ∈ ws, z = .ref v.pr := by
        obtain ⟨q, h1, h2⟩ := List.mem_map.mp (List.mem_of_getElem? hz)
        exact ⟨q, h1, h2.symm⟩
      have sT : Same H (upd J T (.tup [.int (i : Nat), .ref v.pr])) := sJ.trans (same_new nT)
      refine ⟨T, _, rfl, .inl (.inl upd_same), rfl, _, _, rfl, _, _, rfl, rfl, ?_⟩
      exact ⟨_, rfl, v, rfl, (hV.el v hv).same sT, fun G sG => ⟨_, rfl, iteF ⟨_, _, rfl, sT.trans sG⟩⟩⟩
    · rintro σ J ⟨u, v, rfl, sJ⟩
      exact k J sJ
/-! ### known_signs -/
def spKnown (C : Addr) : Sp := fun vs H Q _ => ∃ (a : Addr) (n : Nat) (ws : List VW), vs = [.ref a, .int (n : Int)] ∧ ViewsAt C H a ws ∧ n ≤ 500 ∧ ((∀ cs : List Nat, cs.length = n → ¬ Fits ws cs) → ∀ G, Same H G → Q .non G) ∧ ∀ (d : Addr) (kvs : List (Key × V)) (G : Hp), H d = none → Same H G → G d = some (.dK kvs) → Knows n kvs (Fits ws) → Q (.ref d) G
/-- the signs of one view, up to i -/
def Upto (n : Nat) (rs : List Rec) (ys : List Nat) (i : Nat) (cs : List Nat) : Prop := ∀ j x c, j < i → (planV rs n)[j]? = some x → ys[j]? = some c → fillN cs x = c
theorem upto_all {n : Nat} {rs : List Rec} (hf : ∀ r ∈ rs, r.fit) {ys cs : List Nat} (l : cs.length = n) (e : (planV rs n).length = ys.length) : Upto n rs ys ys.length cs ↔ cuts rs cs = ys := by
  rw [shown_each hf, l]
  constructor
  · intro h
    refine List.ext_getElem (by rw [List.length_map]; exact e) fun j h1 h2 => ?_
    rw [List.getElem_map]
    exact h j _ _ h2 (List.getElem?_eq_getElem _) (List.getElem?_eq_getElem h2)
  · intro h j x c hj hx hc
    rw [← h, List.getElem?_map, hx] at hc
    exact Option.some.inj hc
theorem upto_next {n : Nat} {rs : List Rec} {ys cs : List Nat} {i : Nat} {x : V} {c : Nat} (hx : (planV rs n)[i]? = some x) (hc : ys[i]? = some c) : Upto n rs ys (i + 1) cs ↔ Upto n rs ys i cs ∧ fillN cs x = c := by
  constructor
  · exact fun h => ⟨fun j x c hj => h j x c (by omega), h i x c (by omega) hx hc⟩
  · rintro ⟨h, e⟩ j u d hj hu hd
    rcases Nat.lt_or_ge j i with q | q
    · exact h j u d q hu hd
    · obtain rfl : j = i := by omega
      rw [hx] at hu
      rw [hc] at hd
      cases hu
      cases hd
      exact e
theorem fits_take {ws : List VW} {i : Nat} {v : VW} {cs : List Nat} (h : ws[i]? = some v) : Fits (ws.take (i + 1)) cs ↔ Fits (ws.take i) cs ∧ cuts v.recs cs = v.cs := by
  rw [takeF_next h]
  constructor
  · exact fun q => ⟨fun u hu => q u (List.mem_append.mpr (.inl hu)), q v (List.mem_append.mpr (.inr (List.mem_singleton.mpr rfl)))⟩
  · rintro ⟨a, b⟩ u hu
    rcases List.mem_append.mp hu with hu | hu
    · exact a u hu
    · rw [List.mem_singleton.mp hu]
      exact b
set_option maxHeartbeats 1000000 in
theorem cal_known (B : Bi mg) (D : At K mg "known_signs" s_known_signs ps_known_signs) (C_planned : Cal P w K mg base 2 "planned" ps_planned (spPlanned C)) : Cal P w K mg base 3 "known_signs" ps_known_signs (spKnown C) := by
  refine D.cal sc_known_signs (fun vs H Q E h => ?_) (fun f cdv A outer s H vs Q E hr h => ?_)
  · obtain ⟨a, n, ws, rfl, _⟩ := h
    rfl
  · obtain ⟨a, n, ws, rfl, hV, hn, kN, kS⟩ := h
    refine ⟨_, (pss_cons (ps_set (i := 2) sc_known_signs.nd rfl (.inl rfl) pe_dnewK)
      (pss_cons (ps_for PassesOwn.never rfl (pi_tup (pv 0)) (pg_tup rfl (pgs_cons (pg_name (i := 3) sc_known_signs.nd rfl (.inl rfl)) (pgs_cons (pg_name (i := 4) sc_known_signs.nd rfl (.inl rfl)) pgs_nil)))
      (pss_cons (ps_set (i := 5) sc_known_signs.nd rfl (.inl rfl) (pe_own C_planned hr (by decide) (by rfl) (pa_cons (pv 3) (pa_cons (pv 1) pa_nil))))
      (pss_cons (ps_if (pt_cmpR op_ne (pe_callB call_len (by rfl) B.len (by decide +kernel) (pa_cons (pv 5) pa_nil)) (pe_callB call_len (by rfl) B.len (by decide +kernel) (pa_cons (pv 4) pa_nil)) (nomark _)) (pss_one (ps_ret pe_non)) pss_nil)
      (pss_one (ps_for PassesOwn.never rfl (pi_zipS (by rfl) B.zip (pa_cons (pv 5) (pa_cons (pv 4) pa_nil))) (pg_tup rfl (pgs_cons (pg_name (i := 6) sc_known_signs.nd rfl (.inl rfl)) (pgs_cons (pg_name (i := 7) sc_known_signs.nd rfl (.inl rfl)) pgs_nil)))
      (pss_cons (ps_set (i := 8) sc_known_signs.nd rfl (.inl rfl) (pe_mid (pe_ifExp (pt_val (pe_callB call_isi (by rfl) B.isinstance (by decide +kernel) (pa_cons (pv 6) (pa_cons (pe_bltn (v := .ty "int") (by rfl) B.int (by decide +kernel) rfl) pa_nil)))) (pe_dsetd (pv 2) (pv 6) (pv 7) ⟨rfl, rfl, rfl, rfl⟩) (pv 6))))
      (pss_one (ps_if (pt_cmpR op_ne (pv 8) (pv 7) (nomark _)) (pss_one (ps_ret pe_non)) pss_nil))))))))
      (pss_one (ps_ret (pv 2))))), ?_⟩
    refine fun d nd => ?_
    have s0 : Same H (upd H d (.dK [])) := same_new nd
    refine ⟨_, rfl, a, rfl, ⟨_, .inl (.inl (s0 _ _ hV.tp))⟩, for_tup (K := K) (a := a) (xs := ws.map fun v => V.ref v.pr) (fun i σ J => ∃ (kvs : List (Key × V)) (b1 b2 b3 b4 b5 b6 : Option V), σ = [some (.ref a), some (.int (n : Int)), some (.ref d), b1, b2, b3, b4, b5, b6] ∧ Same H J ∧ J d = some (.dK kvs) ∧ Knows n kvs (Fits (ws.take i)) ∧ kvs.length ≤ 1000 * i)
      ⟨[], none, none, none, none, none, none, rfl, s0, upd_same, (Knows.start n).imp (fun cs _ => ⟨fun _ v hv => (by cases hv), fun _ => trivial⟩), Nat.zero_le _⟩ (fun i σ J _ ⟨_, _, _, _, _, _, _, _, sJ, _⟩ => .inl (.inl (sJ _ _ hV.tp))) ?_ ?_⟩
    · rintro i x σ J hi ⟨kvs, b1, b2, b3, b4, b5, b6, rfl, sJ, eD, kn, kl⟩
      rw [List.getElem?_map] at hi
      cases hv : ws[i]? with
      | none =>
        rw [hv] at hi
        cases hi
      | some v =>
        rw [hv] at hi
        cases hi
        have mv : v ∈ ws := List.mem_of_getElem? hv
        have il : i < ws.length := (List.getElem?_eq_some_iff.mp hv).1
        have w4 := hV.l4
        have vw := (hV.el v mv).same sJ
        have fr : ∀ r ∈ v.recs, r.fit := vw.row.fits
        have yl := isTxt_len vw.tx
        have ys : Signs v.cs := isTxt_signs vw.tx
        have yL : v.y.length = v.cs.length := rfl
        have yZ : v.y.cps.size = v.cs.length := rfl
        refine ⟨v.pr, _, rfl, .inl (.inl vw.pr), rfl, _, _, rfl, _, _, rfl, rfl, ?_⟩
        refine ⟨_, rfl, _, rfl, v.rw, n, v.rs, rfl, vw.row, hn, fun U G1 s1 e1 => ?_⟩
        have e1 : G1 U = some (.tup (planV v.recs n)) := e1
        have pl := plan_len fr (n := n) hn
        refine ⟨_, rfl, _, _, rfl, .inr ⟨_, .inl (.inl e1), rfl⟩, _, rfl, _, _, rfl, ⟨Nat.le_of_lt (small1000 (by omega)), rfl⟩, rfl, _, rfl, ?_⟩
        by_cases el : (planV v.recs n).length = v.cs.length
        · rw [decide_eq_true (show V.int ((planV v.recs n).length : Int) = V.int (v.y.length : Int) by rw [el, yL])]
          refine iteF ⟨_, rfl, _, rfl, U, v.y, _, rfl, .inl (.inl e1), for_it (walk_zipS (by rw [el, yZ])) (fun j σ J1 => ∃ (kvs : List (Key × V)) (c1 c2 c3 : Option V), σ = [some (.ref a), some (.int (n : Int)), some (.ref d), some (.ref v.rw), some (.str v.y), some (.ref U), c1, c2, c3] ∧ Same H J1 ∧ J1 U = some (.tup (planV v.recs n)) ∧ J1 d = some (.dK kvs) ∧ Knows n kvs (fun cs => Fits (ws.take i) cs ∧ Upto n v.recs v.cs j cs) ∧ kvs.length ≤ 1000 * i + j)
            ⟨kvs, b4, b5, b6, rfl, sJ.trans s1, e1, s1 _ _ eD, kn.imp (fun cs _ => ⟨fun h => ⟨h, fun j x c hj => absurd hj (by omega)⟩, fun h => h.1⟩), by omega⟩ (fun j σ J1 _ ⟨_, _, _, _, _, _, h, _⟩ => .inl (.inl h)) ?_ ?_⟩
          · rintro j z σ1 J1 _ hj ⟨kvs1, c1, c2, c3, rfl, s2, e2, eD1, kn1, kl1⟩ ⟨T, sx, c, hx, hc, rfl, nT, rfl⟩
            have hc : v.cs[j]? = some c := by
              rw [← Array.getElem?_toList] at hc
              exact hc
            have cs1 : c ∈ signs.cps.toList := ys c (List.mem_of_getElem? hc)
            have sT : Same J1 (upd J1 T (.tup [sx, .str ⟨#[c]⟩])) := same_new nT
            have eD2 := sT _ _ eD1
            have e3 := sT _ _ e2
            have s3 := s2.trans sT
            refine ⟨T, _, rfl, .inl (.inl upd_same), rfl, _, _, rfl, _, _, rfl, rfl, ?_⟩
            generalize upd J1 T (.tup [sx, .str ⟨#[c]⟩]) = J2 at eD2 e3 s3
            have px : Plain n sx := plan_plain fr sx (List.mem_of_getElem? hx)
            rcases px with ⟨q, rfl, q0, qn⟩ | ⟨g, rfl, _⟩
            · obtain ⟨q, rfl⟩ := Int.eq_ofNat_of_zero_le q0
              have qn : q < n := by omega
              cases eq : valV kvs1 (Sum.inl (q : Int)) with
              | some u =>
                obtain ⟨q', g, ek, _, rfl, _⟩ := kn1.ks _ _ eq
                refine ⟨fun t J3 => t = .str (one g) ∧ J2 = J3, ?_, ?_⟩
                · obtain ⟨t, i1, i2⟩ := Isa.int_int (K := K) (H := J2) (i := (q : Int))
                  refine ⟨_, rfl, _, _, t, _, true, rfl, .ty _, i1, i2, _, rfl, iteT ⟨_, rfl, d, rfl, .inl ⟨_, .inl eD2⟩, _, rfl, _, rfl, kvs1, Sum.inl (q : Int), eD2, rfl, Nat.lt_of_le_of_lt (show _ ≤ 6000 by omega) (by decide), fun v hv => ?_, fun hv => ?_⟩⟩
                  · rw [eq] at hv
                    cases hv
                    exact ⟨rfl, rfl⟩
                  · rw [eq] at hv
                    cases hv
                · rintro _ _ ⟨rfl, rfl⟩
                  refine ⟨_, rfl, _, rfl, rfl, _, rfl, ?_⟩
                  by_cases gc : g = c
                  · subst gc
                    rw [decide_eq_true (show V.str (one g) = V.str ⟨#[g]⟩ from rfl)]
                    refine iteF ⟨kvs1, _, _, _, rfl, s3, e3, eD2, kn1.imp (fun cs l => ?_), by omega⟩
                    rw [upto_next hx hc]
                    constructor
                    · rintro h
                      exact ⟨h.1, h.2, (fillN_int (by omega)).mpr ((kn1.iff cs l).mp h q g eq)⟩
                    · exact fun h => ⟨h.1, h.2.1⟩
                  · rw [decide_eq_false (show ¬ V.str (one g) = V.str ⟨#[c]⟩ from fun h => gc (one_inj h))]
                    refine iteT (kN (fun cs l ft => gc ?_) J2 s3)
                    have f1 := (fits_take hv).mp (fun u hu => ft u (List.mem_of_mem_take hu))
                    have up := (upto_all fr l el).mpr f1.2
                    have a1 := (kn1.iff cs l).mp ⟨f1.1, fun m x c hm => up m x c (by omega)⟩ q g eq
                    have jl : j < v.cs.length := (List.getElem?_eq_some_iff.mp hc).1
                    have a2 := (fillN_int (by omega)).mp (up j _ c jl hx hc)
                    exact Option.some.inj (a1.symm.trans a2)
              | none =>
                refine ⟨fun t J3 => t = .str (one c) ∧ J3 = upd J2 d (.dK (putK kvs1 (Sum.inl (q : Int)) (.str (one c)))), ?_, ?_⟩
                · obtain ⟨t, i1, i2⟩ := Isa.int_int (K := K) (H := J2) (i := (q : Int))
                  refine ⟨_, rfl, _, _, t, _, true, rfl, .ty _, i1, i2, _, rfl, iteT ⟨_, rfl, d, rfl, .inl ⟨_, .inl eD2⟩, _, rfl, _, rfl, kvs1, Sum.inl (q : Int), eD2, rfl, Nat.lt_of_le_of_lt (show _ ≤ 6000 by omega) (by decide), fun v hv => ?_, fun hv => ⟨rfl, rfl⟩⟩⟩
                  rw [eq] at hv
                  cases hv
                · rintro _ _ ⟨rfl, rfl⟩
                  refine ⟨_, rfl, _, rfl, rfl, _, rfl, ?_⟩
                  rw [decide_eq_true (show V.str (one c) = V.str ⟨#[c]⟩ from rfl)]
                  have kl2 := length_putK kvs1 (Sum.inl (q : Int)) (.str (one c))
                  have nUd : U ≠ d := ne_of e3 eD2 (by intro z; cases z)
                  refine iteF ⟨_, _, _, _, rfl, same_offF s3 nd, by rw [upd_ne nUd]; exact e3, upd_same, (kn1.put qn cs1 eq).imp (fun cs l => ?_), by omega⟩
                  rw [upto_next hx hc, fillN_int (by omega)]
                  exact ⟨fun h => ⟨h.1.1, h.1.2, h.2⟩, fun h => ⟨⟨h.1, h.2.1⟩, h.2.2⟩⟩
            · refine ⟨fun t J3 => t = .str (one g) ∧ J2 = J3, ?_, ?_⟩
              · obtain ⟨t, i1, i2⟩ := Isa.str_intV (K := K) (H := J2) (z := one g)
                exact ⟨_, rfl, _, _, t, _, false, rfl, .ty _, i1, i2, _, rfl, iteF ⟨_, rfl, rfl, rfl⟩⟩
              · rintro _ _ ⟨rfl, rfl⟩
                refine ⟨_, rfl, _, rfl, rfl, _, rfl, ?_⟩
                by_cases gc : g = c
                · subst gc
                  rw [decide_eq_true (show V.str (one g) = V.str ⟨#[g]⟩ from rfl)]
                  refine iteF ⟨kvs1, _, _, _, rfl, s3, e3, eD2, kn1.imp (fun cs l => ?_), by omega⟩
                  rw [upto_next hx hc]
                  exact ⟨fun h => ⟨h.1, h.2, rfl⟩, fun h => ⟨h.1, h.2.1⟩⟩
                · rw [decide_eq_false (show ¬ V.str (one g) = V.str ⟨#[c]⟩ from fun h => gc (one_inj h))]
                  refine iteT (kN (fun cs l ft => gc ?_) J2 s3)
                  have f1 := (fits_take hv).mp (fun u hu => ft u (List.mem_of_mem_take hu))
                  have jl : j < v.cs.length := (List.getElem?_eq_some_iff.mp hc).1
                  exact (upto_all fr l el).mpr f1.2 j _ c jl hx hc
          · rintro σ1 J1 ⟨kvs1, c1, c2, c3, rfl, s2, e2, eD1, kn1, kl1⟩
            refine ⟨kvs1, _, _, _, _, _, _, rfl, s2, eD1, kn1.imp (fun cs l => ?_), by omega⟩
            rw [fits_take hv, ← upto_all fr l el, el]
        · rw [decide_eq_false (fun h => el (by have := V.int.inj h; omega))]
          refine iteT (kN (fun cs l ft => el ?_) G1 (sJ.trans s1))
          have := ft v mv
          rw [shown_each fr, l] at this
          rw [← this, List.length_map]
    · rintro σ J ⟨kvs, b1, b2, b3, b4, b5, b6, rfl, sJ, eD, kn, kl⟩
      rw [List.length_map, List.take_length] at kn
      exact ⟨_, rfl, kS d kvs J nd sJ eD kn⟩
end
end Gu
namespace Gu
open PySem PySem.Spec PyProof.Rows L2
/-! ### what is written out -/
/-- the sign at a place, o where it is open -/
def sgn (kvs : List (Key × V)) (o p : Nat) : Nat := match valV kvs (Sum.inl (p : Int)) with
  | some (.str z) => z.cps.toList.getD 0 0
  | _ => o
theorem sgn_some {kvs : List (Key × V)} {o p c : Nat} (h : valV kvs (Sum.inl (p : Int)) = some (.str (one c))) : sgn kvs o p = c := by
  unfold sgn
  rw [h]
  rfl
theorem sgn_none {kvs : List (Key × V)} {o p : Nat} (h : valV kvs (Sum.inl (p : Int)) = none) : sgn kvs o p = o := by
  unfold sgn
  rw [h]
def wrote (kvs : List (Key × V)) (o n : Nat) : List Nat := (List.range n).map (sgn kvs o)
theorem wrote_len (kvs : List (Key × V)) (o n : Nat) : (wrote kvs o n).length = n := by
  unfold wrote
  rw [List.length_map, List.length_range]
theorem wrote_at {kvs : List (Key × V)} {o n p : Nat} (h : p < n) : (wrote kvs o n)[p]? = some (sgn kvs o p) := by
  unfold wrote
  rw [List.getElem?_map, List.getElem?_range h]
  rfl
theorem wrote_agree {n o : Nat} {kvs : List (Key × V)} {Pd : List Nat → Prop} (h : Knows n kvs Pd) : Agree kvs (wrote kvs o n) := fun p c hc => by
  obtain ⟨p', c', ek, hp, _, _⟩ := h.ks _ _ hc
  have ek : p = p' := by have := Sum.inl.inj ek; omega
  rw [wrote_at (by omega), sgn_some hc]
theorem wrote_fits {n o : Nat} {kvs : List (Key × V)} {Pd : List Nat → Prop} (h : Knows n kvs Pd) : Pd (wrote kvs o n) := (h.iff _ (wrote_len ..)).mpr (wrote_agree h)
theorem wrote_signs {n o : Nat} {kvs : List (Key × V)} {Pd : List Nat → Prop} (h : Knows n kvs Pd) (ho : o ∈ signs.cps.toList) : Signs (wrote kvs o n) := fun c hc => by
  obtain ⟨p, hp, rfl⟩ := List.mem_map.mp hc
  cases e : valV kvs (Sum.inl (p : Int)) with
  | none =>
    rw [sgn_none e]
    exact ho
  | some v =>
    obtain ⟨p', c', ek, _, rfl, hs⟩ := h.ks _ _ e
    rw [sgn_some e]
    exact hs
def natV (l : List Nat) : List V := l.map fun a : Nat => V.int (a : Int)
theorem in_natV (i : Int) (l : List Nat) : inV (.int i) (natV l) = decide (0 ≤ i ∧ i.toNat ∈ l) := by
  unfold inV natV
  rw [List.any_map]
  by_cases e : 0 ≤ i ∧ i.toNat ∈ l
  · rw [decide_eq_true e, List.any_eq_true]
    refine ⟨i.toNat, e.2, ?_⟩
    show ((i.toNat : Int) == i) = true
    rw [Int.toNat_of_nonneg e.1]
    exact beq_self_eq_true _
  · rw [decide_eq_false e, List.any_eq_false]
    intro y hy h
    have h : ((y : Int)) = i := eq_of_beq (show ((y : Int) == i) = true from h)
    exact e ⟨by omega, by rw [← h, Int.toNat_natCast]; exact hy⟩
theorem flat_natV (l : List Nat) : (natV l).all flatV = true := by
  unfold natV
  rw [List.all_map, List.all_eq_true]
  exact fun _ _ => rfl
/-- some text of this length fits -/
def Poss (ws : List VW) (n : Nat) : Prop := ∃ cs : List Nat, cs.length = n ∧ Fits ws cs
noncomputable instance decPoss (ws : List VW) (n : Nat) : Decidable (Poss ws n) := Classical.propDecidable _
noncomputable def possL (ws : List VW) (m : Nat) : List Nat := (List.range m).filter fun n => decide (Poss ws n)
theorem mem_possL {ws : List VW} {m n : Nat} : n ∈ possL ws m ↔ n < m ∧ Poss ws n := by
  unfold possL
  rw [List.mem_filter, List.mem_range]
  exact ⟨fun h => ⟨h.1, of_decide_eq_true h.2⟩, fun h => ⟨h.1, decide_eq_true h.2⟩⟩
theorem possL_yes {ws : List VW} {m : Nat} (h : Poss ws m) : possL ws (m + 1) = possL ws m ++ [m] := by
  unfold possL
  rw [List.range_succ, List.filter_append, List.filter_cons, decide_eq_true h]
  rfl
theorem possL_no {ws : List VW} {m : Nat} (h : ¬ Poss ws m) : possL ws (m + 1) = possL ws m := by
  unfold possL
  rw [List.range_succ, List.filter_append, List.filter_cons, decide_eq_false h]
  simp only [Bool.false_eq_true, if_false, List.filter_nil, List.append_nil]
theorem possL_len (ws : List VW) (m : Nat) : (possL ws m).length ≤ m := by
  unfold possL
  exact Nat.le_trans (List.length_filter_le ..) (Nat.le_of_eq List.length_range)
theorem possL_lt (ws : List VW) {b m : Nat} (h : b ≤ m) : (possL ws m).filter (fun n => decide (n < b)) = possL ws b := by
  induction m with
  | zero =>
    obtain rfl : b = 0 := by omega
    rfl
  | succ m ih =>
    by_cases e : b = m + 1
    · subst e
      refine List.filter_eq_self.mpr fun n hn => decide_eq_true ?_
      exact (mem_possL.mp hn).1
    · have z : decide (m < b) = false := decide_eq_false (by omega)
      by_cases p : Poss ws m
      · rw [possL_yes p, List.filter_append, ih (by omega), List.filter_cons, z]
        simp only [Bool.false_eq_true, if_false, List.filter_nil, List.append_nil]
      · rw [possL_no p, ih (by omega)]
/-- what lengths tells -/
def Lens (ws : List VW) (sm : List Nat) (b : V) : Prop := (b = .non ∧ sm = possL ws 81 ∧ ¬ Poss ws 80) ∨ ∃ m : Nat, b = .int (m : Int) ∧ m ≤ 80 ∧ sm = possL ws m ∧ (∀ n, m ≤ n → n ≤ 80 → Poss ws n) ∧ (m = 0 ∨ ¬ Poss ws (m - 1))
/-- what signs tells -/
def Sgn (ws : List VW) (n : Nat) (v : V) : Prop := (v = .non ∧ ∀ cs : List Nat, cs.length = n → ¬ Fits ws cs) ∨ ∃ kvs y, v = .str y ∧ Knows n kvs (Fits ws) ∧ y.cps.toList = wrote kvs 63 n
section
variable {P : Program} {w : World} {K : PySem.W.Frag} {mg : Str → Option Value} {base : Heap} {C : Addr}
def spWritten : Sp := fun vs H Q _ => ∃ (d : Addr) (n o : Nat) (kvs : List (Key × V)) (z : Str) (Pd : List Nat → Prop), vs = [.ref d, .int (n : Int), .str z] ∧ z.cps.toList = [o] ∧ H d = some (.dK kvs) ∧ Knows n kvs Pd ∧ n ≤ 500 ∧ ∀ (y : Str) (G : Hp), Same H G → y.cps.toList = wrote kvs o n → Q (.str y) G
theorem cal_written (B : Bi mg) (D : At K mg "written_out" s_written_out ps_written_out) : Cal P w K mg base 1 "written_out" ps_written_out spWritten := by
  refine D.cal sc_written_out (fun vs H Q E h => ?_) (fun f cdv A outer s H vs Q E hr h => ?_)
  · obtain ⟨d, n, o, kvs, z, Pd, rfl, _⟩ := h
    rfl
  · obtain ⟨d, n, o, kvs, z, Pd, rfl, ez, eD, kn, hn, k⟩ := h
    obtain rfl : z = one o := str_ext ez
    refine ⟨_, (pss_one (ps_ret (pe_join pe_str (pe_lc (own := [("place", 3)]) (by rfl) sc_written_out.nd (pi_range1 (by rfl) B.range (pa_cons (pv 1) pa_nil)) (blkOk_by (own := [("place", 3)]) (N := ["known", "length", "other", "place"]) (sc := defScope s_written_out) (by decide +kernel)) (fun _ _ _ _ _ => pg_name (i := 3) sc_written_out.nd rfl (.inl rfl)) (fun _ _ _ _ _ => pts_nil) (fun _ _ _ _ _ => (pe_dget2 (Nat.lt_of_le_of_lt (Nat.add_le_add_left (by decide) _) hr.units) (pv 0) (pv 3) (pv 2) ⟨rfl, rfl, rfl, rfl⟩)))))), ?_⟩
    refine ⟨⟨_, rfl⟩, _, rfl, _, rfl, by omega, by omega, fun M nM => lc_range (lo := 0) (n := (n : Int).toNat) (fun i J => J M = some (.lst (ones (wrote kvs o i))) ∧ Same H J) ⟨upd_same, same_new nM⟩ ?_ ?_⟩
    · rintro i J hi ⟨eM, sJ⟩
      rw [Int.toNat_natCast] at hi
      refine ⟨rfl, yes (iteT ⟨_, rfl, d, rfl, .inl ⟨_, .inl (sJ _ _ eD)⟩, _, rfl, _, rfl, _, DGet.k (k := Sum.inl (0 + (i : Int))) (sJ _ _ eD), _, eM, small1000 ?_, ?_, same_offF sJ nM⟩)⟩
      · unfold ones
        rw [List.length_map, wrote_len]
        omega
      · rw [upd_same, Int.zero_add]
        have e1 : wrote kvs o (i + 1) = wrote kvs o i ++ [sgn kvs o i] := by
          unfold wrote
          rw [List.range_succ, List.map_append]
          rfl
        have e2 : (valV kvs (Sum.inl (i : Int))).getD (.str (one o)) = .str (one (sgn kvs o i)) := by
          cases e : valV kvs (Sum.inl (i : Int)) with
          | none =>
            rw [sgn_none e]
            rfl
          | some v =>
            obtain ⟨p', c', ek, _, rfl, hs⟩ := kn.ks _ _ e
            rw [sgn_some e]
            rfl
        rw [e2, e1]
        unfold ones
        rw [List.map_append]
        rfl
    · rintro J ⟨eM, sJ⟩
      rw [Int.toNat_natCast, ones_map] at eM
      refine ⟨_, M, _, rfl, rfl, .inl (.inl (.inl eM)), ?_, k _ J sJ (tjoin_ones _)⟩
      rw [ones_len, List.length_map, wrote_len]
      have e0 : (("" : String) : Str).length = 0 := by decide +kernel
      rw [e0]
      omega
def spSigns (C : Addr) : Sp := fun vs H Q _ => ∃ (a : Addr) (n : Nat) (ws : List VW), vs = [.ref a, .int (n : Int)] ∧ ViewsAt C H a ws ∧ n ≤ 500 ∧ ∀ (v : V) (G : Hp), Same H G → Sgn ws n v → Q v G
theorem several : (("?" : String) : Str).cps.toList = [63] := by decide +kernel
/-! ### number_of -/
def manyOf : V → Int
  | .str y => (38 : Int) ^ (y.cps.toList.count 63)
  | _ => 0
def spNumber (C : Addr) : Sp := fun vs H Q _ => ∃ (a : Addr) (n : Nat) (ws : List VW), vs = [.ref a, .int (n : Int)] ∧ ViewsAt C H a ws ∧ n ≤ 500 ∧ ∀ (v : V) (G : Hp), Same H G → Sgn ws n v → Q (.int (manyOf v)) G
def spLengths (C : Addr) : Sp := fun vs H Q _ => ∃ (a : Addr) (ws : List VW), vs = [.ref a] ∧ ViewsAt C H a ws ∧ ∀ (T S : Addr) (sm : List Nat) (b : V) (G : Hp), Same H G → G T = some (.tup [.ref S, b]) → G S = some (.tup (natV sm)) → Lens ws sm b → Q (.ref T) G
theorem cal_lengths (B : Bi mg) (D : At K mg "lengths" s_lengths ps_lengths) (C_check_views : Cal P w K mg base 4 "check_views" ps_check_views (spCheckViews C)) (C_telling_lengths : Cal P w K mg base 1 "telling_lengths" [] spTelling) (C_known_signs : Cal P w K mg base 3 "known_signs" ps_known_signs (spKnown C)) : Cal P w K mg base 5 "lengths" ps_lengths (spLengths C) := by
  refine D.cal sc_lengths (fun vs H Q E h => ?_) (fun f cdv A outer s H vs Q E hr h => ?_)
  · obtain ⟨a, ws, rfl, _⟩ := h
    rfl
  · obtain ⟨a, ws, rfl, hV, k⟩ := h
    have last : atI (rgV 0 ((81 : Nat) : Int)) (-1) = some (V.int 80) := by decide +kernel
    refine ⟨_, (pss_cons (ps_expr (pe_own C_check_views hr (by decide) (by rfl) (pa_cons (pv 0) pa_nil)))
      (pss_cons (ps_set (i := 1) sc_lengths.nd rfl (.inl rfl) (pe_own0 C_telling_lengths hr (by decide) (by rfl)))
      (pss_cons (ps_setLc (i := 2) (own := [("length", 4)]) (by rfl) sc_lengths.nd rfl rfl (sw_true rfl rfl rfl (by decide +kernel)) (pi_list (pv 1)) (blkOk_by (own := [("length", 4)]) (N := ["views", "tried", "possible", "beyond", "length"]) (sc := defScope s_lengths) (by decide +kernel)) (fun _ _ _ _ _ => pg_name (i := 4) sc_lengths.nd rfl (.inl rfl)) (fun _ _ _ _ _ => (pts_one (pt_cmpR op_notN (pe_own C_known_signs hr (by decide) (by rfl) (pa_cons (pv 0) (pa_cons (pv 4) pa_nil))) pe_non (nomark _)))) (fun _ _ _ _ _ => (pv 4)))
      (pss_cons (ps_if (pt_cmpR op_notIn_seq (pe_ix ix_list (pv 1) (pe_un un_neg pe_int) (fun _ _ => rfl)) (pv 2) (by rfl)) (pss_one (ps_ret (pe_tup (pa_cons (pe_callTy call_tuple_of (by rfl) B.tuple (by decide +kernel) (pa_cons (pv 2) pa_nil)) (pa_cons pe_non pa_nil))))) pss_nil)
      (pss_cons (ps_set (i := 3) sc_lengths.nd rfl (.inr rfl) (pe_ix ix_list (pv 1) (pe_un un_neg pe_int) (fun _ _ => rfl)))
      (pss_cons (ps_while PassesOwn.never (pt_cmpR op_in_seq (pe_op op_sub (pv 3) pe_int) (pv 2) (by rfl))
      (pss_one (ps_aug (i := 3) sc_lengths.nd rfl (.inr rfl) pe_int ip_sub)))
      (pss_one (ps_ret (pe_tup (pa_cons (pe_callTy call_tuple_of (by rfl) B.tuple (by decide +kernel) (pa_cons (pe_lc (own := [("length", 4)]) (by rfl) sc_lengths.nd (pi_list (pv 2)) (blkOk_by (own := [("length", 4)]) (N := ["views", "tried", "possible", "beyond", "length"]) (sc := defScope s_lengths) (by decide +kernel)) (fun _ _ _ _ _ => pg_name (i := 4) sc_lengths.nd rfl (.inl rfl)) (fun _ _ _ _ _ => (pts_one (pt_cmpR op_lt (pv 4) (pv 3) (nomark _)))) (fun _ _ _ _ _ => (pv 4))) pa_nil)) (pa_cons (pv 3) pa_nil))))))))))), ?_⟩
    refine ⟨_, rfl, a, ws, rfl, hV, fun G1 s1 => ?_⟩
    refine ⟨rfl, fun T nT => ?_⟩
    have sT : Same G1 (upd G1 T (.lst (rgV 0 ((81 : Nat) : Int)))) := same_new nT
    have eT : upd G1 T (.lst (rgV 0 ((81 : Nat) : Int))) T = some (.lst (rgV 0 ((81 : Nat) : Int))) := upd_same
    generalize upd G1 T (.lst (rgV 0 ((81 : Nat) : Int))) = G2 at sT eT
    have hV2 := hV.same (s1.trans sT)
    refine ⟨_, rfl, T, rfl, ⟨_, .inl (.inl eT)⟩, fun M nM => lc_list (K := K) (a := T) (xs := rgV 0 ((81 : Nat) : Int)) (fun i J => J M = some (.lst (natV (possL ws i))) ∧ Same G2 J)
      ⟨upd_same, same_new nM⟩ (fun i J _ ⟨_, sJ⟩ => .inl (.inl (sJ _ _ eT))) ?_ ?_⟩
    · rintro i x J hi ⟨eM, sJ⟩
      rw [rg_get] at hi
      have i81 : i < 81 := Decidable.byContradiction fun h => by
        rw [if_neg h] at hi
        cases hi
      rw [if_pos i81] at hi
      cases hi
      have pl := possL_len ws i
      refine ⟨rfl, _, rfl, _, rfl, a, i, ws, rfl, hV2.same sJ, by omega, fun no G sG => ⟨rfl, _, rfl, iteNS rfl ?_⟩, fun d kvs G nd sG eD kn => ⟨rfl, _, rfl, ?_⟩⟩
      · refine ⟨?_, sJ.trans sG⟩
        rw [possL_no (fun ⟨cs, l, h⟩ => no cs l h)]
        exact sG _ _ eM
      · rw [decide_eq_false (fun h => by cases h)]
        refine iteT ⟨_, rfl, _, sG _ _ eM, small1000 ?_, ?_, same_offF (sJ.trans sG) nM⟩
        · unfold natV
          rw [List.length_map]
          omega
        · rw [upd_same, possL_yes ⟨wrote kvs 46 i, wrote_len .., wrote_fits kn⟩]
          unfold natV
          rw [List.map_append]
          rfl
    · rintro J ⟨eM, sJ⟩
      rw [rg_len] at eM
      have s2 := s1.trans (sT.trans sJ)
      refine ⟨_, rfl, _, rfl, T, _, _, _, rfl, rfl, .inl (.inl (sJ _ _ eT)), last, _, rfl, M, _, rfl, .inl (.inl (.inl eM)), rfl, flat_natV _, _, rfl, ?_⟩
      rw [in_natV]
      by_cases p80 : Poss ws 80
      · rw [decide_eq_true (show (0 : Int) ≤ 80 ∧ (80 : Int).toNat ∈ possL ws 81 from ⟨by decide, mem_possL.mpr ⟨by decide, p80⟩⟩)]
        refine iteF ⟨_, rfl, _, rfl, T, _, _, _, rfl, rfl, .inl (.inl (sJ _ _ eT)), last, ?_⟩
        refine ⟨fun m σ J1 => ∃ (b : Nat) (u v : Option V), m = b ∧ b ≤ 80 ∧ σ = [some (.ref a), some (.ref T), some (.ref M), some (.int (b : Int)), u] ∧ J1 = J ∧ ∀ n, b ≤ n → n ≤ 80 → Poss ws n, ⟨80, 80, none, none, rfl, Nat.le_refl _, rfl, rfl, fun n h1 h2 => by rw [show n = 80 by omega]; exact p80⟩, ?_⟩
        rintro m σ J1 ⟨b, u, v, rfl, b80, rfl, rfl, hb⟩
        refine ⟨_, rfl, _, _, rfl, rfl, _, rfl, M, _, rfl, .inl (.inl (.inl eM)), rfl, flat_natV _, _, rfl, ?_⟩
        rw [in_natV]
        by_cases hq : (0 : Int) ≤ (m : Int) - 1 ∧ ((m : Int) - 1).toNat ∈ possL ws 81
        · rw [decide_eq_true hq]
          refine iteT ⟨_, fun σ' H' h => h, _, rfl, _, _, rfl, rfl, ?_⟩
          refine ⟨m - 1, by omega, m - 1, u, none, rfl, by omega, ?_, rfl, fun n h1 h2 => ?_⟩
          · have : ((m : Int) - 1) = ((m - 1 : Nat) : Int) := by omega
            show [_, _, _, some (V.int ((m : Int) - 1)), _] = _
            rw [this]
          · rcases Nat.lt_or_ge n m with h | h
            · have e : ((m : Int) - 1).toNat = n := by omega
              rw [e] at hq
              exact (mem_possL.mp hq.2).2
            · exact hb n h h2
        · rw [decide_eq_false hq]
          refine iteF ?_
          refine ⟨_, rfl, M, rfl, ⟨_, .inl (.inl eM)⟩, fun N nN => lc_list (K := K) (a := M) (xs := natV (possL ws 81)) (fun i J2 => J2 N = some (.lst (natV (((possL ws 81).take i).filter fun n => decide (n < m)))) ∧ Same J1 J2)
            ⟨upd_same, same_new nN⟩ (fun i J2 _ ⟨_, s3⟩ => .inl (.inl (s3 _ _ eM))) ?_ ?_⟩
          · rintro i x J2 hi ⟨eN, s3⟩
            unfold natV at hi
            rw [List.getElem?_map] at hi
            cases hx : (possL ws 81)[i]? with
            | none =>
              rw [hx] at hi
              cases hi
            | some q =>
              rw [hx] at hi
              cases hi
              have pl := possL_len ws 81
              refine ⟨rfl, _, rfl, _, rfl, _, _, rfl, rfl, _, rfl, ?_⟩
              by_cases qm : q < m
              · rw [decide_eq_true (show (q : Int) < (m : Int) by omega)]
                refine iteT ⟨_, rfl, _, eN, small1000 ?_, ?_, same_offF s3 nN⟩
                · unfold natV
                  rw [List.length_map]
                  refine Nat.le_trans (List.length_filter_le ..) ?_
                  rw [List.length_take]
                  omega
                · rw [upd_same, takeF_next hx, List.filter_append, List.filter_cons, decide_eq_true qm]
                  unfold natV
                  rw [List.map_append]
                  rfl
              · rw [decide_eq_false (show ¬ (q : Int) < (m : Int) by omega)]
                refine iteF ⟨?_, s3⟩
                rw [eN, takeF_next hx, List.filter_append, List.filter_cons, decide_eq_false qm]
                simp only [Bool.false_eq_true, if_false, List.filter_nil, List.append_nil]
          · rintro J2 ⟨eN, s3⟩
            have ll : (natV (possL ws 81)).length = (possL ws 81).length := by
              unfold natV
              rw [List.length_map]
            rw [ll, List.take_length, possL_lt ws (show m ≤ 81 by omega)] at eN
            refine ⟨N, _, rfl, .inl ⟨.inl (.inl eN), fun S nS => ?_⟩⟩
            have sS : Same J2 (upd J2 S (.tup (natV (possL ws m)))) := same_new nS
            refine ⟨_, rfl, by show 2 ≤ sizeLine; decide, fun R nR => ?_⟩
            have sR : Same (upd J2 S (.tup (natV (possL ws m)))) (upd (upd J2 S (.tup (natV (possL ws m)))) R (.tup [.ref S, .int (m : Int)])) := same_new nR
            refine k R S (possL ws m) _ _ (s2.trans (s3.trans (sS.trans sR))) upd_same (sR _ _ upd_same) (.inr ⟨m, rfl, b80, rfl, hb, ?_⟩)
            by_cases m0 : m = 0
            · exact .inl m0
            · refine .inr fun h => hq ⟨by omega, mem_possL.mpr ⟨by omega, ?_⟩⟩
              rw [show ((m : Int) - 1).toNat = m - 1 by omega]
              exact h
      · rw [decide_eq_false (show ¬ ((0 : Int) ≤ 80 ∧ (80 : Int).toNat ∈ possL ws 81) from fun h => p80 (mem_possL.mp h.2).2)]
        refine iteT ⟨_, rfl, M, _, rfl, .inl ⟨.inl (.inl eM), fun S nS => ?_⟩⟩
        have sS : Same J (upd J S (.tup (natV (possL ws 81)))) := same_new nS
        refine ⟨by show 2 ≤ sizeLine; decide, fun R nR => ?_⟩
        have sR : Same (upd J S (.tup (natV (possL ws 81)))) (upd (upd J S (.tup (natV (possL ws 81)))) R (.tup [.ref S, .non])) := same_new nR
        exact k R S (possL ws 81) _ _ (s2.trans (sS.trans sR)) upd_same (sR _ _ upd_same) (.inl ⟨rfl, rfl, p80⟩)
/-! ### only_text, least_text -/
/-- the least text -/
def Least (ws : List VW) (v : V) : Prop := (v = .non ∧ possL ws 81 = []) ∨ ∃ n kvs y, v = .str y ∧ n ≤ 80 ∧ Poss ws n ∧ (∀ m, m < n → ¬ Poss ws m) ∧ Knows n kvs (Fits ws) ∧ y.cps.toList = wrote kvs 46 n
def spLeast (C : Addr) : Sp := fun vs H Q _ => ∃ (a : Addr) (ws : List VW), vs = [.ref a] ∧ ViewsAt C H a ws ∧ ∀ (v : V) (G : Hp), Same H G → Least ws v → Q v G
theorem possL_head {ws : List VW} {m q : Nat} {l : List Nat} (h : possL ws m = q :: l) : q < m ∧ Poss ws q ∧ ∀ k, k < q → ¬ Poss ws k := by
  have hq := mem_possL.mp (show q ∈ possL ws m by rw [h]; exact List.mem_cons_self ..)
  refine ⟨hq.1, hq.2, fun k hk hp => ?_⟩
  have mk : k ∈ possL ws m := mem_possL.mpr ⟨by omega, hp⟩
  have pw : (possL ws m).Pairwise (· < ·) := by
    unfold possL
    exact List.Pairwise.filter _ List.pairwise_lt_range
  rw [h] at mk pw
  rcases List.mem_cons.mp mk with e | e
  · omega
  · have := (List.pairwise_cons.mp pw).1 k e
    omega
theorem dot1 : (⟨#[46]⟩ : Str).cps.toList = [46] := rfl
theorem cal_least (B : Bi mg) (D : At K mg "least_text" s_least_text ps_least_text) (C_lengths : Cal P w K mg base 5 "lengths" ps_lengths (spLengths C)) (C_known_signs : Cal P w K mg base 3 "known_signs" ps_known_signs (spKnown C)) (C_written_out : Cal P w K mg base 1 "written_out" ps_written_out spWritten) : Cal P w K mg base 6 "least_text" ps_least_text (spLeast C) := by
  refine D.cal sc_least_text (fun vs H Q E h => ?_) (fun f cdv A outer s H vs Q E hr h => ?_)
  · obtain ⟨a, ws, rfl, _⟩ := h
    rfl
  · obtain ⟨a, ws, rfl, hV, k⟩ := h
    have s0 : atI signs.cps.toList 0 = some 46 := by decide +kernel
    refine ⟨_, (pss_cons (ps_asg (pe_own C_lengths hr (by decide) (by rfl) (pa_cons (pv 0) pa_nil)) (pg_tup rfl (pgs_cons (pg_name (i := 1) sc_least_text.nd rfl (.inl rfl)) (pgs_cons (pg_name (i := 2) sc_least_text.nd rfl (.inl rfl)) pgs_nil))))
      (pss_cons (ps_set (i := 3) sc_least_text.nd rfl (.inl rfl) (pe_mid (pe_ifExp (pt_truth (pv 1) (fun _ => rfl)) (pe_ix ix_tup (pv 1) pe_int (fun _ _ => rfl)) (pv 2))))
      (pss_cons (ps_if (pt_cmpR op_isN (pv 3) pe_non (nomark _)) (pss_one (ps_ret pe_non)) pss_nil)
      (pss_one (ps_ret (pe_own C_written_out hr (by decide) (by rfl) (pa_cons (pe_own C_known_signs hr (by decide) (by rfl) (pa_cons (pv 0) (pa_cons (pv 3) pa_nil))) (pa_cons (pv 3) (pa_cons (pe_ix ix_str (pe_cst B.SIGNS (by rfl)) pe_int (fun _ _ => rfl)) pa_nil))))))))), ?_⟩
    refine ⟨_, rfl, a, ws, rfl, hV, fun T S sm b G1 s1 eT eS L => ?_⟩
    refine ⟨T, _, rfl, .inl (.inl eT), rfl, _, _, rfl, _, _, rfl, rfl, ?_⟩
    -- the least length
    refine ⟨fun v J => J = G1 ∧ ((v = .non ∧ possL ws 81 = []) ∨ ∃ n : Nat, v = .int (n : Int) ∧ n ≤ 80 ∧ Poss ws n ∧ ∀ m, m < n → ¬ Poss ws m), ?_, ?_⟩
    · refine ⟨_, rfl, _, .inr (.inl ⟨_, .inl (.inl eS), rfl⟩), ?_⟩
      cases sm with
      | nil =>
        refine iteF ⟨_, rfl, rfl, ?_⟩
        rcases L with ⟨rfl, e, _⟩ | ⟨m, rfl, m80, e, hb, _⟩
        · exact .inl ⟨rfl, e.symm⟩
        · refine .inr ⟨m, rfl, m80, hb m (Nat.le_refl _) m80, fun q hq hp => ?_⟩
          have := mem_possL.mpr ⟨hq, hp⟩
          rw [← e] at this
          cases this
      | cons q l =>
        refine iteT ⟨_, rfl, S, _, _, _, rfl, rfl, .inl (.inl eS), at_of' (xs := natV (q :: l)) (j := 0) rfl rfl, rfl, .inr ⟨q, rfl, ?_⟩⟩
        rcases L with ⟨_, e, _⟩ | ⟨m, _, m80, e, _, _⟩
        · obtain ⟨h1, h2, h3⟩ := possL_head e.symm
          exact ⟨by omega, h2, h3⟩
        · obtain ⟨h1, h2, h3⟩ := possL_head e.symm
          exact ⟨by omega, h2, h3⟩
    · rintro v _ ⟨rfl, hv⟩
      refine ⟨_, rfl, rfl, _, rfl, ?_⟩
      rcases hv with ⟨rfl, e⟩ | ⟨n, rfl, n80, hp, hl⟩
      · exact iteT (k _ _ s1 (.inl ⟨rfl, e⟩))
      · refine iteF ⟨_, rfl, _, rfl, a, n, ws, rfl, hV.same s1, by omega, fun no => ?_, fun d kvs G2 nd s2 eD kn => ?_⟩
        · obtain ⟨cs, l, h⟩ := hp
          exact absurd h (no cs l)
        · refine ⟨_, rfl, signs, 0, 46, rfl, rfl, by decide +kernel, s0, d, n, 46, kvs, _, _, rfl, rfl, eD, kn, by omega, fun y G3 s3 ey => ?_⟩
          exact k _ G3 (s1.trans (s2.trans s3)) (.inr ⟨n, kvs, y, rfl, n80, hp, hl, kn, ey⟩)
/-- what only_text tells: None, or a text that fits, at a length that alone is possible up to 80, with no open place -/
def Sole (ws : List VW) (v : V) : Prop := v = .non ∨ ∃ n kvs y, v = .str y ∧ possL ws 81 = [n] ∧ ¬ Poss ws 80 ∧ Knows n kvs (Fits ws) ∧ y.cps.toList = wrote kvs 63 n ∧ 63 ∉ y.cps.toList
def spOnly (C : Addr) : Sp := fun vs H Q _ => ∃ (a : Addr) (ws : List VW), vs = [.ref a] ∧ ViewsAt C H a ws ∧ ∀ (v : V) (G : Hp), Same H G → Sole ws v → Q v G
end
end Gu
namespace Gu
open PySem PySem.Spec PyProof.Rows L2
theorem offT {H J : Hp} {M : Addr} {o : HO} (s : Same H J) (n : H M = none) : Same H (upd J M o) := fun b x e => by
  rw [upd_ne (ne_of_none e n)]
  exact s _ _ e
end Gu
namespace Gu
open PySem PySem.Spec PyProof.Rows L2
/-! ### leaders: who stands for whom -/
def stepL (x : Key) (q : Key × Key) : Key := if x = q.1 then q.2 else x
def lead (ls : List (Key × Key)) (x : Key) : Key := ls.foldl stepL x
def rkL (ls : List (Key × Key)) (x : Key) : Key × Nat := ls.foldl (fun p q => if p.1 = q.1 then (q.2, p.2 + 1) else p) (x, 0)
def ldV (ls : List (Key × Key)) : List (Key × V) := ls.map fun q => (q.1, kV q.2)
theorem lead_app (ls ms : List (Key × Key)) (x : Key) : lead (ls ++ ms) x = lead ms (lead ls x) := List.foldl_append ..
theorem lead_snoc (ls : List (Key × Key)) (k v x : Key) : lead (ls ++ [(k, v)]) x = if lead ls x = k then v else lead ls x := lead_app ls [(k, v)] x
theorem rk_one (ls : List (Key × Key)) (x : Key) : (rkL ls x).1 = lead ls x := by
  have a : ∀ (ls : List (Key × Key)) (x : Key) (n : Nat), (ls.foldl (fun (p : Key × Nat) (q : Key × Key) => if p.1 = q.1 then (q.2, p.2 + 1) else p) (x, n)).1 = lead ls x := by
    intro ls
    induction ls with
    | nil => exact fun _ _ => rfl
    | cons q ls ih =>
      intro x n
      show (ls.foldl _ (if x = q.1 then (q.2, n + 1) else (x, n))).1 = lead ls (stepL x q)
      unfold stepL
      by_cases e : x = q.1
      · rw [if_pos e, if_pos e]
        exact ih _ _
      · rw [if_neg e, if_neg e]
        exact ih _ _
  exact a ls x 0
theorem rk_snoc (ls : List (Key × Key)) (k v x : Key) : (rkL (ls ++ [(k, v)]) x).2 = (rkL ls x).2 + if lead ls x = k then 1 else 0 := by
  have e : rkL (ls ++ [(k, v)]) x = if (rkL ls x).1 = k then (v, (rkL ls x).2 + 1) else rkL ls x := List.foldl_append ..
  rw [e, rk_one]
  by_cases h : lead ls x = k
  · rw [if_pos h, if_pos h]
  · rw [if_neg h, if_neg h]
    rfl
theorem valL_snoc (ls : List (Key × Key)) (k v x : Key) : valV (ldV (ls ++ [(k, v)])) x = match valV (ldV ls) x with | some u => some u | none => if k = x then some (kV v) else none := by
  unfold ldV valV
  rw [List.map_append, List.find?_append]
  cases e : (ls.map fun q => (q.1, kV q.2)).find? fun kv => decide (kv.1 = x) with
  | some u => rfl
  | none =>
    rw [Option.none_or]
    show Option.map _ (List.find? _ [(k, kV v)]) = if k = x then some (kV v) else none
    by_cases h : k = x
    · rw [if_pos h, List.find?_cons, decide_eq_true (show (k, kV v).1 = x from h)]
      rfl
    · rw [if_neg h, List.find?_cons, decide_eq_false (show ¬ (k, kV v).1 = x from h)]
      rfl
/-- one after another, each that led itself goes to another that does -/
inductive Lds : List (Key × Key) → Prop
  | nil : Lds []
  | snoc {ls : List (Key × Key)} {i : Int} {v : Key} : Lds ls → valV (ldV ls) (.inl i) = none → valV (ldV ls) v = none → Sum.inl i ≠ v → Lds (ls ++ [(.inl i, v)])
theorem Lds.free {ls : List (Key × Key)} (h : Lds ls) : ∀ {x : Key}, valV (ldV ls) x = none → lead ls x = x ∧ (rkL ls x).2 = 0 := by
  induction h with
  | nil => exact fun _ => ⟨rfl, rfl⟩
  | @snoc ls i v h _ _ _ ih =>
    intro x e
    rw [valL_snoc] at e
    cases e2 : valV (ldV ls) x with
    | some u =>
      rw [e2] at e
      cases e
    | none =>
      rw [e2] at e
      obtain ⟨a, b⟩ := ih e2
      have ne : ¬ Sum.inl i = x := fun q => by
        have e : (if Sum.inl i = x then some (kV v) else none) = none := e
        rw [if_pos q] at e
        cases e
      rw [lead_snoc, rk_snoc, a, b, if_neg (fun q => ne q.symm), if_neg (fun q => ne q.symm)]
      exact ⟨rfl, rfl⟩
theorem Lds.goes {ls : List (Key × Key)} (h : Lds ls) : ∀ {x : Key} {u : V}, valV (ldV ls) x = some u → ∃ y, u = kV y ∧ lead ls x = lead ls y ∧ (rkL ls x).2 = (rkL ls y).2 + 1 := by
  induction h with
  | nil => exact fun e => (by cases e)
  | @snoc ls i v h hk hv ne ih =>
    intro x u e
    rw [valL_snoc] at e
    cases e2 : valV (ldV ls) x with
    | some u2 =>
      rw [e2] at e
      obtain ⟨y, h1, h2, h3⟩ := ih e2
      have e : some u2 = some u := e
      refine ⟨y, by rw [← Option.some.inj e]; exact h1, ?_, ?_⟩
      · rw [lead_snoc, lead_snoc, h2]
      · rw [rk_snoc, rk_snoc, h2, h3]
        omega
    | none =>
      rw [e2] at e
      have e3 : (if Sum.inl i = x then some (kV v) else none) = some u := e
      clear e
      by_cases q : Sum.inl i = x
      · rw [if_pos q] at e3
        subst q
        obtain ⟨a, b⟩ := h.free hk
        obtain ⟨c, d⟩ := h.free hv
        refine ⟨v, (Option.some.inj e3).symm, ?_, ?_⟩
        · rw [lead_snoc, lead_snoc, a, c, if_pos rfl, if_neg ne.symm]
        · rw [rk_snoc, rk_snoc, a, b, c, d, if_pos rfl, if_neg ne.symm]
      · rw [if_neg q] at e3
        cases e3
theorem Lds.str {ls : List (Key × Key)} (h : Lds ls) (z : Str) : valV (ldV ls) (.inr z) = none := by
  induction h with
  | nil => rfl
  | @snoc ls i v h _ _ _ ih =>
    rw [valL_snoc, ih]
    show (if Sum.inl i = Sum.inr z then some (kV v) else none) = none
    exact if_neg (by intro q; cases q)
theorem Lds.lead_free {ls : List (Key × Key)} (h : Lds ls) : ∀ (x : Key), valV (ldV ls) (lead ls x) = none := by
  induction h with
  | nil => exact fun _ => rfl
  | @snoc ls i v h hk hv ne ih =>
    intro x
    rw [lead_snoc, valL_snoc]
    by_cases q : lead ls x = Sum.inl i
    · rw [if_pos q, hv]
      exact if_neg ne
    · rw [if_neg q, ih]
      exact if_neg (fun e => q e.symm)
theorem Lds.len {ls : List (Key × Key)} : (ldV ls).length = ls.length := List.length_map ..
def isSt : Key → Bool
  | .inr _ => true
  | .inl _ => false
def joinL : List (Key × Key) → List (Key × Key) → Option (List (Key × Key))
  | ls, [] => some ls
  | ls, (a, b) :: r =>
    if lead ls a = lead ls b then joinL ls r
    else if (isSt (lead ls a) && isSt (lead ls b)) = true then none
    else if isSt (lead ls a) = true then joinL (ls ++ [(lead ls b, lead ls a)]) r
    else joinL (ls ++ [(lead ls a, lead ls b)]) r
theorem Lds.add {ls : List (Key × Key)} (h : Lds ls) {a b : Key} (ne : lead ls a ≠ lead ls b) (na : isSt (lead ls a) = false) : Lds (ls ++ [(lead ls a, lead ls b)]) := by
  cases e : lead ls a with
  | inr z =>
    rw [e] at na
    cases na
  | inl i =>
    rw [e] at ne
    have f := h.lead_free a
    rw [e] at f
    exact .snoc h f (h.lead_free b) ne
theorem join_ok : ∀ {ps ls ms : List (Key × Key)}, Lds ls → joinL ls ps = some ms → Lds ms ∧ (∃ ex, ms = ls ++ ex) ∧ ∀ q ∈ ps, lead ms q.1 = lead ms q.2
  | [], ls, ms, h, e => by
    cases e
    exact ⟨h, ⟨[], (List.append_nil _).symm⟩, fun q hq => by cases hq⟩
  | (a, b) :: r, ls, ms, h, e => by
    unfold joinL at e
    by_cases q : lead ls a = lead ls b
    · rw [if_pos q] at e
      obtain ⟨h1, ⟨ex, rfl⟩, h3⟩ := join_ok h e
      refine ⟨h1, ⟨ex, rfl⟩, fun p hp => ?_⟩
      rcases List.mem_cons.mp hp with rfl | hp
      · show lead (ls ++ ex) a = lead (ls ++ ex) b
        rw [lead_app, lead_app, q]
      · exact h3 p hp
    · rw [if_neg q] at e
      by_cases q2 : (isSt (lead ls a) && isSt (lead ls b)) = true
      · rw [if_pos q2] at e
        cases e
      · rw [if_neg q2] at e
        by_cases q3 : isSt (lead ls a) = true
        · rw [if_pos q3] at e
          have nb : isSt (lead ls b) = false := by
            cases z : isSt (lead ls b) with
            | false => rfl
            | true =>
              rw [q3, z] at q2
              exact absurd rfl q2
          obtain ⟨h1, ⟨ex, rfl⟩, h3⟩ := join_ok (h.add (Ne.symm q) nb) e
          refine ⟨h1, ⟨[(lead ls b, lead ls a)] ++ ex, List.append_assoc ..⟩, fun p hp => ?_⟩
          rcases List.mem_cons.mp hp with rfl | hp
          · show lead (ls ++ [(lead ls b, lead ls a)] ++ ex) a = lead (ls ++ [(lead ls b, lead ls a)] ++ ex) b
            rw [lead_app, lead_app _ _ b, lead_snoc, lead_snoc, if_pos rfl, if_neg q]
          · exact h3 p hp
        · rw [if_neg q3] at e
          obtain ⟨h1, ⟨ex, rfl⟩, h3⟩ := join_ok (h.add q (Bool.eq_false_iff.mpr q3)) e
          refine ⟨h1, ⟨[(lead ls a, lead ls b)] ++ ex, List.append_assoc ..⟩, fun p hp => ?_⟩
          rcases List.mem_cons.mp hp with rfl | hp
          · show lead (ls ++ [(lead ls a, lead ls b)] ++ ex) a = lead (ls ++ [(lead ls a, lead ls b)] ++ ex) b
            rw [lead_app, lead_app _ _ b, lead_snoc, lead_snoc, if_pos rfl, if_neg (Ne.symm q)]
          · exact h3 p hp
/-! ### plans by keys -/
def toK : V → Key
  | .int i => .inl i
  | .str z => .inr z
  | _ => .inl 0
theorem kV_toK {n : Nat} {x : V} (h : Plain n x) : kV (toK x) = x := by
  rcases h with ⟨i, rfl, _⟩ | ⟨c, rfl, _⟩ <;> rfl
theorem toK_kV (k : Key) : toK (kV k) = k := by
  cases k <;> rfl
def planK (rs : List Rec) (n : Nat) : List Key := (planV rs n).map toK
theorem planK_V {rs : List Rec} (hf : ∀ r ∈ rs, r.fit) (n : Nat) : (planK rs n).map kV = planV rs n := by
  unfold planK
  rw [List.map_map]
  have e : ∀ x ∈ planV rs n, (kV ∘ toK) x = x := fun x hx => kV_toK (plan_plain hf x hx)
  rw [List.map_congr_left e, List.map_id']
def shiftK (n : Nat) : Key → Key
  | .inl i => .inl ((n : Int) + i)
  | .inr z => .inr z
def pairsK (rs : List Rec) (n m : Nat) : List (Key × Key) := (planK rs n).zip ((planK rs m).map (shiftK n))
def sgK : Key → Nat
  | .inr z => z.cps.toList.getD 0 0
  | .inl _ => 46
def txL (ls : List (Key × Key)) (s n : Nat) : List Nat := (List.range n).map fun p => sgK (lead ls (.inl ((s + p : Nat) : Int)))
theorem txL_len (ls : List (Key × Key)) (s n : Nat) : (txL ls s n).length = n := by
  unfold txL
  rw [List.length_map, List.length_range]
theorem txL_fill {ls : List (Key × Key)} (h : Lds ls) {s n : Nat} {x : V} (hx : Plain n x) : fillN (txL ls s n) x = sgK (lead ls (match toK x with | .inl i => .inl ((s : Int) + i) | .inr z => .inr z)) := by
  rcases hx with ⟨i, rfl, i0, i1⟩ | ⟨c, rfl, _⟩
  · obtain ⟨j, rfl⟩ := Int.eq_ofNat_of_zero_le i0
    have jn : j < n := by omega
    show (txL ls s n).getD (Int.toNat (j : Int)) 0 = sgK (lead ls (.inl ((s : Int) + (j : Int))))
    rw [Int.toNat_natCast, List.getD_eq_getElem?_getD]
    unfold txL
    rw [List.getElem?_map, List.getElem?_range jn]
    show sgK (lead ls (.inl ((s + j : Nat) : Int))) = _
    rw [Int.natCast_add]
  · show (one c).cps.toList.getD 0 0 = sgK (lead ls (.inr (one c)))
    rw [(h.free (h.str (one c))).1]
    rfl
/-- the text and the shorter one are shown in the same way -/
theorem joined_shown {rs : List Rec} (hf : ∀ r ∈ rs, r.fit) {n m : Nat} {ms : List (Key × Key)} (l : (planV rs n).length = (planV rs m).length) (e : joinL [] (pairsK rs n m) = some ms) : cuts rs (txL ms 0 n) = cuts rs (txL ms n m) := by
  obtain ⟨h, _, all⟩ := join_ok .nil e
  have a := (shown_each hf (cs := txL ms 0 n) (ys := (planV rs (txL ms 0 n).length).map (fillN (txL ms 0 n)))).mpr rfl
  have b := (shown_each hf (cs := txL ms n m) (ys := (planV rs (txL ms n m).length).map (fillN (txL ms n m)))).mpr rfl
  rw [a, b, txL_len, txL_len]
  refine List.ext_getElem? fun j => ?_
  rw [List.getElem?_map, List.getElem?_map]
  by_cases hj : j < (planV rs n).length
  · have hj2 : j < (planV rs m).length := by omega
    rw [List.getElem?_eq_getElem hj, List.getElem?_eq_getElem hj2]
    have px := plan_plain hf _ (List.getElem_mem hj)
    have py := plan_plain hf _ (List.getElem_mem hj2)
    have mem : (toK (planV rs n)[j], shiftK n (toK (planV rs m)[j])) ∈ pairsK rs n m := by
      refine List.mem_of_getElem? (i := j) ?_
      unfold pairsK planK
      rw [List.getElem?_zip_eq_some, List.getElem?_map, List.getElem?_map, List.getElem?_map, List.getElem?_eq_getElem hj, List.getElem?_eq_getElem hj2]
      exact ⟨rfl, rfl⟩
    have q := all _ mem
    show some (fillN (txL ms 0 n) (planV rs n)[j]) = some (fillN (txL ms n m) (planV rs m)[j])
    rw [txL_fill h px, txL_fill h py]
    have e1 : (match toK (planV rs n)[j] with | .inl i => .inl (((0 : Nat) : Int) + i) | .inr z => .inr z : Key) = toK (planV rs n)[j] := by
      cases toK (planV rs n)[j] with
      | inl i =>
        show Sum.inl (((0 : Nat) : Int) + i) = Sum.inl i
        rw [show (((0 : Nat) : Int) + i) = i by omega]
      | inr z => rfl
    have e2 : (match toK (planV rs m)[j] with | .inl i => .inl ((n : Int) + i) | .inr z => .inr z : Key) = shiftK n (toK (planV rs m)[j]) := by
      cases toK (planV rs m)[j] <;> rfl
    rw [e1, e2]
    exact congrArg (fun k => some (sgK k)) q
  · rw [List.getElem?_eq_none (by omega), List.getElem?_eq_none (by omega)]
    rfl
end Gu
namespace Gu
open PySem PySem.Spec PyProof.Rows L2
/-! ### zip of a tuple and a list -/
/-- the tuple at a and the list at b as they stand at each turn, in new pairs -/
def ItzM (K : PySem.W.Frag) (a b : Addr) : It where
  go := fun i H => ∃ (xs ys : List V) (x y : V), SqT K H a xs ∧ SqL K H b ys ∧ xs[i]? = some x ∧ ys[i]? = some y
  yld := fun i H v G => ∃ T x y, v = .ref T ∧ H T = none ∧ G = upd H T (.tup [x, y]) ∧ (∀ xs, SqT K H a xs → xs[i]? = some x) ∧ ∀ ys, SqL K H b ys → ys[i]? = some y
  stop := fun i H => ∃ xs ys : List V, SqT K H a xs ∧ SqL K H b ys ∧ i ≤ xs.length ∧ i ≤ ys.length ∧ (i = xs.length ∨ i = ys.length)
theorem turn_zipM {P : Program} {w : World} {K : PySem.W.Frag} {es : List Expr} {kk : Nat} {tp : Pos} {a b z TI TO i1 i2 : Addr} (S : ZipSep2 z TI TO i1 i2 [i1, a] [i2, b]) :
    Turn P w K (.Tuple es kk tp) (ItzM K a b) [z, TI, TO, i1, i2] z (fun i h => IsZip h z TI TO .none ∧ IsTupOf2 h TI (.ref i1) (.ref i2) ∧ (∃ u v, IsTupOf2 h TO u v) ∧ h.IsTupleIter i1 a i ∧ h.IsListIter i2 b i) where
  mem := List.mem_cons_self ..
  obj := fun i h st c hc => by
    obtain ⟨hz, hTI, ⟨u, v, hTO⟩, ⟨o1, e1, _, d1⟩, ⟨o2, e2, _, d2⟩⟩ := st
    simp only [List.mem_cons, List.not_mem_nil, or_false] at hc
    rcases hc with rfl | rfl | rfl | rfl | rfl
    · exact ⟨_, hz, fun v q => nomatch q⟩
    · exact ⟨_, hTI, fun v q => nomatch q⟩
    · exact ⟨_, hTO, fun v q => nomatch q⟩
    · exact ⟨o1, e1, fun v q => by rw [d1] at q; cases q⟩
    · exact ⟨o2, e2, fun v q => by rw [d2] at q; cases q⟩
  keep := fun i h g st k => by
    obtain ⟨hz, hTI, ⟨u, v, hTO⟩, h1, h2⟩ := st
    exact ⟨k z (by simp) _ hz, k TI (by simp) _ hTI, ⟨u, v, k TO (by simp) _ hTO⟩, h1.at fun o q => k i1 (by simp) o q, h2.at fun o q => k i2 (by simp) o q⟩
  item := by
    intro X hP hw hK hc i pins s σ H E I hf st hg
    subst hP hw hK
    obtain ⟨hz, hTI, ⟨u0, v0, hTO⟩, h1, h2⟩ := st
    obtain ⟨xs, ys, x, y, hq, hq2, hx, hy⟩ := hg
    obtain ⟨its, rv, p1, _⟩ := I.tuple hq
    obtain ⟨its2, rv2, p2, _⟩ := I.list hq2
    obtain ⟨u, hu, ru⟩ := rv.get hx
    obtain ⟨u2, hu2, ru2⟩ := rv2.get hy
    have p2' : s.heap.IsList b its2.toArray := p2.isList
    have nbi : b ≠ i2 := fun e => by
      obtain ⟨o1, g1, c1, _⟩ := p2'
      obtain ⟨o2, g2, c2, _⟩ := h2
      rw [e] at g1
      cases g1.symm.trans g2
      exact absurd (Value.type.inj (c1.symm.trans c2)) (by decide)
    have p1' : s.heap.IsTuple a its.toArray := p1
    have nai : a ≠ i1 := fun e => by
      obtain ⟨o1, g1, c1, _⟩ := p1'
      obtain ⟨o2, g2, c2, _⟩ := h1
      rw [e] at g1
      cases g1.symm.trans g2
      exact absurd (Value.type.inj (c1.symm.trans c2)) (by decide)
    have hd : X.A.in1.handled = none := I.ok.hd hc
    have hzl : z < s.heap.objs.size := Heap.lt_size hz
    have il : i < its.toArray.size := by
      have := (List.getElem?_eq_some_iff.mp hu).1
      simpa using this
    have iy : i < its2.toArray.size := by
      have := (List.getElem?_eq_some_iff.mp hu2).1
      simpa using this
    refine wpAny_pyNext_zipD2_item S (Draws.tuple hd i1 a nai its.toArray) (Draws.list hd i2 b nbi its2.toArray) hz hTI hTO ⟨h1, p1'⟩ ⟨h2, p2'⟩ il iy fun x1 x2 h' tk y1 y2 b1 b2 d1 d2 b5 b6 b7 => ?_
    obtain rfl : x1 = u := by
      have : its[i]? = some x1 := by simpa using y1
      rw [hu] at this
      exact (Option.some.inj this).symm
    obtain rfl : x2 = u2 := by
      have : its2[i]? = some x2 := by simpa using y2
      rw [hu2] at this
      exact (Option.some.inj this).symm
    refine ⟨_, rfl, wpAny_letOwnedTupleGo_zip (s := { s with heap := h', toks := tk }) b1 fun h'' z'' sb => ?_⟩
    have hT2 : h''.get? s.heap.objs.size = some { cls := .type "tuple", data := .seq #[x1, x2] } := (sb.2 _ (Nat.ne_of_gt hzl)).trans b5
    have nw : ObjOk X.prog X.w (upd H s.heap.objs.size (.tup [x, y])) h'' s.heap.objs.size (.tup [x, y]) := ⟨by show 2 ≤ sizeLine; decide, [x1, x2], .cons ru (.cons ru2 .nil), ⟨_, hT2, rfl, _, rfl⟩⟩
    have I1 : Inv X pins σ (upd H s.heap.objs.size (.tup [x, y])) { s with heap := h'', toks := tk } :=
      I.turnedNew (ch := [z, TI, TO, i1, i2]) (fun c o hb q => (sb.2 c (fun q' => hb (by simp [q']))).trans (b7 c o (fun q' => hb (by simp [q'])) (fun q' => hb (by simp [q'])) (fun q' => hb (by simp [q'])) (fun q' => hb (by simp [q'])) q)) hf (Nat.le_refl _) nw
    refine ⟨.ref s.heap.objs.size, _, I1, rfl, ⟨_, x, y, rfl, I.hok.fresh (Nat.le_refl _), rfl, fun l hl => by rw [I.tuple_inj hl hq]; exact hx, fun l hl => by rw [I.list_inj hl hq2]; exact hy⟩, ⟨z'', ?_, ⟨x1, x2, ?_⟩, ?_, ?_⟩, fun c hcm => ?_⟩
    · exact (sb.2 _ S.TIz).trans (b7 _ _ S.TIz S.TITO S.TIi1 S.TIi2 hTI)
    · exact (sb.2 _ S.TOz).trans b2
    · exact d1.1.at fun o q => (sb.2 _ (Ne.symm S.zi1)).trans q
    · exact d2.1.at fun o q => (sb.2 _ (Ne.symm S.zi2)).trans q
    · have hlt : c < s.heap.objs.size := by
        simp only [List.mem_cons, List.not_mem_nil, or_false] at hcm
        rcases hcm with rfl | rfl | rfl | rfl | rfl
        · exact hzl
        · exact Heap.lt_size hTI
        · exact Heap.lt_size hTO
        · obtain ⟨_, e1, _⟩ := h1
          exact Heap.lt_size e1
        · obtain ⟨_, e2, _⟩ := h2
          exact Heap.lt_size e2
      rw [upd_ne (Nat.ne_of_lt hlt)]
      exact (hf c hcm).1
  done := by
    intro X hP hw hK hc i pins s σ H E I hf st hg
    subst hP hw hK
    obtain ⟨hz, hTI, ⟨u0, v0, hTO⟩, h1, h2⟩ := st
    obtain ⟨xs, ys, hq, hq2, l1, l2, hend⟩ := hg
    obtain ⟨its, rv, p1, _⟩ := I.tuple hq
    obtain ⟨its2, rv2, p2, _⟩ := I.list hq2
    have p2' : s.heap.IsList b its2.toArray := p2.isList
    have nbi : b ≠ i2 := fun e => by
      obtain ⟨o1, g1, c1, _⟩ := p2'
      obtain ⟨o2, g2, c2, _⟩ := h2
      rw [e] at g1
      cases g1.symm.trans g2
      exact absurd (Value.type.inj (c1.symm.trans c2)) (by decide)
    have p1' : s.heap.IsTuple a its.toArray := p1
    have nai : a ≠ i1 := fun e => by
      obtain ⟨o1, g1, c1, _⟩ := p1'
      obtain ⟨o2, g2, c2, _⟩ := h1
      rw [e] at g1
      cases g1.symm.trans g2
      exact absurd (Value.type.inj (c1.symm.trans c2)) (by decide)
    have hd : X.A.in1.handled = none := I.ok.hd hc
    have el : its.toArray.size = xs.length := by
      rw [List.size_toArray]
      exact rv.length.symm
    have el2 : its2.toArray.size = ys.length := by
      rw [List.size_toArray]
      exact rv2.length.symm
    exact wpAny_pyNext_zipD2_end S (Draws.tuple hd i1 a nai its.toArray) (Draws.list hd i2 b nbi its2.toArray) hz hTI hTO ⟨h1, p1'⟩ ⟨h2, p2'⟩ (by omega) (by omega) (by omega) fun h' tk hk => ⟨rfl, I.turnedL (t' := tk) (ch := [z, TI, TO, i1, i2]) (fun c o hb q =>
      hk c o (fun q' => hb (by simp [q'])) (fun q' => hb (by simp [q'])) (fun q' => hb (by simp [q'])) (fun q' => hb (by simp [q'])) q) hf⟩
  self := fun A i s Q E st h => wpAny_pyIter_zip st.1 h
theorem sepM (n a b : Nat) (h : a < n) (h2 : b < n) : ZipSep2 (n + 4) (n + 2) (n + 3) n (n + 1) [n, a] [n + 1, b] where
  TIz := by show (n + 2 : Nat) ≠ n + 4; omega
  TOz := by show (n + 3 : Nat) ≠ n + 4; omega
  TITO := by show (n + 2 : Nat) ≠ n + 3; omega
  TIi1 := by show (n + 2 : Nat) ≠ n; omega
  mem1 := List.mem_cons_self ..
  zf1 := by simp only [List.mem_cons, List.not_mem_nil, or_false]; show ¬ ((n + 4 : Nat) = n ∨ (n + 4 : Nat) = a); omega
  Tf1 := by simp only [List.mem_cons, List.not_mem_nil, or_false]; show ¬ ((n + 3 : Nat) = n ∨ (n + 3 : Nat) = a); omega
  TIi2 := by show (n + 2 : Nat) ≠ n + 1; omega
  mem2 := List.mem_cons_self ..
  zf2 := by simp only [List.mem_cons, List.not_mem_nil, or_false]; show ¬ ((n + 4 : Nat) = n + 1 ∨ (n + 4 : Nat) = b); omega
  Tf2 := by simp only [List.mem_cons, List.not_mem_nil, or_false]; show ¬ ((n + 3 : Nat) = n + 1 ∨ (n + 3 : Nat) = b); omega
  sep1_2 := by simp only [List.mem_cons, List.not_mem_nil, or_false]; show ¬ ((n : Nat) = n + 1 ∨ (n : Nat) = b); omega
  sep2_1 := by simp only [List.mem_cons, List.not_mem_nil, or_false]; show ¬ ((n + 1 : Nat) = n ∨ (n + 1 : Nat) = a); omega
def iZipM (K : PySem.W.Frag) (ta : TA) : TI := fun σ H R => ta σ H fun vs G => ∃ (a b : Addr) (xs ys : List V), vs = [.ref a, .ref b] ∧ SqT K G a xs ∧ SqL K G b ys ∧ R (ItzM K a b) G
theorem pi_zipM {X : Cx} {e e2 : Expr} {ta : TA} {p pos tp : Pos} {es : List Expr} {kk : Nat} (hg : Gl X "zip") (hm : X.mg "zip" = none) (ha : PA X [e, e2] ta)
    (hs : starEach [e, e2] X.env = (false, eval e X.env) :: starEach [e2] X.env := by rfl) (hpl : (backTo pos (starEach [e2] X.env)).any (·.1) = false := by rfl) :
    PI X (.Tuple es kk tp) (.Call (.Name "zip" p) [e, e2] [] pos) (iZipM X.K ta) := by
  refine ⟨fun pins s σ H R I h => ?_⟩
  refine Call_ (ld_blt I hg hm PyProof.Rows.boot_zip (PyProof.Rows.callWith_type1 (thn (ha.run pos pins s σ H _ I h) fun us s1 ⟨vs, G, I1, r1, q1⟩ => ?_) hs hpl))
  obtain ⟨a, b, xs, ys, ex, hq, hq2, q⟩ := q1
  subst ex
  cases r1 with
  | cons r rr =>
    cases rr with
    | cons r' rr =>
      cases rr
      cases r
      cases r'
      obtain ⟨its, rv, p1, _⟩ := I1.tuple hq
      have p1' : s1.heap.IsTuple a its.toArray := p1
      have al : a < s1.heap.objs.size := by
        obtain ⟨o, ho, _⟩ := p1'
        exact Heap.lt_size ho
      obtain ⟨its2, rv2, p2, _⟩ := I1.list hq2
      have p2' : s1.heap.IsList b its2.toArray := p2.isList
      have bl : b < s1.heap.objs.size := by
        obtain ⟨o, ho, _⟩ := p2'
        exact Heap.lt_size ho
      refine zip_begins2 (begins_tuple a its.toArray) (begins_list b its2.toArray) p1' p2' fun h' hz hTI hTO e1 e2 hsz hk => wpAny_pyIter_zip hz ?_
      have I2 : Inv X pins σ G { s1 with heap := h' } := I1.kept (t' := s1.toks) hk
      have S := sepM s1.heap.objs.size a b al bl
      refine ⟨s1.heap.objs.size + 4, [s1.heap.objs.size + 4, s1.heap.objs.size + 2, s1.heap.objs.size + 3, s1.heap.objs.size, s1.heap.objs.size + 1], _, _, G, rfl, I2, turn_zipM S, ⟨hz, hTI, ⟨_, _, hTO⟩, ⟨_, e1, rfl, rfl⟩, ⟨_, e2, rfl, rfl⟩⟩, fun c hcm => ?_, q⟩
      have le : s1.heap.objs.size ≤ c := by
        simp only [List.mem_cons, List.not_mem_nil, or_false] at hcm
        rcases hcm with rfl | rfl | rfl | rfl | rfl
        · exact Nat.le_add_right _ _
        · exact Nat.le_add_right _ _
        · exact Nat.le_add_right _ _
        · exact Nat.le_refl _
        · exact Nat.le_add_right _ _
      exact I1.fpOk le (I1.hok.fresh le)
theorem walk_zipM {K : PySem.W.Frag} {a b : Addr} {xs ys : List V} (el : xs.length = ys.length) : Walk (ItzM K a b) xs.length (fun H => SqT K H a xs ∧ SqL K H b ys) (fun i H v G => ∃ T x y, xs[i]? = some x ∧ ys[i]? = some y ∧ v = .ref T ∧ H T = none ∧ G = upd H T (.tup [x, y])) where
  goes := fun i H hi h => ⟨xs, ys, xs[i], ys[i]'(by omega), h.1, h.2, List.getElem?_eq_getElem hi, List.getElem?_eq_getElem (by omega)⟩
  stops := fun H h => ⟨xs, ys, h.1, h.2, Nat.le_refl _, by omega, .inl rfl⟩
  yields := fun i H v G hi h ⟨T, x, y, e1, e2, e3, e4, e5⟩ => ⟨T, x, y, e4 xs h.1, e5 ys h.2, e1, e2, e3⟩
end Gu
namespace Gu
open PySem PySem.Spec PyProof.Rows L2
/-! ### leader, joined -/
theorem kV_inj {a b : Key} (h : kV a = kV b) : a = b := by
  rw [← toK_kV a, h, toK_kV]
theorem joinL_cons (ls r : List (Key × Key)) (a b : Key) : joinL ls ((a, b) :: r) = if lead ls a = lead ls b then joinL ls r
    else if (isSt (lead ls a) && isSt (lead ls b)) = true then none
    else if isSt (lead ls a) = true then joinL (ls ++ [(lead ls b, lead ls a)]) r
    else joinL (ls ++ [(lead ls a, lead ls b)]) r := rfl
theorem scalK (a b : Key) : scal (kV a) (kV b) = true := by
  cases a <;> cases b <;> rfl
theorem putK_new {ls : List (Key × Key)} {k v : Key} (h : valV (ldV ls) k = none) : putK (ldV ls) k (kV v) = ldV (ls ++ [(k, v)]) := by
  have e : ((ldV ls).any fun kv => decide (kv.1 = k)) = false := by
    unfold valV at h
    rw [Option.map_eq_none_iff, List.find?_eq_none] at h
    rw [List.any_eq_false]
    exact h
  unfold putK
  rw [e, if_neg (by decide)]
  unfold ldV
  rw [List.map_append]
  rfl
section
variable {P : Program} {w : World} {K : PySem.W.Frag} {mg : Str → Option Value} {base : Heap} {C : Addr}
theorem isaK {H : Hp} (k : Key) : Isa K H (kV k) "str" (isSt k) := by
  cases k with
  | inl i => exact ⟨_, .base (.int i), kit_ty (show kitB "int" "str" = some false by decide +kernel)⟩
  | inr z => exact ⟨_, .base (.str z), kit_ty (show kitB "str" "str" = some true by decide +kernel)⟩
def spLeader : Sp := fun vs H Q _ => ∃ (d : Addr) (ls : List (Key × Key)) (x : Key), vs = [.ref d, kV x] ∧ H d = some (.dK (ldV ls)) ∧ Lds ls ∧ Q (kV (lead ls x)) H
theorem cal_leader (B : Bi mg) (D : At K mg "leader" s_leader ps_leader) : Cal P w K mg base 1 "leader" ps_leader spLeader := by
  refine D.cal sc_leader (fun vs H Q E h => ?_) (fun f cdv A outer s H vs Q E hr h => ?_)
  · obtain ⟨d, ls, x, rfl, _⟩ := h
    rfl
  · obtain ⟨d, ls, x, rfl, hd, hl, k⟩ := h
    refine ⟨_, (pss_cons (ps_while PassesOwn.never (pt_cmp (pc_din (Nat.lt_of_le_of_lt (Nat.add_le_add_left (by decide) _) hr.units) (pv 1) (pv 0)))
      (pss_one (ps_set (i := 1) sc_leader.nd rfl (.inl rfl) (pe_dget (Nat.lt_of_le_of_lt (Nat.add_le_add_left (by decide) _) hr.units) (pv 0) (pv 1) (fun _ _ => rfl)))))
      (pss_one (ps_ret (pv 1)))), ?_⟩
    refine ⟨fun m σ J => ∃ y : Key, m = (rkL ls y).2 ∧ σ = [some (.ref d), some (kV y)] ∧ J = H ∧ lead ls y = lead ls x, ⟨_, x, rfl, rfl, rfl, rfl⟩, ?_⟩
    rintro m σ J ⟨y, rfl, rfl, rfl, ey⟩
    refine ⟨_, rfl, _, rfl, d, _, rfl, DGet.k hd, _, rfl, ?_⟩
    cases e : valV (ldV ls) y with
    | none =>
      rw [← ey, (hl.free e).1] at k
      exact iteF ⟨_, rfl, k⟩
    | some u =>
      obtain ⟨z, rfl, h1, h2⟩ := hl.goes e
      have g : DGet J d (kV y) (some (kV z)) := by
        rw [← e]
        exact DGet.k hd
      exact iteT ⟨_, fun σ' H' h => h, _, rfl, _, rfl, d, _, rfl, g, (rkL ls z).2, by omega, z, rfl, rfl, rfl, by rw [← h1, ey]⟩
def spJoined : Sp := fun vs H Q _ => ∃ (a b : Addr) (xs ys : List Key), vs = [.ref a, .ref b] ∧ H a = some (.tup (xs.map kV)) ∧ H b = some (.lst (ys.map kV)) ∧ xs.length = ys.length ∧ xs.length ≤ 600 ∧
  (joinL [] (xs.zip ys) = none → ∀ G, Same H G → Q .non G) ∧ ∀ (d : Addr) (ls : List (Key × Key)) (G : Hp), joinL [] (xs.zip ys) = some ls → Lds ls → Same H G → G d = some (.dK (ldV ls)) → Q (.ref d) G
theorem cal_joined (B : Bi mg) (D : At K mg "joined" s_joined ps_joined) (C_leader : Cal P w K mg base 1 "leader" ps_leader spLeader) : Cal P w K mg base 2 "joined" ps_joined spJoined := by
  refine D.cal sc_joined (fun vs H Q E h => ?_) (fun f cdv A outer s H vs Q E hr h => ?_)
  · obtain ⟨a, b, xs, ys, rfl, _⟩ := h
    rfl
  · obtain ⟨a, b, xs, ys, rfl, ha, hb, el, x6, kN, kS⟩ := h
    refine ⟨_, (pss_cons (ps_set (i := 2) sc_joined.nd rfl (.inl rfl) pe_dnewK)
      (pss_cons (ps_for PassesOwn.never rfl (pi_zipM (by rfl) B.zip (pa_cons (pv 0) (pa_cons (pv 1) pa_nil))) (pg_tup rfl (pgs_cons (pg_name (i := 3) sc_joined.nd rfl (.inl rfl)) (pgs_cons (pg_name (i := 4) sc_joined.nd rfl (.inl rfl)) pgs_nil)))
      (pss_cons (ps_set (i := 5) sc_joined.nd rfl (.inl rfl) (pe_own C_leader hr (by decide) (by rfl) (pa_cons (pv 2) (pa_cons (pv 3) pa_nil))))
      (pss_cons (ps_set (i := 6) sc_joined.nd rfl (.inl rfl) (pe_own C_leader hr (by decide) (by rfl) (pa_cons (pv 2) (pa_cons (pv 4) pa_nil))))
      (pss_cons (ps_if (pt_cmpR op_eq (pv 5) (pv 6) (nomark _)) (pss_one ps_continue) pss_nil)
      (pss_cons (ps_if (PW.pt (pw_and (pt_val (pe_callB call_isi (by rfl) B.isinstance (by decide +kernel) (pa_cons (pv 5) (pa_cons (pe_bltn (v := .ty "str") (by rfl) B.str (by decide +kernel) rfl) pa_nil)))) (pw_and1 (pt_val (pe_callB call_isi (by rfl) B.isinstance (by decide +kernel) (pa_cons (pv 6) (pa_cons (pe_bltn (v := .ty "str") (by rfl) B.str (by decide +kernel) rfl) pa_nil))))))) (pss_one (ps_ret pe_non)) pss_nil)
      (pss_one (ps_if (pt_val (pe_callB call_isi (by rfl) B.isinstance (by decide +kernel) (pa_cons (pv 5) (pa_cons (pe_bltn (v := .ty "str") (by rfl) B.str (by decide +kernel) rfl) pa_nil)))) (pss_one (ps_dput (Nat.lt_of_le_of_lt (Nat.add_le_add_left (by decide) _) hr.units) (pv 2) (pv 6) (pv 5) (by rfl))) (pss_one (ps_dput (Nat.lt_of_le_of_lt (Nat.add_le_add_left (by decide) _) hr.units) (pv 2) (pv 5) (pv 6) (by rfl))))))))))
      (pss_one (ps_ret (pv 2))))), ?_⟩
    intro d nd
    have sd : Same H (upd H d (.dK [])) := same_new nd
    have ed : upd H d (.dK []) d = some (.dK (ldV [])) := upd_same
    generalize upd H d (.dK []) = H0 at sd ed
    refine ⟨_, rfl, _, rfl, a, b, _, _, rfl, .inl (.inl (sd _ _ ha)), .inl (.inl (sd _ _ hb)), ?_⟩
    refine for_it (walk_zipM (xs := xs.map kV) (ys := ys.map kV) (by rw [List.length_map, List.length_map, el])) (fun i σ J => ∃ (u3 u4 u5 u6 : Option V) (ls : List (Key × Key)), σ = [some (.ref a), some (.ref b), some (.ref d), u3, u4, u5, u6] ∧ J d = some (.dK (ldV ls)) ∧ Lds ls ∧ joinL ls ((xs.zip ys).drop i) = joinL [] (xs.zip ys) ∧ ls.length ≤ i ∧ Same H J)
      ⟨none, none, none, none, [], rfl, ed, .nil, by rw [List.drop_zero], Nat.le_refl _, sd⟩ (fun i σ J _ ⟨_, _, _, _, _, _, _, _, _, _, sJ⟩ => ⟨.inl (.inl (sJ _ _ ha)), .inl (.inl (sJ _ _ hb))⟩) ?_ ?_
    · rintro i v σ J J1 hi ⟨u3, u4, u5, u6, ls, rfl, eJ, hl, ej, ll, sJ⟩ ⟨T, vx, vy, hx, hy, rfl, nT, rfl⟩
      rw [List.length_map] at hi
      obtain ⟨x, hx', rfl⟩ : ∃ x, xs[i]? = some x ∧ vx = kV x := by
        rw [List.getElem?_map, List.getElem?_eq_getElem hi] at hx
        exact ⟨_, List.getElem?_eq_getElem hi, (Option.some.inj hx).symm⟩
      obtain ⟨y, hy', rfl⟩ : ∃ y, ys[i]? = some y ∧ vy = kV y := by
        rw [List.getElem?_map, List.getElem?_eq_getElem (show i < ys.length by omega)] at hy
        exact ⟨_, List.getElem?_eq_getElem (by omega), (Option.some.inj hy).symm⟩
      have dr : (xs.zip ys).drop i = (x, y) :: (xs.zip ys).drop (i + 1) := by
        have e : (xs.zip ys)[i]? = some (x, y) := List.getElem?_zip_eq_some.mpr ⟨hx', hy'⟩
        obtain ⟨h1, h2⟩ := List.getElem?_eq_some_iff.mp e
        rw [List.drop_eq_getElem_cons h1, h2]
      have sT : Same J (upd J T (.tup [kV x, kV y])) := same_new nT
      have eT : upd J T (.tup [kV x, kV y]) T = some (.tup [kV x, kV y]) := upd_same
      generalize upd J T (.tup [kV x, kV y]) = J2 at sT eT
      have eJ := sT _ _ eJ
      have sJ := sJ.trans sT
      refine ⟨T, _, rfl, .inl (.inl eT), rfl, _, _, rfl, _, _, rfl, rfl, ?_⟩
      refine ⟨_, rfl, _, rfl, d, ls, x, rfl, eJ, hl, _, rfl, _, rfl, d, ls, y, rfl, eJ, hl, ?_⟩
      refine ⟨_, rfl, _, rfl, scalK _ _, _, rfl, ?_⟩
      rw [dr, joinL_cons] at ej
      by_cases q : lead ls x = lead ls y
      · rw [decide_eq_true (show kV (lead ls x) = kV (lead ls y) by rw [q])]
        rw [if_pos q] at ej
        exact iteT ⟨_, _, _, _, ls, rfl, eJ, hl, ej, by omega, sJ⟩
      rw [decide_eq_false (show ¬ kV (lead ls x) = kV (lead ls y) from fun z => q (kV_inj z))]
      rw [if_neg q] at ej
      refine iteF ?_
      obtain ⟨t1, i1, i2⟩ := isaK (K := K) (H := J2) (lead ls x)
      obtain ⟨t2, j1, j2⟩ := isaK (K := K) (H := J2) (lead ls y)
      have sz : (ldV ls).length < sizeLine := by
        rw [Lds.len]
        exact small1000 (by omega)
      have nd' : H d = none := nd
      refine ⟨_, rfl, _, _, t1, _, _, rfl, .ty _, i1, i2, _, rfl, ?_⟩
      cases ex : isSt (lead ls x) with
      | true =>
        rw [ex] at ej i2
        refine iteT ⟨_, rfl, _, _, t2, _, _, rfl, .ty _, j1, j2, _, rfl, ?_⟩
        cases ey : isSt (lead ls y) with
        | true =>
          rw [ey, if_pos rfl] at ej
          exact iteT (kN ej.symm J2 sJ)
        | false =>
          rw [ey, if_neg (by decide), if_pos rfl] at ej
          refine iteF ⟨_, rfl, _, _, t1, _, _, rfl, .ty _, i1, i2, _, rfl, iteT ?_⟩
          refine ⟨_, rfl, _, rfl, _, rfl, d, _, rfl, DPut.k eJ sz, ?_⟩
          rw [putK_new (hl.lead_free y)]
          exact ⟨_, _, _, _, ls ++ [(lead ls y, lead ls x)], rfl, upd_same, hl.add (Ne.symm q) ey, ej, by rw [List.length_append]; show ls.length + 1 ≤ i + 1; omega, offT sJ nd'⟩
      | false =>
        rw [ex, Bool.false_and, if_neg (by decide), if_neg (by decide)] at ej
        rw [ex] at i2
        refine iteF ⟨_, rfl, _, _, t1, _, _, rfl, .ty _, i1, i2, _, rfl, iteF ?_⟩
        refine ⟨_, rfl, _, rfl, _, rfl, d, _, rfl, DPut.k eJ sz, ?_⟩
        rw [putK_new (hl.lead_free x)]
        exact ⟨_, _, _, _, ls ++ [(lead ls x, lead ls y)], rfl, upd_same, hl.add q ex, ej, by rw [List.length_append]; show ls.length + 1 ≤ i + 1; omega, offT sJ nd'⟩
    · rintro σ J ⟨u3, u4, u5, u6, ls, rfl, eJ, hl, ej, ll, sJ⟩
      rw [List.drop_eq_nil_of_le (by rw [List.length_zip, List.length_map]; omega)] at ej
      exact ⟨_, rfl, kS d ls J ej.symm hl sJ eJ⟩
end
end Gu
namespace Gu
open PySem PySem.Spec PyProof.Rows L2
/-! ### leaders are places or single signs -/
def OneK (k : Key) : Prop := ∀ z, k = .inr z → ∃ c, z = one c ∧ c ∈ signs.cps.toList
theorem lead_one : ∀ {ls : List (Key × Key)} {x : Key}, (∀ q ∈ ls, OneK q.2) → OneK x → OneK (lead ls x)
  | [], _, _, h => h
  | q :: ls, x, hl, h => by
    show OneK (lead ls (stepL x q))
    refine lead_one (fun r hr => hl r (List.mem_cons_of_mem _ hr)) ?_
    unfold stepL
    split
    · exact hl q (List.mem_cons_self ..)
    · exact h
theorem join_one : ∀ {ps ls ms : List (Key × Key)}, (∀ q ∈ ps, OneK q.1 ∧ OneK q.2) → (∀ q ∈ ls, OneK q.2) → joinL ls ps = some ms → ∀ q ∈ ms, OneK q.2
  | [], ls, ms, _, h, e => by
    cases e
    exact h
  | (a, b) :: r, ls, ms, hp, h, e => by
    obtain ⟨ha, hb⟩ := hp (a, b) (List.mem_cons_self ..)
    have hr : ∀ q ∈ r, OneK q.1 ∧ OneK q.2 := fun q hq => hp q (List.mem_cons_of_mem _ hq)
    have ad : ∀ (k v : Key), OneK v → ∀ q ∈ ls ++ [(k, v)], OneK q.2 := fun k v hv q hq => by
      rcases List.mem_append.mp hq with hq | hq
      · exact h q hq
      · rw [List.mem_singleton.mp hq]
        exact hv
    unfold joinL at e
    by_cases q : lead ls a = lead ls b
    · rw [if_pos q] at e
      exact join_one hr h e
    · rw [if_neg q] at e
      by_cases q2 : (isSt (lead ls a) && isSt (lead ls b)) = true
      · rw [if_pos q2] at e
        cases e
      · rw [if_neg q2] at e
        by_cases q3 : isSt (lead ls a) = true
        · rw [if_pos q3] at e
          exact join_one hr (ad _ _ (lead_one h ha)) e
        · rw [if_neg q3] at e
          exact join_one hr (ad _ _ (lead_one h hb)) e
theorem plan_one {rs : List Rec} (hf : ∀ r ∈ rs, r.fit) (n : Nat) : ∀ k ∈ planK rs n, OneK k := by
  have a : ∀ x ∈ planV rs n, OneK (toK x) := cutsV_all rs (fun r hr x hx => by
    obtain ⟨c, hc, rfl⟩ := List.mem_map.mp hx
    intro z e
    exact ⟨c, (Sum.inr.inj e).symm, isTxt_signs (hf r hr).z c hc⟩) fun x hx => by
    unfold rgV at hx
    obtain ⟨i, hi, rfl⟩ := List.mem_map.mp hx
    intro z e
    cases e
  intro k hk
  obtain ⟨x, hx, rfl⟩ := List.mem_map.mp hk
  exact a x hx
theorem shift_one {n : Nat} {k : Key} (h : OneK k) : OneK (shiftK n k) := by
  cases k with
  | inl i => exact fun z e => (by cases e)
  | inr z => exact h
theorem pairs_one {rs : List Rec} (hf : ∀ r ∈ rs, r.fit) (n m : Nat) : ∀ q ∈ pairsK rs n m, OneK q.1 ∧ OneK q.2 := fun q hq => by
  obtain ⟨h1, h2⟩ := List.of_mem_zip hq
  obtain ⟨k, hk, e⟩ := List.mem_map.mp h2
  exact ⟨plan_one hf n _ h1, by rw [← e]; exact shift_one (plan_one hf m k hk)⟩
theorem sgK_sign {k : Key} (h : OneK k) : sgK k ∈ signs.cps.toList := by
  cases k with
  | inl i =>
    show 46 ∈ signs.cps.toList
    decide +kernel
  | inr z =>
    obtain ⟨c, rfl, hc⟩ := h z rfl
    exact hc
theorem txL_signs {ls : List (Key × Key)} (h : ∀ q ∈ ls, OneK q.2) (s n : Nat) : Signs (txL ls s n) := fun c hc => by
  unfold txL at hc
  obtain ⟨p, _, rfl⟩ := List.mem_map.mp hc
  exact sgK_sign (lead_one h fun z e => by cases e)
/-! ### texts shown like smaller ones -/
def strOf (cs : List Nat) : Str := ⟨cs.toArray⟩
theorem strOf_cps (cs : List Nat) : (strOf cs).cps.toList = cs := rfl
def likeS (rs : List Rec) (n m : Nat) : Option Str := if (planV rs n).length = (planV rs m).length then (joinL [] (pairsK rs n m)).map fun ls => strOf (txL ls 0 n) else none
def hidL (rs : List Rec) (n : Nat) : List Nat := (List.range n).filter fun p : Nat => !inV (.int (p : Int)) (planV rs n)
def likeE (rs : List Rec) (n : Nat) : Option Str := (hidL rs n).getLast?.map fun p => strOf (dotp n p)
def confL (rs : List Rec) (n : Nat) : List Str := ((List.range n).map (likeS rs n) ++ [likeE rs n]).filterMap id
theorem inV_plan {rs : List Rec} (hf : ∀ r ∈ rs, r.fit) {n : Nat} {i : Int} : inV (.int i) (planV rs n) = true ↔ V.int i ∈ planV rs n := by
  unfold inV
  rw [List.any_eq_true]
  constructor
  · rintro ⟨x, hx, e⟩
    rcases plan_plain hf x hx with ⟨j, rfl, _⟩ | ⟨c, rfl, _⟩
    · have e : (j == i) = true := e
      rw [eq_of_beq e] at hx
      exact hx
    · cases e
  · intro h
    exact ⟨_, h, beq_self_eq_true i⟩
theorem hid_mem {rs : List Rec} (hf : ∀ r ∈ rs, r.fit) {n p : Nat} : p ∈ hidL rs n ↔ p < n ∧ V.int (p : Int) ∉ planV rs n := by
  unfold hidL
  rw [List.mem_filter, List.mem_range]
  refine and_congr_right fun _ => ?_
  rw [← inV_plan hf]
  cases inV (.int (p : Int)) (planV rs n) <;> decide
theorem hid_shown {rs : List Rec} (hf : ∀ r ∈ rs, r.fit) {n p : Nat} (h : p ∈ hidL rs n) : cuts rs (dots n) = cuts rs (dotp n p) := by
  obtain ⟨hp, no⟩ := (hid_mem hf).mp h
  have a := (shown_each hf (cs := dots n) (ys := (planV rs (dots n).length).map (fillN (dots n)))).mpr rfl
  have b := (shown_each hf (cs := dotp n p) (ys := (planV rs (dotp n p).length).map (fillN (dotp n p)))).mpr rfl
  rw [a, b, dots_len, dotp_len hp]
  refine List.map_congr_left fun x hx => ?_
  rcases plan_plain hf x hx with ⟨j, rfl, j0, j1⟩ | ⟨c, rfl, _⟩
  · show (dots n).getD j.toNat 0 = (dotp n p).getD j.toNat 0
    rw [dots_at (by omega), dotp_at hp (by omega), if_neg (fun e => no (by rw [show ((p : Nat) : Int) = j by omega]; exact hx))]
  · rfl
structure Smaller (rs : List Rec) (n : Nat) (y : Str) : Prop where
  len : y.cps.toList.length = n
  sg : Signs y.cps.toList
  sm : (∃ cs : List Nat, cs.length < n ∧ cuts rs cs = cuts rs y.cps.toList) ∨ ∃ p, p < n ∧ y.cps.toList = dotp n p ∧ cuts rs (dots n) = cuts rs (dotp n p)
theorem dotp_signs {n p : Nat} : Signs (dotp n p) := fun c hc => by
  have a : 46 ∈ signs.cps.toList ∧ 48 ∈ signs.cps.toList := by decide +kernel
  unfold dotp at hc
  rcases List.mem_append.mp hc with hc | hc
  · rw [(List.mem_replicate.mp hc).2]
    exact a.1
  · rcases List.mem_cons.mp hc with rfl | hc
    · exact a.2
    · rw [(List.mem_replicate.mp hc).2]
      exact a.1
theorem likeS_ok {rs : List Rec} (hf : ∀ r ∈ rs, r.fit) {n m : Nat} (hm : m < n) {y : Str} (h : likeS rs n m = some y) : Smaller rs n y := by
  unfold likeS at h
  by_cases l : (planV rs n).length = (planV rs m).length
  · rw [if_pos l] at h
    cases e : joinL [] (pairsK rs n m) with
    | none =>
      rw [e] at h
      cases h
    | some ls =>
      rw [e] at h
      have h : strOf (txL ls 0 n) = y := Option.some.inj h
      subst h
      exact ⟨txL_len .., txL_signs (join_one (pairs_one hf n m) (fun q hq => by cases hq) e) 0 n, .inl ⟨txL ls n m, by rw [txL_len]; exact hm, (joined_shown hf l e).symm⟩⟩
  · rw [if_neg l] at h
    cases h
theorem likeE_ok {rs : List Rec} (hf : ∀ r ∈ rs, r.fit) {n : Nat} {y : Str} (h : likeE rs n = some y) : Smaller rs n y := by
  unfold likeE at h
  obtain ⟨p, hp, rfl⟩ := Option.map_eq_some_iff.mp h
  have mem : p ∈ hidL rs n := List.mem_of_getLast? hp
  have pn := ((hid_mem hf).mp mem).1
  exact ⟨dotp_len pn, dotp_signs, .inr ⟨p, pn, rfl, hid_shown hf mem⟩⟩
theorem conf_ok {rs : List Rec} (hf : ∀ r ∈ rs, r.fit) {n : Nat} {y : Str} (h : y ∈ confL rs n) : Smaller rs n y := by
  unfold confL at h
  obtain ⟨o, ho, e⟩ := List.mem_filterMap.mp h
  have e : o = some y := e
  subst e
  rcases List.mem_append.mp ho with ho | ho
  · obtain ⟨m, hm, e⟩ := List.mem_map.mp ho
    exact likeS_ok hf (List.mem_range.mp hm) e
  · exact likeE_ok hf (List.mem_singleton.mp ho).symm
theorem lens_84 {rs : List Rec} (hf : ∀ r ∈ rs, r.fit) (h1 : 1 ≤ rs.length) : lens rs 84 ≤ 83 := by
  have all : ∀ (rs : List Rec) (n : Nat), (∀ r ∈ rs, r.fit) → n ≤ 83 → lens rs n ≤ 83 := by
    intro rs
    induction rs with
    | nil => exact fun n _ h => h
    | cons r rs ih =>
      intro n hf h
      have f := hf r (List.mem_cons_self ..)
      have a := f.zl
      have b := f.h
      have c := f.t
      refine ih (r.len n) (fun q hq => hf q (List.mem_cons_of_mem _ hq)) ?_
      unfold Rec.len
      split <;> omega
  cases rs with
  | nil => cases h1
  | cons r rs =>
    have f := hf r (List.mem_cons_self ..)
    have a := f.zl
    have b := f.h
    have c := f.t
    have d := f.l
    refine all rs (r.len 84) (fun q hq => hf q (List.mem_cons_of_mem _ hq)) ?_
    unfold Rec.len
    rw [if_neg (by omega)]
    omega
theorem sub_len {α : Type} [DecidableEq α] : ∀ (xs : List α) {ys : List α}, xs.Nodup → (∀ x ∈ xs, x ∈ ys) → xs.length ≤ ys.length
  | [], ys, _, _ => Nat.zero_le _
  | x :: xs, ys, nd, sub => by
    have nd := List.nodup_cons.mp nd
    have hx := sub x (List.mem_cons_self ..)
    have := sub_len xs (ys := ys.erase x) nd.2 fun y hy => by
      have ne : y ≠ x := fun e => nd.1 (e ▸ hy)
      exact (List.mem_erase_of_ne ne).mpr (sub y (List.mem_cons_of_mem _ hy))
    rw [List.length_erase_of_mem hx] at this
    have : 0 < ys.length := List.length_pos_of_mem hx
    simp only [List.length_cons]
    omega
theorem conf_84 {rs : List Rec} (hf : ∀ r ∈ rs, r.fit) (h1 : 1 ≤ rs.length) : confL rs 84 ≠ [] := by
  have hid : hidL rs 84 ≠ [] := fun e => by
    have all : ∀ p : Nat, p < 84 → V.int (p : Int) ∈ planV rs 84 := fun p hp => Decidable.byContradiction fun no => by
      have := (hid_mem hf).mpr ⟨hp, no⟩
      rw [e] at this
      cases this
    have nd : ((List.range 84).map fun p : Nat => (p : Int)).Nodup := by decide +kernel
    have l := sub_len _ (ys := (planV rs 84).map fun x => match x with | .int i => i | _ => -1) nd fun x hx => by
      obtain ⟨p, hp, rfl⟩ := List.mem_map.mp hx
      exact List.mem_map.mpr ⟨_, all p (List.mem_range.mp hp), rfl⟩
    rw [List.length_map, List.length_map, List.length_range] at l
    have e2 : (planV rs 84).length = lens rs 84 := by
      unfold planV
      rw [cutsV_length, rg_len]
    have := lens_84 hf h1
    omega
  intro e
  unfold confL at e
  rw [List.filterMap_append] at e
  have e3 := (List.append_eq_nil_iff.mp e).2
  cases g : (hidL rs 84).getLast? with
  | none => exact hid (List.getLast?_eq_none_iff.mp g)
  | some p =>
    have g2 : likeE rs 84 = some (strOf (dotp 84 p)) := by
      unfold likeE
      rw [g]
      rfl
    rw [g2] at e3
    cases e3
/-! ### the least of them, and the least text shown so -/
def ltS (x y : Str) : Bool := decide (x.cps.toList < y.cps.toList)
def minI (xs : List Str) : Nat := argBest (fun i j => ltS (xs.getD i Str.empty) (xs.getD j Str.empty)) (xs.length - 1)
def minS (xs : List Str) : Str := xs.getD (minI xs) Str.empty
theorem argBest_le (bt : Nat → Nat → Bool) : ∀ k, argBest bt k ≤ k
  | 0 => Nat.le_refl _
  | k + 1 => by
    unfold argBest
    split
    · exact Nat.le_refl _
    · exact Nat.le_succ_of_le (argBest_le bt k)
theorem minS_mem {xs : List Str} (h : xs ≠ []) : minS xs ∈ xs := by
  have l : 0 < xs.length := List.length_pos_iff.mpr h
  have i : minI xs < xs.length := by
    have := argBest_le (fun i j => ltS (xs.getD i Str.empty) (xs.getD j Str.empty)) (xs.length - 1)
    unfold minI
    omega
  unfold minS
  rw [List.getD_eq_getElem?_getD, List.getElem?_eq_getElem i]
  exact List.getElem_mem i
structure PairOf (rs : List Rec) (y z : Str) : Prop where
  fst : ∃ n, n ≤ 84 ∧ confL rs n ≠ [] ∧ (∀ m, m < n → confL rs m = []) ∧ z = minS (confL rs n)
  lst : ∃ (q : Nat) (kvs : List (Key × V)), q ≤ 80 ∧ (∀ cs : List Nat, cuts rs cs = cuts rs z.cps.toList → q ≤ cs.length) ∧ Knows q kvs (fun cs => cuts rs cs = cuts rs z.cps.toList) ∧ y.cps.toList = wrote kvs 46 q
theorem wrote_one {n : Nat} {kvs jvs : List (Key × V)} {Pd Qd : List Nat → Prop} (k : Knows n kvs Pd) (j : Knows n jvs Qd) (s : ∀ cs, Pd cs ↔ Qd cs) (o : Nat) (ho : o ∈ signs.cps.toList) (ho2 : ∃ o2 ∈ signs.cps.toList, o2 ≠ o) : wrote kvs o n = wrote jvs o n := by
  refine List.ext_getElem? fun p => ?_
  by_cases hp : p < n
  · have both : ∀ {kvs jvs : List (Key × V)} {Pd Qd : List Nat → Prop}, Knows n kvs Pd → Knows n jvs Qd → (∀ cs, Pd cs ↔ Qd cs) → ∀ c, valV kvs (Sum.inl (p : Int)) = some (.str (one c)) → valV jvs (Sum.inl (p : Int)) = some (.str (one c)) := by
      intro kvs jvs Pd Qd k j s c hc
      obtain ⟨o2, _, ne⟩ := ho2
      have f : ∀ o, (wrote jvs o n)[p]? = some c := fun o => (k.iff _ (wrote_len ..)).mp ((s _).mpr (wrote_fits j)) p c hc
      cases e : valV jvs (Sum.inl (p : Int)) with
      | none =>
        have a := f o
        have b := f o2
        rw [wrote_at hp, sgn_none e] at a b
        exact absurd (Option.some.inj (b.trans a.symm)) ne
      | some v =>
        obtain ⟨p', c', _, _, rfl, _⟩ := j.ks _ _ e
        have a := f o
        rw [wrote_at hp, sgn_some e] at a
        rw [Option.some.inj a]
    rw [wrote_at hp, wrote_at hp]
    cases e : valV kvs (Sum.inl (p : Int)) with
    | none =>
      rw [sgn_none e]
      cases e2 : valV jvs (Sum.inl (p : Int)) with
      | none => rw [sgn_none e2]
      | some v =>
        obtain ⟨p', c', _, _, rfl, _⟩ := j.ks _ _ e2
        have := both j k (fun cs => (s cs).symm) c' e2
        rw [e] at this
        cases this
    | some v =>
      obtain ⟨p', c', _, _, rfl, _⟩ := k.ks _ _ e
      rw [sgn_some e, sgn_some (both k j s c' e)]
  · rw [List.getElem?_eq_none (by rw [wrote_len]; omega), List.getElem?_eq_none (by rw [wrote_len]; omega)]
theorem PairOf.one {rs : List Rec} {y z y2 z2 : Str} (a : PairOf rs y z) (b : PairOf rs y2 z2) : y = y2 ∧ z = z2 := by
  obtain ⟨n, _, h1, h2, rfl⟩ := a.fst
  obtain ⟨m, _, k1, k2, rfl⟩ := b.fst
  have e : n = m := by
    rcases Nat.lt_trichotomy n m with h | h | h
    · exact absurd (k2 n h) h1
    · exact h
    · exact absurd (h2 m h) k1
  subst e
  refine ⟨?_, rfl⟩
  obtain ⟨q, kvs, _, l1, kn, ey⟩ := a.lst
  obtain ⟨r, jvs, _, l2, jn, ey2⟩ := b.lst
  have a1 := l2 _ (wrote_fits (o := 46) kn)
  have a2 := l1 _ (wrote_fits (o := 46) jn)
  rw [wrote_len] at a1 a2
  have e : q = r := by omega
  subst e
  exact str_ext (by rw [ey, ey2]; exact wrote_one kn jn (fun _ => Iff.rfl) 46 (by decide +kernel) ⟨48, by decide +kernel, by decide⟩)
theorem PairOf.ok {rs : List Rec} (hf : ∀ r ∈ rs, r.fit) {y z : Str} (h : PairOf rs y z) : y ≠ z ∧ cuts rs y.cps.toList = cuts rs z.cps.toList ∧ isTxt y 200 = true ∧ isTxt z 200 = true := by
  obtain ⟨n, n84, h1, _, rfl⟩ := h.fst
  have sm := conf_ok hf (minS_mem h1)
  generalize minS (confL rs n) = z at sm h
  obtain ⟨q, kvs, q80, least, kn, ey⟩ := h.lst
  have tx : ∀ {x : Str}, Signs x.cps.toList → x.cps.toList.length ≤ 200 → isTxt x 200 = true := fun {x} s l => by
    have e : x.length = x.cps.toList.length := rfl
    unfold isTxt
    rw [decide_eq_true (by omega), Bool.true_and, List.all_eq_true]
    exact fun c hc => decide_eq_true (s c hc)
  have fy : cuts rs y.cps.toList = cuts rs z.cps.toList := by
    rw [ey]
    exact wrote_fits kn
  refine ⟨fun e => ?_, fy, tx (by rw [ey]; exact wrote_signs kn (by decide +kernel)) (by rw [ey, wrote_len]; omega), tx sm.sg (by rw [sm.len]; omega)⟩
  subst e
  have yl : y.cps.toList.length = q := by rw [ey, wrote_len]
  rcases sm.sm with ⟨cs, cl, ec⟩ | ⟨p, pn, ep, ed⟩
  · have := least cs ec
    have := sm.len
    omega
  · have nq : n = q := sm.len.symm.trans yl
    subst nq
    have dl := (kn.iff (dots n) (dots_len n)).mp (by rw [ep]; exact ed)
    have at1 : (wrote kvs 46 n)[p]? = some 48 := by
      rw [← ey, ep]
      have := dotp_at pn pn
      rw [if_pos rfl, List.getD_eq_getElem?_getD, List.getElem?_eq_getElem (by rw [dotp_len pn]; exact pn)] at this
      rw [List.getElem?_eq_getElem (by rw [dotp_len pn]; exact pn)]
      exact congrArg some this
    rw [wrote_at pn] at at1
    cases e : valV kvs (Sum.inl (p : Int)) with
    | none =>
      rw [sgn_none e] at at1
      cases at1
    | some v =>
      obtain ⟨p', c', _, _, rfl, _⟩ := kn.ks _ _ e
      rw [sgn_some e] at at1
      have d := dl p c' e
      have d2 := dots_at pn
      rw [List.getD_eq_getElem?_getD, d] at d2
      have d2 : c' = 46 := d2
      have := Option.some.inj at1
      omega
end Gu
namespace Gu
open PySem PySem.Spec PyProof.Rows L2
/-! ### min of a list of texts -/
theorem cmp_texts {prog : Program} {w : World} {A : Around} {P : Nat → Value → Prop} (tx : Nat → Str) (is : ∀ i v, P i v → ∃ t, v = .str (tx i) t) : CmpOf prog w A .Lt P (fun i j => ltS (tx i) (tx j)) := by
  intro i j a b s Q E ha hb h
  obtain ⟨t, rfl⟩ := is i a ha
  obtain ⟨u, rfl⟩ := is j b hb
  exact richCompare_gives (op := .Lt) (typeIs_str s _ t) (typeIs_str s _ u) PySem.F.slot_str_lt PySem.F.entry_str_lt (PySem.F.args_str_lt_2 _ _) (PySem.gives_str_lt _ _ t u) (fun z => nomatch z) h
theorem min_texts {prog : Program} {w : World} {A : Around} {E : Value → Shared → Prop} {s : Shared} {l : Addr} {its : List Value} {xs : List Str} {Q : Value → Shared → Prop} (hh : A.handled = none) (hl : s.heap.IsList l its.toArray) (hv : Vals (xs.map V.str) its) (ne : 0 < xs.length)
    (h : ∀ (g : Heap) (tk t : Tok), (∀ b o, s.heap.get? b = some o → g.get? b = some o) → Q (.str (minS xs) t) { s with heap := g, toks := tk }) : wpAny (model prog w) A (call (.builtin "min") [.ref l]) Q E s := by
  have low : l < s.heap.objs.size := by
    obtain ⟨o, e, _⟩ := hl
    exact Heap.lt_size e
  have len : its.toArray.size = xs.length := by
    rw [List.size_toArray, ← hv.length, List.length_map]
  have tx : ∀ (i : Nat) (v : Value), its.toArray[i]? = some v → ∃ t : Tok, v = Value.str (xs.getD i Str.empty) t := fun i v e => by
    have e : its[i]? = some v := by simpa using e
    have il := (List.getElem?_eq_some_iff.mp e).1
    have il2 : i < xs.length := by
      rw [List.size_toArray] at len
      omega
    obtain ⟨u, hu, ru⟩ := hv.get (i := i) (x := V.str xs[i]) (by rw [List.getElem?_map, List.getElem?_eq_getElem il2]; rfl)
    obtain rfl : u = v := Option.some.inj (hu.symm.trans e)
    rw [List.getD_eq_getElem?_getD, List.getElem?_eq_getElem il2]
    exact ru
  refine PySem.call_min_walk (wpAny_pyIter_list hl ?_)
  refine ⟨_, [_, _], [_], _, _, _, _, rfl, Walks.list (A := A.in1) hh s.heap.objs.size l (Nat.ne_of_lt low) its.toArray, ⟨⟨_, Heap.get?_push_size _ rfl, rfl, rfl⟩, hl.push _⟩, fun b hb => ?_, by rw [len]; exact ne, cmp_texts _ tx, fun v g tk hP hk => ?_⟩
  · show b < (s.heap.push _).objs.size
    rw [Heap.size_push]
    simp only [List.mem_cons, List.not_mem_nil, or_false] at hb
    rcases hb with rfl | rfl
    · exact Nat.lt_succ_self _
    · exact Nat.lt_succ_of_lt low
  · rw [len] at hP
    obtain ⟨t, rfl⟩ := tx _ _ hP
    refine h g tk t fun b o e => hk b o (fun m => ?_) (Heap.get?_push_of_some _ e)
    rw [List.mem_singleton.mp m] at e
    exact absurd (Heap.lt_size e) (Nat.lt_irrefl _)
section
variable {X : Cx}
def rMinS (K : PySem.W.Frag) : List V → Hp → VK → Prop := fun vs H Q => ∃ (a : Addr) (xs : List Str), vs = [V.ref a] ∧ SqL K H a (xs.map V.str) ∧ xs ≠ [] ∧ Q (.str (minS xs)) H
theorem cr_minS (hc : X.calm = true) : CallR X (.builtin "min") (rMinS X.K) := by
  intro pins s σ H vs us Q I r h
  obtain ⟨a, xs, rfl, hs, ne, q⟩ := h
  obtain ⟨its, rv, hl, _⟩ := I.list hs
  rw [Vals.ref1 r]
  exact min_texts (I.ok.hd hc) hl.isList rv (List.length_pos_iff.mpr ne) fun g tk t hk => ⟨.str _, H, I.kept hk, ⟨_, rfl⟩, q⟩
end
section
variable {P : Program} {w : World} {K : PySem.W.Frag} {mg : Str → Option Value} {base : Heap} {C : Addr}
theorem isaKi {H : Hp} (k : Key) : Isa K H (kV k) "int" (!isSt k) := by
  cases k with
  | inl i => exact ⟨_, .base (.int i), kit_ty (show kitB "int" "int" = some true by decide +kernel)⟩
  | inr z => exact ⟨_, .base (.str z), kit_ty (show kitB "str" "int" = some false by decide +kernel)⟩
def optV : Option Str → V
  | some y => .str y
  | none => .non
def spLikeS (C : Addr) : Sp := fun vs H Q _ => ∃ (a : Addr) (rs : List (Addr × Rec)) (n m : Nat), vs = [.ref a, .int (n : Int), .int (m : Int)] ∧ RowAt C H a rs ∧ n ≤ 500 ∧ m ≤ 500 ∧ ∀ G, Same H G → Q (optV (likeS (rs.map (·.2)) n m)) G
set_option maxHeartbeats 1000000 in
theorem cal_likeS (B : Bi mg) (D : At K mg "like_a_shorter_one" s_like_a_shorter_one ps_like_a_shorter_one) (C_planned : Cal P w K mg base 2 "planned" ps_planned (spPlanned C)) (C_leader : Cal P w K mg base 1 "leader" ps_leader spLeader) (C_joined : Cal P w K mg base 2 "joined" ps_joined spJoined) : Cal P w K mg base 3 "like_a_shorter_one" ps_like_a_shorter_one (spLikeS C) := by
  refine D.cal sc_like_a_shorter_one (fun vs H Q E h => ?_) (fun f cdv A outer s H vs Q E hr h => ?_)
  · obtain ⟨a, rs, n, m, rfl, _⟩ := h
    rfl
  · obtain ⟨a, rs, n, m, rfl, hR, hn, hm, k⟩ := h
    have hf := hR.fits
    generalize hrr : rs.map (·.2) = rr at k hf
    refine ⟨_, (pss_cons (ps_set (i := 3) sc_like_a_shorter_one.nd rfl (.inl rfl) (pe_own C_planned hr (by decide) (by rfl) (pa_cons (pv 0) (pa_cons (pv 1) pa_nil))))
      (pss_cons (ps_setLc (i := 4) (own := [("part", 7)]) (by rfl) sc_like_a_shorter_one.nd rfl rfl (sw_true rfl rfl rfl (by decide +kernel)) (pi_tup (pe_own C_planned hr (by decide) (by rfl) (pa_cons (pv 0) (pa_cons (pv 2) pa_nil)))) (blkOk_by (own := [("part", 7)]) (N := ["row", "length", "shorter", "parts", "others", "leaders", "leading", "part", "place"]) (sc := defScope s_like_a_shorter_one) (by decide +kernel)) (fun _ _ _ _ _ => pg_name (i := 7) sc_like_a_shorter_one.nd rfl (.inl rfl)) (fun _ _ _ _ _ => pts_nil) (fun _ _ _ _ _ => (pe_mid (pe_ifExp (pt_val (pe_callB (id := "isinstance") (r := rIsi K) call_isi (by rfl) B.isinstance (by decide +kernel) (pa_cons (pv 7) (pa_cons (pe_bltn (v := .ty "int") (by rfl) B.int (by decide +kernel) rfl) pa_nil)))) (pe_op op_add (pv 1) (pv 7)) (pv 7)))))
      (pss_cons (ps_if (pt_cmpR op_ne (pe_callB call_len (by rfl) B.len (by decide +kernel) (pa_cons (pv 3) pa_nil)) (pe_callB call_len (by rfl) B.len (by decide +kernel) (pa_cons (pv 4) pa_nil)) (nomark _)) (pss_one (ps_ret pe_non)) pss_nil)
      (pss_cons (ps_set (i := 5) sc_like_a_shorter_one.nd rfl (.inr rfl) (pe_own C_joined hr (by decide) (by rfl) (pa_cons (pv 3) (pa_cons (pv 4) pa_nil))))
      (pss_cons (ps_if (pt_cmpR op_isN (pv 5) pe_non (nomark _)) (pss_one (ps_ret pe_non)) pss_nil)
      (pss_cons (ps_setLc (i := 6) (own := [("place", 8)]) (by rfl) sc_like_a_shorter_one.nd rfl rfl (sw_true rfl rfl rfl (by decide +kernel)) (pi_range1 (by rfl) B.range (pa_cons (pv 1) pa_nil)) (blkOk_by (own := [("place", 8)]) (N := ["row", "length", "shorter", "parts", "others", "leaders", "leading", "part", "place"]) (sc := defScope s_like_a_shorter_one) (by decide +kernel)) (fun _ _ _ _ _ => pg_name (i := 8) sc_like_a_shorter_one.nd rfl (.inl rfl)) (fun _ _ _ _ _ => pts_nil) (fun _ _ _ _ _ => (pe_own C_leader hr (by decide) (by rfl) (pa_cons (pv 5) (pa_cons (pv 8) pa_nil)))))
      (pss_one (ps_ret (pe_join pe_str (pe_lc (own := [("part", 7)]) (by rfl) sc_like_a_shorter_one.nd (pi_list (pv 6)) (blkOk_by (own := [("part", 7)]) (N := ["row", "length", "shorter", "parts", "others", "leaders", "leading", "part", "place"]) (sc := defScope s_like_a_shorter_one) (by decide +kernel)) (fun _ _ _ _ _ => pg_name (i := 7) sc_like_a_shorter_one.nd rfl (.inl rfl)) (fun _ _ _ _ _ => pts_nil) (fun _ _ _ _ _ => (pe_mid (pe_ifExp (pt_val (pe_callB (id := "isinstance") (r := rIsi K) call_isi (by rfl) B.isinstance (by decide +kernel) (pa_cons (pv 7) (pa_cons (pe_bltn (v := .ty "str") (by rfl) B.str (by decide +kernel) rfl) pa_nil)))) (pv 7) (pe_ix ix_str (pe_cst B.SIGNS (by rfl)) pe_int (fun _ _ => rfl))))))))))))))), ?_⟩
    refine ⟨_, rfl, _, rfl, a, n, rs, rfl, hR, hn, fun U G1 s1 e1 => ?_⟩
    have e1 : G1 U = some (.tup ((planK rr n).map kV)) := by
      rw [planK_V hf]
      rw [hrr] at e1
      exact e1
    refine ⟨_, rfl, _, rfl, a, m, rs, rfl, hR.same s1, hm, fun W G2 s2 e2 => ?_⟩
    have e2 : G2 W = some (.tup ((planK rr m).map kV)) := by
      rw [planK_V hf]
      rw [hrr] at e2
      exact e2
    have pl : (planK rr m).length ≤ 500 := by
      unfold planK planV
      rw [List.length_map, cutsV_length, rg_len]
      exact lens_le rr hf hm
    have pn : (planK rr n).length ≤ 500 := by
      unfold planK planV
      rw [List.length_map, cutsV_length, rg_len]
      exact lens_le rr hf hn
    have s12 := s1.trans s2
    refine ⟨W, rfl, ⟨_, .inl (.inl e2)⟩, fun X nX => lc_tup (K := K) (a := W) (xs := (planK rr m).map kV) (fun i J => J X = some (.lst ((((planK rr m).take i).map (shiftK n)).map kV)) ∧ Same G2 J)
      ⟨upd_same, same_new nX⟩ (fun i J _ ⟨_, sJ⟩ => .inl (.inl (sJ _ _ e2))) ?_ ?_⟩
    · rintro i v J hi ⟨eX, sJ⟩
      rw [List.getElem?_map] at hi
      cases hk : (planK rr m)[i]? with
      | none =>
        rw [hk] at hi
        cases hi
      | some x =>
        rw [hk] at hi
        cases hi
        have il := (List.getElem?_eq_some_iff.mp hk).1
        obtain ⟨t1, i1, i2⟩ := isaKi (K := K) (H := J) x
        refine ⟨rfl, yes (iteT ⟨fun v I => v = kV (shiftK n x) ∧ I = J, ⟨_, rfl, _, _, t1, _, _, rfl, .ty _, i1, i2, _, rfl, ?_⟩, ?_⟩)⟩
        · cases x with
          | inl j => exact iteT ⟨_, rfl, _, rfl, _, _, rfl, rfl, rfl, rfl⟩
          | inr z => exact iteF ⟨_, rfl, rfl, rfl⟩
        · rintro _ _ ⟨rfl, rfl⟩
          refine ⟨_, eX, small1000 (by rw [List.length_map, List.length_map, List.length_take]; omega), ?_, offT sJ nX⟩
          rw [upd_same, List.take_add_one, hk, List.map_append, List.map_append]
          rfl
    rintro J ⟨eX, sJ⟩
    rw [List.length_map, List.take_length] at eX
    have s2J := s2.trans sJ
    have e1 := s2J _ _ e1
    have s13 := s1.trans s2J
    refine ⟨_, rfl, _, _, rfl, .inr ⟨_, .inl (.inl e1), rfl⟩, _, rfl, _, _, rfl, .inl ⟨_, .inl (.inl eX), rfl⟩, rfl, _, rfl, ?_⟩
    rw [List.length_map, List.length_map, List.length_map]
    have lk : ∀ j, (planK rr j).length = (planV rr j).length := fun j => List.length_map ..
    by_cases l : (planK rr n).length = (planK rr m).length
    · rw [decide_eq_true (show V.int ((planK rr n).length : Int) = V.int ((planK rr m).length : Int) by rw [l])]
      have l2 : (planV rr n).length = (planV rr m).length := by rw [← lk, ← lk, l]
      unfold likeS at k
      rw [if_pos l2] at k
      refine iteF ⟨_, rfl, _, rfl, U, X, planK rr n, (planK rr m).map (shiftK n), rfl, e1, eX, by rw [List.length_map, l], by omega, fun no G sG => ?_, fun d ls G e hl sG eD => ?_⟩
      · rw [show joinL [] (pairsK rr n m) = none from no] at k
        exact ⟨_, rfl, rfl, _, rfl, iteT (k G (s13.trans sG))⟩
      · rw [show joinL [] (pairsK rr n m) = some ls from e] at k
        have onz := join_one (pairs_one hf n m) (fun q hq => by cases hq) e
        refine ⟨_, rfl, rfl, _, rfl, iteF ?_⟩
        refine ⟨_, rfl, _, rfl, by omega, by omega, fun Y nY => lc_range (lo := 0) (n := (n : Int).toNat) (fun i J => J Y = some (.lst (((List.range i).map fun p : Nat => lead ls (.inl (p : Int))).map kV)) ∧ Same G J) ⟨upd_same, same_new nY⟩ ?_ ?_⟩
        · rintro i I hi ⟨eY, sI⟩
          rw [Int.toNat_natCast] at hi
          rw [Int.zero_add]
          refine ⟨rfl, yes (iteT ⟨_, rfl, _, rfl, d, ls, .inl (i : Int), rfl, sI _ _ eD, hl, ?_⟩)⟩
          refine ⟨_, eY, small1000 (by rw [List.length_map, List.length_map, List.length_range]; omega), ?_, offT sI nY⟩
          rw [upd_same, List.range_succ, List.map_append, List.map_append]
          rfl
        rintro I ⟨eY, sI⟩
        rw [Int.toNat_natCast] at eY
        refine ⟨⟨_, rfl⟩, _, rfl, Y, rfl, ⟨_, .inl (.inl eY)⟩, fun Z nZ => lc_list (K := K) (a := Y) (xs := ((List.range n).map fun p : Nat => lead ls (.inl (p : Int))).map kV) (fun i J => J Z = some (.lst (ones ((txL ls 0 n).take i))) ∧ Same I J) ⟨upd_same, same_new nZ⟩ (fun i J _ ⟨_, sJ⟩ => .inl (.inl (sJ _ _ eY))) ?_ ?_⟩
        · rintro i v J2 hi ⟨eZ, sJ2⟩
          have il : i < n := by
            have := (List.getElem?_eq_some_iff.mp hi).1
            rw [List.length_map, List.length_map, List.length_range] at this
            exact this
          rw [List.getElem?_map, List.getElem?_map, List.getElem?_range il] at hi
          have hi : some (kV (lead ls (.inl (i : Int)))) = some v := hi
          cases hi
          have tn : (txL ls 0 n)[i]? = some (sgK (lead ls (.inl (i : Int)))) := by
            unfold txL
            rw [List.getElem?_map, List.getElem?_range il]
            show some (sgK (lead ls (.inl ((0 + i : Nat) : Int)))) = _
            rw [Nat.zero_add]
          have ok1 := lead_one onz (x := .inl (i : Int)) fun z e => by cases e
          generalize lead ls (.inl (i : Int)) = x at tn ok1
          obtain ⟨t1, i1, i2⟩ := isaK (K := K) (H := J2) x
          refine ⟨rfl, yes (iteT ⟨fun v I => v = .str (one (sgK x)) ∧ I = J2, ⟨_, rfl, _, _, t1, _, _, rfl, .ty _, i1, i2, _, rfl, ?_⟩, ?_⟩)⟩
          · cases x with
            | inl j => exact iteF ⟨_, _, _, rfl, rfl, by decide +kernel, rfl, rfl, rfl⟩
            | inr z =>
              obtain ⟨c, rfl, _⟩ := ok1 z rfl
              exact iteT ⟨_, rfl, rfl, rfl⟩
          · rintro _ _ ⟨rfl, rfl⟩
            refine ⟨_, eZ, small1000 (by unfold ones; rw [List.length_map, List.length_take]; omega), ?_, offT sJ2 nZ⟩
            rw [upd_same, List.take_add_one, tn]
            unfold ones
            rw [List.map_append]
            rfl
        rintro J2 ⟨eZ, sJ2⟩
        rw [List.length_map, List.length_map, List.length_range, List.take_of_length_le (by rw [txL_len]; omega), ones_map] at eZ
        refine ⟨_, Z, _, rfl, rfl, .inl (.inl (.inl eZ)), ?_, ?_⟩
        · rw [ones_len, List.length_map, txL_len]
          have e0 : (("" : String) : Str).length = 0 := by decide +kernel
          rw [e0]
          omega
        · have kk := k J2 (s13.trans (sG.trans (sI.trans sJ2)))
          have e : Txt.join "" ((txL ls 0 n).map one) = strOf (txL ls 0 n) := str_ext (tjoin_ones _)
          rw [e]
          exact kk
    · rw [decide_eq_false (show ¬ V.int ((planK rr n).length : Int) = V.int ((planK rr m).length : Int) from fun z => l (by have := V.int.inj z; omega))]
      unfold likeS at k
      rw [if_neg (fun z => l (by rw [lk, lk, z]))] at k
      exact iteT (k J s13)
end
end Gu
namespace Gu
open PySem PySem.Spec PyProof.Rows L2
theorem flatK (ks : List Key) : (ks.map kV).all flatV = true := by
  rw [List.all_map, List.all_eq_true]
  intro k _
  cases k <;> rfl
theorem free_ofP {H G : Hp} {a : Addr} (s : Same H G) (n : G a = none) : H a = none := by
  cases e : H a with
  | none => rfl
  | some o =>
    rw [s _ _ e] at n
    cases n
section
variable {P : Program} {w : World} {K : PySem.W.Frag} {mg : Str → Option Value} {base : Heap} {C : Addr}
def spLikeE (C : Addr) : Sp := fun vs H Q _ => ∃ (a : Addr) (rs : List (Addr × Rec)) (n : Nat), vs = [.ref a, .int (n : Int)] ∧ RowAt C H a rs ∧ n ≤ 500 ∧ ∀ G, Same H G → Q (optV (likeE (rs.map (·.2)) n)) G
theorem cal_likeE (B : Bi mg) (D : At K mg "like_an_equally_long_one" s_like_an_equally_long_one ps_like_an_equally_long_one) (C_planned : Cal P w K mg base 2 "planned" ps_planned (spPlanned C)) (C_least_raised_at : Cal P w K mg base 1 "least_raised_at" ps_least_raised_at spRaised) : Cal P w K mg base 3 "like_an_equally_long_one" ps_like_an_equally_long_one (spLikeE C) := by
  refine D.cal sc_like_an_equally_long_one (fun vs H Q E h => ?_) (fun f cdv A outer s H vs Q E hr h => ?_)
  · obtain ⟨a, rs, n, rfl, _⟩ := h
    rfl
  · obtain ⟨a, rs, n, rfl, hR, hn, k⟩ := h
    have hf := hR.fits
    generalize hrr : rs.map (·.2) = rr at k hf
    refine ⟨_, (pss_cons (ps_set (i := 2) sc_like_an_equally_long_one.nd rfl (.inr rfl) (pe_own C_planned hr (by decide) (by rfl) (pa_cons (pv 0) (pa_cons (pv 1) pa_nil))))
      (pss_cons (ps_setLc (i := 3) (own := [("place", 4)]) (by rfl) sc_like_an_equally_long_one.nd rfl rfl (sw_true rfl rfl rfl (by decide +kernel)) (pi_range1 (by rfl) B.range (pa_cons (pv 1) pa_nil)) (blkOk_by (own := [("place", 4)]) (N := ["row", "length", "parts", "hidden", "place"]) (sc := defScope s_like_an_equally_long_one) (by decide +kernel)) (fun _ _ _ _ _ => pg_name (i := 4) sc_like_an_equally_long_one.nd rfl (.inl rfl)) (fun _ _ _ _ _ => (pts_one (pt_cmpR (r := rIn K true) op_notIn_seq (pv 4) (pv 2) (by rfl)))) (fun _ _ _ _ _ => (pv 4)))
      (pss_one (ps_ret (pe_mid (pe_ifExp (pt_truth (pv 3) (fun _ => rfl)) (pe_own C_least_raised_at hr (by decide) (by rfl) (pa_cons (pv 1) (pa_cons (pe_ix ix_list (pv 3) (pe_un un_neg pe_int) (fun _ _ => rfl)) pa_nil))) pe_non)))))), ?_⟩
    refine ⟨_, rfl, _, rfl, a, n, rs, rfl, hR, hn, fun U G1 s1 e1 => ?_⟩
    have e1 : G1 U = some (.tup (planV rr n)) := by
      rw [hrr] at e1
      exact e1
    have fl : (planV rr n).all flatV = true := by
      rw [← planK_V hf]
      exact flatK _
    refine ⟨_, rfl, _, rfl, by omega, by omega, fun X nX => lc_range (lo := 0) (n := (n : Int).toNat) (fun i J => J X = some (.lst (natV ((List.range i).filter fun p : Nat => !inV (.int (p : Int)) (planV rr n)))) ∧ Same G1 J) ⟨upd_same, same_new nX⟩ ?_ ?_⟩
    · rintro i J hi ⟨eX, sJ⟩
      rw [Int.toNat_natCast] at hi
      rw [Int.zero_add]
      have fll := List.length_filter_le (fun p : Nat => !inV (.int (p : Int)) (planV rr n)) (List.range i)
      rw [List.length_range] at fll
      have nx : ((List.range (i + 1)).filter fun p : Nat => !inV (.int (p : Int)) (planV rr n)) = ((List.range i).filter fun p : Nat => !inV (.int (p : Int)) (planV rr n)) ++ if (!inV (.int (i : Int)) (planV rr n)) = true then [i] else [] := by
        rw [List.range_succ, List.filter_append, List.filter_cons, List.filter_nil]
      refine ⟨rfl, _, rfl, _, rfl, U, _, rfl, .inr (.inl (.inl (sJ _ _ e1))), rfl, fl, _, rfl, ?_⟩
      show if (!inV (V.int (i : Int)) (planV rr n)) = true then _ else _
      refine ite2 (fun q => ?_) (fun q => ?_)
      · refine ⟨_, rfl, _, eX, small1000 (by unfold natV; rw [List.length_map]; omega), ?_, offT sJ nX⟩
        rw [upd_same, nx, if_pos q]
        unfold natV
        rw [List.map_append]
        rfl
      · refine ⟨?_, sJ⟩
        rw [nx, if_neg q, List.append_nil]
        exact eX
    rintro J ⟨eX, sJ⟩
    rw [Int.toNat_natCast] at eX
    have eX : J X = some (.lst (natV (hidL rr n))) := eX
    have kk := k J (s1.trans sJ)
    unfold likeE at kk
    have mem := fun p => (hid_mem hf (n := n) (p := p)).mp
    refine ⟨_, ⟨_, rfl, !(natV (hidL rr n)).isEmpty, .inl ⟨_, .inl (.inl eX), rfl⟩, ?_⟩, fun v J h => h⟩
    generalize hidL rr n = hs at eX kk mem
    cases g : hs.getLast? with
    | none =>
      rw [List.getLast?_eq_none_iff.mp g] at kk ⊢
      exact iteF kk
    | some p =>
      obtain ⟨l, rfl⟩ := List.getLast?_eq_some_iff.mp g
      have pn := (mem p (List.mem_append_right _ (List.mem_singleton.mpr rfl))).1
      rw [g] at kk
      have e : (!(natV (l ++ [p])).isEmpty) = true := by
        cases l <;> rfl
      rw [e]
      have lst : atI (natV (l ++ [p])) (-1) = some (.int (p : Int)) := by
        unfold natV
        rw [List.map_append]
        exact atI_last _ _
      refine iteT ⟨_, rfl, _, rfl, 1, rfl, X, _, _, _, rfl, rfl, .inl (.inl eX), lst, n, p, rfl, pn, hn, fun y ey => ?_⟩
      have e2 : y = strOf (dotp n p) := str_ext ey
      rw [e2]
      exact kk
def spConfT (C : Addr) : Sp := fun vs H Q _ => ∃ (a : Addr) (rs : List (Addr × Rec)) (n : Nat), vs = [.ref a, .int (n : Int)] ∧ RowAt C H a rs ∧ n ≤ 500 ∧ ∀ (X : Addr) (G : Hp), H X = none → Same H G → G X = some (.lst ((confL (rs.map (·.2)) n).map V.str)) → Q (.ref X) G
theorem cal_confT (B : Bi mg) (D : At K mg "confused_texts" s_confused_texts ps_confused_texts) (C_like_a_shorter_one : Cal P w K mg base 3 "like_a_shorter_one" ps_like_a_shorter_one (spLikeS C)) (C_like_an_equally_long_one : Cal P w K mg base 3 "like_an_equally_long_one" ps_like_an_equally_long_one (spLikeE C)) : Cal P w K mg base 4 "confused_texts" ps_confused_texts (spConfT C) := by
  refine D.cal sc_confused_texts (fun vs H Q E h => ?_) (fun f cdv A outer s H vs Q E hr h => ?_)
  · obtain ⟨a, rs, n, rfl, _⟩ := h
    rfl
  · obtain ⟨a, rs, n, rfl, hR, hn, k⟩ := h
    generalize hrr : rs.map (·.2) = rr at k
    refine ⟨_, (pss_cons (ps_setLc (i := 2) (own := [("shorter", 3)]) (by rfl) sc_confused_texts.nd rfl rfl (sw_true rfl rfl rfl (by decide +kernel)) (pi_range1 (by rfl) B.range (pa_cons (pv 1) pa_nil)) (blkOk_by (own := [("shorter", 3)]) (N := ["row", "length", "found", "shorter", "text"]) (sc := defScope s_confused_texts) (by decide +kernel)) (fun _ _ _ _ _ => pg_name (i := 3) sc_confused_texts.nd rfl (.inl rfl)) (fun _ _ _ _ _ => pts_nil) (fun _ _ _ _ _ => (pe_own C_like_a_shorter_one hr (by decide) (by rfl) (pa_cons (pv 0) (pa_cons (pv 1) (pa_cons (pv 3) pa_nil))))))
      (pss_cons (ps_expr (pe_bm PySem.F.plainAttrs_list PySem.F.slot_list_append PySem.F.type_list_append mt_append (pv 2) (pa_cons (pe_own C_like_an_equally_long_one hr (by decide) (by rfl) (pa_cons (pv 0) (pa_cons (pv 1) pa_nil))) pa_nil)))
      (pss_one (ps_ret (pe_lc (own := [("text", 4)]) (by rfl) sc_confused_texts.nd (pi_list (pv 2)) (blkOk_by (own := [("text", 4)]) (N := ["row", "length", "found", "shorter", "text"]) (sc := defScope s_confused_texts) (by decide +kernel)) (fun _ _ _ _ _ => pg_name (i := 4) sc_confused_texts.nd rfl (.inl rfl)) (fun _ _ _ _ _ => (pts_one (pt_cmpR op_notN (pv 4) pe_non (nomark _)))) (fun _ _ _ _ _ => (pv 4))))))), ?_⟩
    refine ⟨_, rfl, _, rfl, by omega, by omega, fun X nX => lc_range (lo := 0) (n := (n : Int).toNat) (fun i J => J X = some (.lst (((List.range i).map (likeS rr n)).map optV)) ∧ Same H J) ⟨upd_same, same_new nX⟩ ?_ ?_⟩
    · rintro i J hi ⟨eX, sJ⟩
      rw [Int.toNat_natCast] at hi
      rw [Int.zero_add]
      refine ⟨rfl, yes (iteT ⟨_, rfl, _, rfl, _, rfl, a, rs, n, i, rfl, hR.same sJ, hn, by omega, fun G sG => ?_⟩)⟩
      rw [hrr]
      refine ⟨_, sG _ _ eX, small1000 (by rw [List.length_map, List.length_map, List.length_range]; omega), ?_, offT (sJ.trans sG) nX⟩
      rw [upd_same, List.range_succ, List.map_append, List.map_append]
      rfl
    rintro J ⟨eX, sJ⟩
    rw [Int.toNat_natCast] at eX
    refine ⟨_, rfl, .inl ⟨rfl, _, .inl (.inl eX)⟩, _, rfl, _, rfl, a, rs, n, rfl, hR.same sJ, hn, fun G sG => ?_⟩
    rw [hrr]
    refine ⟨X, _, _, rfl, rfl, sG _ _ eX, small1000 (by rw [List.length_map, List.length_map, List.length_range]; omega), ?_⟩
    obtain ⟨os, hos⟩ : ∃ os : List (Option Str), os = (List.range n).map (likeS rr n) ++ [likeE rr n] := ⟨_, rfl⟩
    have ol : os.length = n + 1 := by
      rw [hos, List.length_append, List.length_map, List.length_range]
      rfl
    have e3 : upd G X (.lst (((List.range n).map (likeS rr n)).map optV ++ [optV (likeE rr n)])) X = some (.lst (os.map optV)) := by
      rw [upd_same, hos, List.map_append]
      rfl
    have s3 : Same H (upd G X (.lst (((List.range n).map (likeS rr n)).map optV ++ [optV (likeE rr n)]))) := offT (sJ.trans sG) nX
    generalize upd G X (.lst (((List.range n).map (likeS rr n)).map optV ++ [optV (likeE rr n)])) = G3 at e3 s3
    refine ⟨_, rfl, X, rfl, ⟨_, .inl (.inl e3)⟩, fun Y nY => lc_list (K := K) (a := X) (xs := os.map optV) (fun i J => J Y = some (.lst (((os.take i).filterMap id).map V.str)) ∧ Same G3 J) ⟨upd_same, same_new nY⟩ (fun i J _ ⟨_, sJ⟩ => .inl (.inl (sJ _ _ e3))) ?_ ?_⟩
    · rintro i v J2 hi ⟨eY, sJ2⟩
      rw [List.getElem?_map] at hi
      cases ho : os[i]? with
      | none =>
        rw [ho] at hi
        cases hi
      | some o =>
        rw [ho] at hi
        have hi : some (optV o) = some v := hi
        cases hi
        have il := (List.getElem?_eq_some_iff.mp ho).1
        have tk : (os.take (i + 1)).filterMap id = (os.take i).filterMap id ++ [o].filterMap id := by
          rw [List.take_add_one, ho, List.filterMap_append]
          rfl
        have fl := List.length_filterMap_le id (os.take i)
        rw [List.length_take] at fl
        cases o with
        | none =>
          refine ⟨rfl, _, rfl, rfl, _, rfl, iteNS rfl ?_⟩
          refine ⟨?_, sJ2⟩
          rw [tk]
          show J2 Y = some (.lst ((((os.take i).filterMap id) ++ []).map V.str))
          rw [List.append_nil]
          exact eY
        | some y =>
          refine ⟨rfl, _, rfl, rfl, _, rfl, ?_⟩
          show if (!decide (V.str y = V.non)) = true then _ else _
          rw [decide_eq_false (show ¬ V.str y = V.non by intro z; cases z)]
          refine iteT ⟨_, rfl, _, eY, small1000 (by rw [List.length_map]; omega), ?_, offT sJ2 nY⟩
          rw [upd_same, tk, List.map_append]
          rfl
    rintro J2 ⟨eY, sJ2⟩
    rw [List.length_map, List.take_length] at eY
    refine k Y J2 ?_ (s3.trans sJ2) ?_
    · exact free_ofP s3 nY
    · rw [eY]
      unfold confL
      rw [hos]
end
end Gu
namespace Gu
open PySem PySem.Spec PyProof.Rows L2
/-! ### views: what follows -/
theorem far_cut {r : Rec} (f : r.fit) {cs : List Nat} (l : 80 ≤ cs.length) : r.cut (cs.take 40 ++ cs.drop (cs.length - 40)) = r.cut cs := by
  have f1 := f.l
  have f2 := f.h
  have f3 := f.t
  have el : (cs.take 40 ++ cs.drop (cs.length - 40)).length = 80 := by
    rw [List.length_append, List.length_take, List.length_drop]
    omega
  unfold Rec.cut cut
  rw [el, if_neg (by omega), if_neg (by omega)]
  congr 1
  · congr 1
    rw [List.take_append_of_le_length (by rw [List.length_take]; omega), List.take_take]
    congr 1
    omega
  · refine List.ext_getElem? fun j => ?_
    rw [List.getElem?_drop, List.getElem?_drop, List.getElem?_append_right (by rw [List.length_take]; omega), List.length_take, List.getElem?_drop]
    congr 1
    omega
theorem far_cuts {rs : List Rec} (hf : ∀ r ∈ rs, r.fit) (h1 : 1 ≤ rs.length) {cs : List Nat} (l : 80 ≤ cs.length) : cuts rs (cs.take 40 ++ cs.drop (cs.length - 40)) = cuts rs cs := by
  cases rs with
  | nil => cases h1
  | cons r rs =>
    show cuts rs (r.cut _) = cuts rs (r.cut cs)
    rw [far_cut (hf r (List.mem_cons_self ..)) l]
/-- views as they are: rows of fitting shorteners -/
def Vw (ws : List VW) : Prop := ∀ v ∈ ws, (∀ r ∈ v.recs, r.fit) ∧ 1 ≤ v.recs.length
theorem ViewsAt.vw {C : Addr} {H : Hp} {a : Addr} {ws : List VW} (h : ViewsAt C H a ws) : Vw ws := fun v hv => ⟨(h.el v hv).row.fits, by
  unfold VW.recs
  rw [List.length_map]
  exact (h.el v hv).l1⟩
theorem poss_far {ws : List VW} (h : Vw ws) {n : Nat} (hn : 80 ≤ n) (p : Poss ws n) : Poss ws 80 := by
  obtain ⟨cs, rfl, f⟩ := p
  refine ⟨cs.take 40 ++ cs.drop (cs.length - 40), ?_, fun v hv => ?_⟩
  · rw [List.length_append, List.length_take, List.length_drop]
    omega
  · rw [far_cuts (h v hv).1 (h v hv).2 hn]
    exact f v hv
theorem no63 : 63 ∉ signs.cps.toList := by decide +kernel
theorem Knows.val {n p : Nat} {kvs : List (Key × V)} {Pd : List Nat → Prop} (h : Knows n kvs Pd) {v : V} (e : valV kvs (Sum.inl (p : Int)) = some v) : ∃ c, v = .str (one c) ∧ c ∈ signs.cps.toList ∧ p < n := by
  obtain ⟨p', c, ek, hp, rfl, hc⟩ := h.ks _ _ e
  have ek : p = p' := by have := Sum.inl.inj ek; omega
  exact ⟨c, rfl, hc, by omega⟩
/-- told signs agree with a text that fits -/
theorem told_agrees {ws : List VW} {n : Nat} {kvs : List (Key × V)} (k : Knows n kvs (Fits ws)) {cs : List Nat} (l : cs.length = n) (f : Fits ws cs) {i c d : Nat} (hc : cs[i]? = some c) (hd : (wrote kvs 63 n)[i]? = some d) : d = 63 ∨ d = c := by
  have il : i < n := by rw [← l]; exact (List.getElem?_eq_some_iff.mp hc).1
  rw [wrote_at il] at hd
  cases e : valV kvs (Sum.inl (i : Int)) with
  | none =>
    rw [sgn_none e] at hd
    exact .inl (Option.some.inj hd).symm
  | some v =>
    obtain ⟨g, rfl, _, _⟩ := k.val e
    rw [sgn_some e] at hd
    have := (k.iff cs l).mp f i g e
    rw [hc] at this
    exact .inr ((Option.some.inj hd).symm.trans (Option.some.inj this).symm)
/-- a text filled in where it is open -/
theorem filled_fits {ws : List VW} {n : Nat} {kvs : List (Key × V)} (k : Knows n kvs (Fits ws)) {cs : List Nat} (l : cs.length = n) (h : ∀ (i d : Nat), (wrote kvs 63 n)[i]? = some d → d ≠ 63 → cs[i]? = some d) : Fits ws cs := (k.iff cs l).mpr fun p c e => by
  obtain ⟨g, eg, hg, hp⟩ := k.val e
  obtain rfl := one_inj eg
  exact h p c (by rw [wrote_at hp, sgn_some e]) (fun z => no63 (z ▸ hg))
/-- what fewer views know, more views know -/
theorem more_knows {ws us : List VW} {n : Nat} {kvs jvs : List (Key × V)} (k : Knows n kvs (Fits ws)) (j : Knows n jvs (Fits us)) (sub : ∀ cs, Fits ws cs → Fits us cs) {p c : Nat} (e : valV jvs (Sum.inl (p : Int)) = some (.str (one c))) : valV kvs (Sum.inl (p : Int)) = some (.str (one c)) := by
  obtain ⟨_, _, _, hp⟩ := j.val e
  have a : ∀ o, (wrote kvs o n)[p]? = some c := fun o => (j.iff _ (wrote_len ..)).mp (sub _ (wrote_fits k)) p c e
  cases ev : valV kvs (Sum.inl (p : Int)) with
  | none =>
    have a1 := a 46
    have a2 := a 48
    rw [wrote_at hp, sgn_none ev] at a1 a2
    have := (Option.some.inj a1).trans (Option.some.inj a2).symm
    exact absurd this (by decide)
  | some v =>
    obtain ⟨g, rfl, _, _⟩ := k.val ev
    have a1 := a 46
    rw [wrote_at hp, sgn_some ev] at a1
    rw [Option.some.inj a1]
theorem count_le {α : Type} (f g : α → Nat) : ∀ l : List α, (∀ a ∈ l, f a = 63 → g a = 63) → (l.map f).count 63 ≤ (l.map g).count 63
  | [], _ => Nat.le_refl _
  | a :: l, h => by
    have ih := count_le f g l fun b hb => h b (List.mem_cons_of_mem _ hb)
    have ha := h a (List.mem_cons_self ..)
    rw [List.map_cons, List.map_cons, List.count_cons, List.count_cons]
    by_cases e : f a = 63
    · rw [e, ha e]
      omega
    · rw [if_neg (show ¬ (f a == 63) = true by simpa using e)]
      omega
theorem more_count {ws us : List VW} {n : Nat} {kvs jvs : List (Key × V)} (k : Knows n kvs (Fits ws)) (j : Knows n jvs (Fits us)) (sub : ∀ cs, Fits ws cs → Fits us cs) : (wrote kvs 63 n).count 63 ≤ (wrote jvs 63 n).count 63 := by
  unfold wrote
  refine count_le _ _ _ fun p hp h => ?_
  cases e : valV jvs (Sum.inl (p : Int)) with
  | none => exact sgn_none e
  | some v =>
    obtain ⟨c, rfl, hc, _⟩ := j.val e
    rw [sgn_some (more_knows k j sub e)] at h
    exact absurd (h ▸ hc) no63
theorem more_agrees {ws us : List VW} {n : Nat} {kvs jvs : List (Key × V)} (k : Knows n kvs (Fits ws)) (j : Knows n jvs (Fits us)) (sub : ∀ cs, Fits ws cs → Fits us cs) {i c d : Nat} (hc : (wrote kvs 63 n)[i]? = some c) (hd : (wrote jvs 63 n)[i]? = some d) : d = 63 ∨ d = c := by
  have il : i < n := by
    have := (List.getElem?_eq_some_iff.mp hd).1
    rw [wrote_len] at this
    exact this
  rw [wrote_at il] at hc hd
  cases e : valV jvs (Sum.inl (i : Int)) with
  | none =>
    rw [sgn_none e] at hd
    exact .inl (Option.some.inj hd).symm
  | some v =>
    obtain ⟨g, rfl, _, _⟩ := j.val e
    rw [sgn_some e] at hd
    rw [sgn_some (more_knows k j sub e)] at hc
    exact .inr ((Option.some.inj hd).symm.trans (Option.some.inj hc))
/-- texts place by place not greater -/
theorem not_less : ∀ {zs cs : List Nat}, zs.length = cs.length → (∀ (i a b : Nat), zs[i]? = some a → cs[i]? = some b → a ≤ b) → ¬ cs < zs
  | [], [], _, _, h => absurd h (by decide)
  | a :: zs, b :: cs, l, le, h => by
    rw [List.cons_lt_cons_iff] at h
    have ab := le 0 a b rfl rfl
    rcases h with h | ⟨_, h⟩
    · omega
    · exact not_less (by simpa using l) (fun i x y hx hy => le (i + 1) x y hx hy) h
theorem least_le {ws : List VW} {n : Nat} {kvs : List (Key × V)} (k : Knows n kvs (Fits ws)) {cs : List Nat} (l : cs.length = n) (sc : Signs cs) (f : Fits ws cs) : ¬ cs < wrote kvs 46 n := not_less (by rw [wrote_len, l]) fun i a b ha hb => by
  have il : i < n := by rw [← l]; exact (List.getElem?_eq_some_iff.mp hb).1
  rw [wrote_at il] at ha
  cases e : valV kvs (Sum.inl (i : Int)) with
  | none =>
    rw [sgn_none e] at ha
    have := sign_low (sc b (List.mem_of_getElem? hb))
    have := Option.some.inj ha
    omega
  | some v =>
    obtain ⟨g, rfl, _, _⟩ := k.val e
    rw [sgn_some e] at ha
    have := (k.iff cs l).mp f i g e
    rw [hb] at this
    have h1 := Option.some.inj this
    have h2 := Option.some.inj ha
    omega
/-- the only text is this one -/
theorem sole_is {ws : List VW} {n : Nat} {kvs : List (Key × V)} (k : Knows n kvs (Fits ws)) (open0 : 63 ∉ wrote kvs 63 n) {cs : List Nat} (l : cs.length = n) (f : Fits ws cs) : wrote kvs 63 n = cs := by
  refine List.ext_getElem? fun i => ?_
  by_cases il : i < n
  · have hc : cs[i]? = some (cs[i]'(by omega)) := List.getElem?_eq_getElem (by omega)
    have hw : (wrote kvs 63 n)[i]? = some (sgn kvs 63 i) := wrote_at il
    rcases told_agrees k l f hc hw with e | e
    · rw [e] at hw
      exact absurd (List.mem_of_getElem? hw) open0
    · rw [hw, hc, e]
  · rw [List.getElem?_eq_none (by rw [wrote_len]; omega), List.getElem?_eq_none (by omega)]
end Gu
namespace Gu
open PySem PySem.Spec PyProof.Rows L2
section
variable {P : Program} {w : World} {K : PySem.W.Frag} {mg : Str → Option Value} {base : Heap} {C : Addr}
def spPairL (C : Addr) : Sp := fun vs H Q _ => ∃ (a : Addr) (rs : List (Addr × Rec)), vs = [.ref a] ∧ RowAt C H a rs ∧ 1 ≤ rs.length ∧ rs.length ≤ 4 ∧ ∀ (t : Addr) (y z : Str) (G : Hp), H t = none → Same H G → G t = some (.tup [.str y, .str z]) → PairOf (rs.map (·.2)) y z → Q (.ref t) G
theorem cal_leastPair (B : Bi mg) (D : At K mg "least_pair" s_least_pair ps_least_pair) (C_check_row : Cal P w K mg base 2 "check_row" ps_check_row (spCheckRow C)) (C_confused_texts : Cal P w K mg base 4 "confused_texts" ps_confused_texts (spConfT C)) (C_shown_by : Cal P w K mg base 2 "shown_by" ps_shown_by (spShownBy C)) (C_least_text : Cal P w K mg base 6 "least_text" ps_least_text (spLeast C)) : Cal P w K mg base 7 "least_pair" ps_least_pair (spPairL C) := by
  refine D.cal sc_least_pair (fun vs H Q E h => ?_) (fun f cdv A outer s H vs Q E hr h => ?_)
  · obtain ⟨a, rs, rfl, _⟩ := h
    rfl
  · obtain ⟨a, rs, rfl, hR, l1, l4, k⟩ := h
    have hf := hR.fits
    generalize hrr : rs.map (·.2) = rr at k hf
    have r1 : 1 ≤ rr.length := by rw [← hrr, List.length_map]; exact l1
    refine ⟨_, (pss_cons (ps_expr (pe_own C_check_row hr (by decide) (by rfl) (pa_cons (pv 0) pa_nil)))
      (pss_cons (ps_set (i := 1) sc_least_pair.nd rfl (.inl rfl) pe_int)
      (pss_cons (ps_set (i := 2) sc_least_pair.nd rfl (.inl rfl) (pe_lst pa_nil))
      (pss_cons (ps_while PassesOwn.never (pt_not (pt_truth (pv 2) (fun _ => rfl)))
      (pss_cons (ps_set (i := 2) sc_least_pair.nd rfl (.inl rfl) (pe_own C_confused_texts hr (by decide) (by rfl) (pa_cons (pv 0) (pa_cons (pv 1) pa_nil))))
      (pss_one (ps_aug (i := 1) sc_least_pair.nd rfl (.inl rfl) pe_int ip_add))))
      (pss_cons (ps_set (i := 3) sc_least_pair.nd rfl (.inl rfl) (pe_callB (cr_minS rfl) (by rfl) B.min (by decide +kernel) (pa_cons (pv 2) pa_nil)))
      (pss_one (ps_ret (pe_tup (pa_cons (pe_own C_least_text hr (by decide) (by rfl) (pa_cons (pe_tup (pa_cons (pe_tup (pa_cons (pv 0) (pa_cons (pe_own C_shown_by hr (by decide) (by rfl) (pa_cons (pv 0) (pa_cons (pv 3) pa_nil))) pa_nil))) pa_nil)) pa_nil)) (pa_cons (pv 3) pa_nil)))))))))), ?_⟩
    refine ⟨_, rfl, a, rs, rfl, hR, l1, l4, fun G1 s1 => ?_⟩
    refine ⟨Nat.zero_le _, fun F nF => ?_⟩
    have sF : Same H (upd G1 F (.lst [])) := s1.trans (same_new nF)
    have eF : upd G1 F (.lst []) F = some (.lst (([] : List Str).map V.str)) := upd_same
    generalize upd G1 F (.lst []) = G2 at sF eF
    refine ⟨fun m σ J => ∃ (i : Nat) (X : Addr) (cur : List Str), m = 85 - i ∧ i ≤ 85 ∧ σ = [some (.ref a), some (.int (i : Int)), some (.ref X), none] ∧ J X = some (.lst (cur.map V.str)) ∧ Same H J ∧ ((i = 0 ∧ cur = []) ∨ ∃ j, i = j + 1 ∧ cur = confL rr j ∧ ∀ q, q < j → confL rr q = []), ⟨85, 0, F, [], rfl, by decide, rfl, eF, sF, .inl ⟨rfl, rfl⟩⟩, ?_⟩
    rintro m σ J ⟨i, X, cur, rfl, i85, rfl, eX, sJ, hc⟩
    refine ⟨_, rfl, !(cur.map V.str).isEmpty, .inl ⟨_, .inl (.inl eX), rfl⟩, ?_⟩
    cases cur with
    | nil =>
      have il : i < 85 := by
        rcases hc with ⟨rfl, _⟩ | ⟨j, rfl, e, _⟩
        · decide
        · rcases Nat.lt_or_ge j 84 with h | h
          · omega
          · have : j = 84 := by omega
            subst this
            exact absurd e.symm (conf_84 hf r1)
      refine iteT ⟨_, fun σ' H' h => h, _, rfl, _, rfl, a, rs, i, rfl, hR.same sJ, by omega, fun X2 G nX2 sG eX2 => ?_⟩
      rw [hrr] at eX2
      refine ⟨_, rfl, _, _, rfl, rfl, 85 - (i + 1), by omega, i + 1, X2, confL rr i, rfl, by omega, ?_, eX2, sJ.trans sG, .inr ⟨i, rfl, rfl, fun q hq => ?_⟩⟩
      · show [_, some (V.int ((i : Int) + 1)), _, _] = _
        rw [Int.natCast_add]
        rfl
      · rcases hc with ⟨rfl, _⟩ | ⟨j, rfl, e, all⟩
        · cases hq
        · rcases Nat.lt_or_ge q j with h | h
          · exact all q h
          · rw [show q = j by omega]
            exact e.symm
    | cons c0 cr =>
      obtain ⟨j, rfl, ec, all⟩ : ∃ j, i = j + 1 ∧ c0 :: cr = confL rr j ∧ ∀ q, q < j → confL rr q = [] := by
        rcases hc with ⟨_, e⟩ | h
        · cases e
        · exact h
      rw [ec] at eX
      have ne : confL rr j ≠ [] := by
        rw [← ec]
        intro e
        cases e
      have sm := conf_ok hf (minS_mem ne)
      refine iteF ⟨_, rfl, X, confL rr j, rfl, .inl (.inl eX), ne, ?_⟩
      obtain ⟨z, hz⟩ : ∃ z, z = minS (confL rr j) := ⟨_, rfl⟩
      rw [← hz] at sm ⊢
      have zl := sm.len
      refine ⟨_, rfl, _, rfl, _, rfl, a, rs, z, rfl, hR.same sJ, by omega, fun x ex => ?_⟩
      rw [hrr] at ex
      have xs : Signs x.cps.toList := by
        rw [ex]
        exact cuts_signs _ hf sm.sg
      have xl : x.cps.toList.length ≤ 200 := by
        rw [ex]
        exact cuts_len _ hf (by have := sm.len; omega)
      have xt : isTxt x 200 = true := by
        have e : x.length = x.cps.toList.length := rfl
        unfold isTxt
        rw [decide_eq_true (by omega), Bool.true_and, List.all_eq_true]
        exact fun c hc => decide_eq_true (xs c hc)
      refine ⟨by show 2 ≤ sizeLine; decide, fun u nu => ?_⟩
      have s4 : Same J (upd J u (.tup [.ref a, .str x])) := same_new nu
      have e4 : upd J u (.tup [.ref a, .str x]) u = some (.tup [.ref a, .str x]) := upd_same
      generalize upd J u (.tup [.ref a, .str x]) = J4 at s4 e4
      refine ⟨by show 1 ≤ sizeLine; decide, fun v nv => ?_⟩
      have s5 : Same J4 (upd J4 v (.tup [.ref u])) := same_new nv
      have e5 : upd J4 v (.tup [.ref u]) v = some (.tup [.ref u]) := upd_same
      generalize upd J4 v (.tup [.ref u]) = J5 at s5 e5
      have sJ5 := sJ.trans (s4.trans s5)
      have hV : ViewsAt C J5 v [⟨u, a, rs, x⟩] := ⟨e5, fun q hq => by
        rw [List.mem_singleton.mp hq]
        exact ⟨s5 _ _ e4, hR.same sJ5, l1, l4, xt⟩, Nat.le_refl 1, by show 1 ≤ 4; decide⟩
      have ft : ∀ cs, Fits [⟨u, a, rs, x⟩] cs ↔ cuts rr cs = cuts rr z.cps.toList := fun cs => by
        rw [← ex, ← hrr]
        exact ⟨fun h => h _ (List.mem_singleton.mpr rfl), fun h q hq => by
          rw [List.mem_singleton.mp hq]
          exact h⟩
      refine ⟨v, [⟨u, a, rs, x⟩], rfl, hV, fun val J6 s6 hl => ?_⟩
      have some80 : ∃ q, q ≤ 80 ∧ Poss [⟨u, a, rs, x⟩] q := by
        have p : Poss [⟨u, a, rs, x⟩] z.cps.toList.length := ⟨_, rfl, (ft _).mpr rfl⟩
        rcases Nat.lt_or_ge z.cps.toList.length 80 with h | h
        · exact ⟨_, by omega, p⟩
        · exact ⟨80, Nat.le_refl _, poss_far hV.vw h p⟩
      rcases hl with ⟨_, no⟩ | ⟨q, kvs, y, rfl, q80, _, low, kn, ey⟩
      · obtain ⟨q, q80, p⟩ := some80
        have : q ∈ possL [⟨u, a, rs, x⟩] 81 := mem_possL.mpr ⟨by omega, p⟩
        rw [no] at this
        cases this
      · refine ⟨_, rfl, by show 2 ≤ sizeLine; decide, fun t nt => k t y z _ (free_ofP (sJ5.trans s6) nt) (sJ5.trans (s6.trans (same_new nt))) upd_same ⟨⟨j, by omega, ne, all, hz⟩, ⟨q, kvs, q80, fun cs hcs => ?_, kn.imp fun cs _ => ft cs, ey⟩⟩⟩
        rcases Nat.lt_or_ge cs.length q with h | h
        · exact absurd ⟨cs, rfl, (ft cs).mpr hcs⟩ (low _ h)
        · exact h
end
end Gu
namespace Gu
open PySem PySem.Spec PyProof.Rows L2
/-! ### _law_small -/
section
variable {P : Program} {w : World} {K : PySem.W.Frag} {mg : Str → Option Value} {base : Heap}
set_option maxHeartbeats 2000000 in
theorem cal_small (B : Bi mg) (D : At K mg "_law_small" s_law_small ps_law_small) (C_law_ladle : Cal P w K mg base 1 "_law_ladle" ps_law_ladle spLadle) (C_law_one_of : Cal P w K mg base 2 "_law_one_of" ps_law_one_of (spOneOf K)) : Cal P w K mg base 3 "_law_small" ps_law_small spTolds := by
  refine D.cal sc_law_small (fun vs H Q E h => ?_) (fun f cdv A outer s H vs Q E hr h => ?_)
  · obtain ⟨p, rfl, _⟩ := h
    rfl
  · obtain ⟨p, rfl, hp, k⟩ := h
    refine ⟨_, (pss_cons (ps_set (i := 1) sc_law_small.nd rfl (.inl rfl) (pe_lst pa_nil))
      (pss_cons (ps_for PassesOwn.never rfl (pi_range1 (by rfl) B.range (pa_cons (pe_own C_law_one_of hr (by decide) (by rfl) (pa_cons (pv 0) (pa_cons (pe_lst (pa_cons pe_int (pa_cons pe_int (pa_cons pe_int (pa_cons pe_int (pa_cons pe_int pa_nil)))))) pa_nil))) pa_nil)) (pg_name (i := 2) sc_law_small.nd rfl (.inl rfl))
      (pss_cons (ps_par (i := 3) (j := 4) (by rfl) sc_law_small.nd rfl rfl (by decide) rfl rfl (pa_cons (pe_own C_law_one_of hr (by decide) (by rfl) (pa_cons (pv 0) (pa_cons (pe_lst (pa_cons pe_str (pa_cons pe_str (pa_cons pe_str (pa_cons pe_str (pa_cons pe_str pa_nil)))))) pa_nil))) (pa_cons (pe_own C_law_one_of hr (by decide) (by rfl) (pa_cons (pv 0) (pa_cons (pe_lst (pa_cons pe_int (pa_cons pe_int (pa_cons pe_int pa_nil)))) pa_nil))) pa_nil)) (by rfl))
      (pss_one (ps_expr (pe_bm PySem.F.plainAttrs_list PySem.F.slot_list_append PySem.F.type_list_append mt_append (pv 1) (pa_cons (pe_tup (pa_cons (pe_own C_law_ladle hr (by decide) (by rfl) (pa_cons (pv 0) (pa_cons (pv 4) pa_nil))) (pa_cons (pe_own C_law_ladle hr (by decide) (by rfl) (pa_cons (pv 0) (pa_cons (pv 4) pa_nil))) (pa_cons (pe_own C_law_ladle hr (by decide) (by rfl) (pa_cons (pv 0) (pa_cons (pv 4) pa_nil))) (pa_cons (pv 3) pa_nil))))) pa_nil))))))
      (pss_one (ps_ret (pv 1))))), ?_⟩
    refine ⟨by decide, fun D nD => ?_⟩
    have LD : Ladled p H (upd H D (.lst [])) := .ofSame hp (same_new nD)
    have eD : upd H D (.lst []) D = some (.lst []) := upd_same
    have npD : D ≠ p := hp.ne nD
    generalize upd H D (.lst []) = H1 at LD eD
    refine ⟨_, rfl, by show 5 ≤ sizeLine; decide, fun q0 n0 => ?_⟩
    have L0 : Ladled p H1 (upd H1 q0 (.lst [.int 1, .int 1, .int 1, .int 2, .int 3])) := .ofSame LD.pot (same_new n0)
    refine ⟨p, L0.pot, .inl ⟨q0, _, rfl, .inl (.inl upd_same), LD.pot.ne n0, by decide, by decide, fun v G1 hv L1 => ?_⟩⟩
    obtain ⟨n, e0, e1, rfl⟩ : ∃ n : Int, 1 ≤ n ∧ n ≤ 3 ∧ v = .int n := by
      have a : ∀ v ∈ ([.int 1, .int 1, .int 1, .int 2, .int 3] : List V), ∃ n : Int, 1 ≤ n ∧ n ≤ 3 ∧ v = .int n := by
        intro v hv
        simp only [List.mem_cons, List.not_mem_nil, or_false] at hv
        rcases hv with rfl | rfl | rfl | rfl | rfl <;> exact ⟨_, by decide, by decide, rfl⟩
      exact a v hv
    have M1 : Ladled p H1 G1 := L0.trans L1
    have eD1 := M1.keep _ _ eD npD
    have LD1 := LD.trans M1
    clear M1 L1 L0 LD eD
    refine ⟨n, rfl, by omega, by omega, for_range (lo := 0) (n := n.toNat) (fun i σ J => ∃ (a b c : Option V) (ps : List (Addr × Rec)), σ = [some (.ref p), some (.ref D), a, b, c] ∧ ps.length = i ∧ ToldsAt J D ps ∧ (∀ q ∈ ps, H q.1 = none) ∧ Ladled p H J)
      ⟨none, none, none, [], rfl, rfl, ⟨eD1, (fun q hq => by cases hq)⟩, (fun q hq => by cases hq), LD1⟩ ?_ ?_⟩
    · rintro i σ J hi ⟨a, b, c, ps, rfl, rfl, T, nw, M⟩
      refine ⟨_, rfl, by show 5 ≤ sizeLine; decide, fun q1 n1 => ?_⟩
      have K0 : Ladled p J (upd J q1 (.lst [.str "", .str "~", .str "..", .str "...", .str ".a"])) := .ofSame M.pot (same_new n1)
      refine ⟨p, K0.pot, .inl ⟨q1, _, rfl, .inl (.inl upd_same), M.pot.ne n1, by decide, by decide, fun v G1 hv L1 => ?_⟩⟩
      obtain ⟨z, hz, rfl⟩ : ∃ z, z ∈ marks ∧ v = .str z := by
        have e : ([.str "", .str "~", .str "..", .str "...", .str ".a"] : List V) = marks.map V.str := rfl
        rw [e] at hv
        obtain ⟨z, h1, h2⟩ := List.mem_map.mp hv
        exact ⟨z, h1, h2.symm⟩
      have M1 : Ladled p J G1 := K0.trans L1
      clear K0 L1 n1 hv
      refine ⟨_, rfl, by show 3 ≤ sizeLine; decide, fun q2 n2 => ?_⟩
      have K0 : Ladled p G1 (upd G1 q2 (.lst [.int 3, .int 6, .int 12])) := .ofSame M1.pot (same_new n2)
      refine ⟨p, K0.pot, .inl ⟨q2, _, rfl, .inl (.inl upd_same), M1.pot.ne n2, by decide, by decide, fun v G2 hv L2 => ?_⟩⟩
      obtain ⟨m, m0, m1, rfl⟩ : ∃ m : Int, 0 < m ∧ m ≤ 12 ∧ v = .int m := by
        rcases List.mem_cons.mp hv with rfl | hv
        · exact ⟨3, by decide, by decide, rfl⟩
        rcases List.mem_cons.mp hv with rfl | hv
        · exact ⟨6, by decide, by decide, rfl⟩
        rcases List.mem_cons.mp hv with rfl | hv
        · exact ⟨12, by decide, by decide, rfl⟩
        cases hv
      have M2 : Ladled p J G2 := M1.trans (K0.trans L2)
      clear K0 L2 n2 hv M1
      have hD2 : G2 D = some (.lst (ps.map fun q => V.ref q.1)) := M2.keep _ _ T.ls npD
      refine ⟨_, _, rfl, _, rfl, .inl ⟨rfl, _, .inl (.inl hD2)⟩, _, rfl, _, rfl, p, m, rfl, M2.pot, m0, by omega, fun l G3 l0 l1 L3 => ?_⟩
      have M3 := M2.trans L3
      refine ⟨_, rfl, _, rfl, p, m, rfl, M3.pot, m0, by omega, fun h G4 h0 h1 L4 => ?_⟩
      have M4 := M3.trans L4
      refine ⟨_, rfl, _, rfl, p, m, rfl, M4.pot, m0, by omega, fun t G5 t0 t1 L5 => ?_⟩
      have M5 := M4.trans L5
      clear L3 L4 L5 M2 M3 M4
      refine ⟨_, rfl, by show 4 ≤ sizeLine; decide, fun q nq => ?_⟩
      have M6 := M5.new nq (o := .tup [.int l, .int h, .int t, .str z])
      have eq : upd G5 q (.tup [.int l, .int h, .int t, .str z]) q = some (.tup [.int l, .int h, .int t, .str z]) := upd_same
      have nqJ := M5.free nq
      generalize upd G5 q (.tup [.int l, .int h, .int t, .str z]) = G6 at M6 eq
      have hD : G6 D = some (.lst (ps.map fun q => V.ref q.1)) := M6.keep _ _ T.ls npD
      refine ⟨D, _, _, rfl, rfl, hD, small1000 (by rw [List.length_map]; omega), _, _, _, ps ++ [(q, ⟨l, h, t, z⟩)], rfl, by rw [List.length_append]; rfl, ⟨?_, fun r hr => ?_⟩, fun r hr => ?_, (M.trans M6).mut (o := .lst (ps.map (fun q => V.ref q.1) ++ [.ref q])) nD npD⟩
      · rw [upd_same, List.map_append]
        rfl
      · rcases List.mem_append.mp hr with hr | hr
        · obtain ⟨g1, g2⟩ := T.tp r hr
          have ne1 : r.1 ≠ D := ne_of g1 T.ls (by intro z; cases z)
          have ne2 : r.1 ≠ p := hp.ne (nw r hr)
          exact ⟨by rw [upd_ne ne1]; exact M6.keep _ _ g1 ne2, g2⟩
        · rw [List.mem_singleton.mp hr]
          have ne1 : q ≠ D := ne_of eq hD (by intro z; cases z)
          exact ⟨by rw [upd_ne ne1]; exact eq, (⟨l0, by omega, h0, by omega, t0, by omega, hz⟩ : Four l h t z)⟩
      · rcases List.mem_append.mp hr with hr | hr
        · exact nw r hr
        · rw [List.mem_singleton.mp hr]
          exact M.free nqJ
    · rintro σ J ⟨a, b, c, ps, rfl, e, T, nw, M⟩
      exact ⟨_, rfl, k D J ps nD T nw (by omega) (by omega) M⟩
end
end Gu
namespace Gu
open PySem PySem.Spec PyProof.Rows L2
/-! ### what is joined with what -/
inductive Eqv (ps : List (Key × Key)) : Key → Key → Prop
  | refl (k : Key) : Eqv ps k k
  | symm {k l : Key} : Eqv ps k l → Eqv ps l k
  | trans {k l m : Key} : Eqv ps k l → Eqv ps l m → Eqv ps k m
  | of {q : Key × Key} : q ∈ ps → Eqv ps q.1 q.2
theorem Eqv.mono {ps qs : List (Key × Key)} (s : ∀ q ∈ ps, q ∈ qs) {k l : Key} (h : Eqv ps k l) : Eqv qs k l := by
  induction h with
  | refl k => exact .refl k
  | symm _ i => exact i.symm
  | trans _ _ i j => exact i.trans j
  | of m => exact .of (s _ m)
theorem Eqv.leadE {ps ls : List (Key × Key)} (h : ∀ q ∈ ls, Eqv ps q.1 q.2) (k : Key) : Eqv ps k (Gu.lead ls k) := by
  induction ls generalizing k with
  | nil => exact .refl k
  | cons q ls ih =>
    have i := ih (fun r hr => h r (List.mem_cons_of_mem _ hr)) (stepL k q)
    show Eqv ps k (Gu.lead ls (stepL k q))
    refine Eqv.trans ?_ i
    unfold stepL
    by_cases e : k = q.1
    · rw [if_pos e, e]
      exact h q (List.mem_cons_self ..)
    · rw [if_neg e]
      exact .refl k
/-- the leaders join nothing else -/
theorem join_min {E : List (Key × Key)} : ∀ {ps ls ms : List (Key × Key)}, (∀ q ∈ ls, Eqv E q.1 q.2) → (∀ q ∈ ps, Eqv E q.1 q.2) → joinL ls ps = some ms → ∀ q ∈ ms, Eqv E q.1 q.2
  | [], ls, ms, h, _, e => by
    cases e
    exact h
  | (a, b) :: r, ls, ms, h, hp, e => by
    unfold joinL at e
    have ab := hp (a, b) (List.mem_cons_self ..)
    have hr := fun q hq => hp q (List.mem_cons_of_mem _ hq)
    have la := Eqv.leadE h a
    have lb := Eqv.leadE h b
    by_cases q : lead ls a = lead ls b
    · rw [if_pos q] at e
      exact join_min h hr e
    · rw [if_neg q] at e
      by_cases q2 : (isSt (lead ls a) && isSt (lead ls b)) = true
      · rw [if_pos q2] at e
        cases e
      · rw [if_neg q2] at e
        by_cases q3 : isSt (lead ls a) = true
        · rw [if_pos q3] at e
          refine join_min (fun x hx => ?_) hr e
          rcases List.mem_append.mp hx with hx | hx
          · exact h x hx
          · rw [List.mem_singleton.mp hx]
            exact lb.symm.trans (ab.symm.trans la)
        · rw [if_neg q3] at e
          refine join_min (fun x hx => ?_) hr e
          rcases List.mem_append.mp hx with hx | hx
          · exact h x hx
          · rw [List.mem_singleton.mp hx]
            exact la.symm.trans (ab.trans lb)
theorem isSt_of {k : Key} (h : isSt k = true) : ∃ z, k = .inr z := by
  cases k with
  | inl i => cases h
  | inr z => exact ⟨z, rfl⟩
/-- what can't be joined joins two signs -/
theorem join_none {E : List (Key × Key)} : ∀ {ps ls : List (Key × Key)}, (∀ q ∈ ls, Eqv E q.1 q.2) → (∀ q ∈ ps, Eqv E q.1 q.2) → joinL ls ps = none → ∃ y z, y ≠ z ∧ Eqv E (.inr y) (.inr z)
  | [], ls, h, _, e => by cases e
  | (a, b) :: r, ls, h, hp, e => by
    unfold joinL at e
    have ab := hp (a, b) (List.mem_cons_self ..)
    have hr := fun q hq => hp q (List.mem_cons_of_mem _ hq)
    have la := Eqv.leadE h a
    have lb := Eqv.leadE h b
    by_cases q : lead ls a = lead ls b
    · rw [if_pos q] at e
      exact join_none h hr e
    · rw [if_neg q] at e
      by_cases q2 : (isSt (lead ls a) && isSt (lead ls b)) = true
      · obtain ⟨s1, s2⟩ := Bool.and_eq_true_iff.mp q2
        obtain ⟨y, hy⟩ := isSt_of s1
        obtain ⟨z, hz⟩ := isSt_of s2
        rw [hy] at la q
        rw [hz] at lb q
        exact ⟨y, z, fun e => q (by rw [e]), la.symm.trans (ab.trans lb)⟩
      · rw [if_neg q2] at e
        by_cases q3 : isSt (lead ls a) = true
        · rw [if_pos q3] at e
          refine join_none (fun x hx => ?_) hr e
          rcases List.mem_append.mp hx with hx | hx
          · exact h x hx
          · rw [List.mem_singleton.mp hx]
            exact lb.symm.trans (ab.symm.trans la)
        · rw [if_neg q3] at e
          refine join_none (fun x hx => ?_) hr e
          rcases List.mem_append.mp hx with hx | hx
          · exact h x hx
          · rw [List.mem_singleton.mp hx]
            exact la.symm.trans (ab.trans lb)
theorem Eqv.same {ps ms : List (Key × Key)} (all : ∀ q ∈ ps, Gu.lead ms q.1 = Gu.lead ms q.2) {k l : Key} (h : Eqv ps k l) : Gu.lead ms k = Gu.lead ms l := by
  induction h with
  | refl k => rfl
  | symm _ i => exact i.symm
  | trans _ _ i j => exact i.trans j
  | of m => exact all _ m
/-- two different signs in one class -/
def Clash (ps : List (Key × Key)) : Prop := ∃ y z, y ≠ z ∧ Eqv ps (.inr y) (.inr z)
theorem join_iff (ps : List (Key × Key)) : joinL [] ps = none ↔ Clash ps := by
  constructor
  · exact join_none (fun q hq => by cases hq) (fun q hq => .of hq)
  · rintro ⟨y, z, ne, h⟩
    cases e : joinL [] ps with
    | none => rfl
    | some ms =>
      obtain ⟨l, _, all⟩ := join_ok .nil e
      have s := h.same all
      rw [(l.free (l.str y)).1, (l.free (l.str z)).1] at s
      exact absurd (Sum.inr.inj s) ne
theorem join_sgn {ps ms : List (Key × Key)} (e : joinL [] ps = some ms) (k : Key) : (∀ z, Eqv ps k (.inr z) → lead ms k = .inr z) ∧ ((∀ z, ¬ Eqv ps k (.inr z)) → ∃ i, lead ms k = .inl i) := by
  obtain ⟨l, _, all⟩ := join_ok .nil e
  refine ⟨fun z h => ?_, fun h => ?_⟩
  · rw [h.same all, (l.free (l.str z)).1]
  · have m := Eqv.leadE (join_min (E := ps) (fun q hq => by cases hq) (fun q hq => .of hq) e) k
    cases q : lead ms k with
    | inl i => exact ⟨i, rfl⟩
    | inr z =>
      rw [q] at m
      exact absurd m (h z)
/-! ### the law's groups -/
theorem any_mem {α : Type} [DecidableEq α] {k : α} {g : List α} : (g.any fun x => decide (x = k)) = true ↔ k ∈ g := by
  rw [List.any_eq_true]
  exact ⟨fun ⟨x, hx, e⟩ => of_decide_eq_true e ▸ hx, fun h => ⟨k, h, decide_eq_true rfl⟩⟩
instance decKey (k : Key) (g : List Key) : Decidable (k ∈ g) := decidable_of_iff _ any_mem
instance decKeys (k : List Key) (g : List (List Key)) : Decidable (k ∈ g) := decidable_of_iff _ any_mem
def bothL (gs : List (List Key)) (both : List Key) : List Key := gs.foldl (fun b g => b ++ g.filter fun k => !decide (k ∈ b)) both
theorem mem_bothL : ∀ {gs : List (List Key)} {both : List Key} {k : Key}, k ∈ bothL gs both ↔ k ∈ both ∨ ∃ g ∈ gs, k ∈ g
  | [], both, k => by
    constructor
    · exact .inl
    · rintro (h | ⟨g, hg, _⟩)
      · exact h
      · cases hg
  | g :: gs, both, k => by
    show k ∈ bothL gs (both ++ g.filter fun k => !decide (k ∈ both)) ↔ _
    rw [mem_bothL, List.mem_append, List.mem_filter]
    constructor
    · rintro ((h | ⟨h, _⟩) | ⟨x, hx, hk⟩)
      · exact .inl h
      · exact .inr ⟨g, List.mem_cons_self .., h⟩
      · exact .inr ⟨x, List.mem_cons_of_mem _ hx, hk⟩
    · rintro (h | ⟨x, hx, hk⟩)
      · exact .inl (.inl h)
      · rcases List.mem_cons.mp hx with rfl | hx
        · by_cases q : k ∈ both
          · exact .inl (.inl q)
          · exact .inl (.inr ⟨hk, by rw [decide_eq_false q]; rfl⟩)
        · exact .inr ⟨x, hx, hk⟩
def hereL (gs : List (List Key)) (a b : Key) : List (List Key) := gs.filter fun g => decide (a ∈ g) || decide (b ∈ g)
def restL (gs : List (List Key)) (a b : Key) : List (List Key) := gs.filter fun g => !decide (g ∈ hereL gs a b)
def joinG (gs : List (List Key)) (a b : Key) : List (List Key) := restL gs a b ++ [bothL (hereL gs a b) [a, b]]
theorem mem_here {gs : List (List Key)} {a b : Key} {g : List Key} : g ∈ hereL gs a b ↔ g ∈ gs ∧ (a ∈ g ∨ b ∈ g) := by
  unfold hereL
  rw [List.mem_filter, Bool.or_eq_true, decide_eq_true_iff, decide_eq_true_iff]
theorem mem_rest {gs : List (List Key)} {a b : Key} {g : List Key} : g ∈ restL gs a b ↔ g ∈ gs ∧ a ∉ g ∧ b ∉ g := by
  unfold restL
  rw [List.mem_filter, Bool.not_eq_true', decide_eq_false_iff_not, mem_here]
  constructor
  · rintro ⟨h, n⟩
    exact ⟨h, fun q => n ⟨h, .inl q⟩, fun q => n ⟨h, .inr q⟩⟩
  · rintro ⟨h, na, nb⟩
    exact ⟨h, fun ⟨_, q⟩ => q.elim na nb⟩
structure GI (gs : List (List Key)) (ps : List (Key × Key)) : Prop where
  eqv : ∀ g ∈ gs, ∀ k ∈ g, ∀ l ∈ g, Eqv ps k l
  of : ∀ q ∈ ps, ∃ g ∈ gs, q.1 ∈ g ∧ q.2 ∈ g
  dis : ∀ g ∈ gs, ∀ h ∈ gs, ∀ k, k ∈ g → k ∈ h → ∀ l, l ∈ g → l ∈ h
theorem GI.nil : GI [] [] := ⟨(fun g hg => by cases hg), (fun q hq => by cases hq), (fun g hg => by cases hg)⟩
theorem GI.both {gs : List (List Key)} {ps : List (Key × Key)} (h : GI gs ps) {k l : Key} (e : Eqv ps k l) : k = l ∨ ∃ g ∈ gs, k ∈ g ∧ l ∈ g := by
  induction e with
  | refl k => exact .inl rfl
  | symm _ i =>
    rcases i with i | ⟨g, hg, a, b⟩
    · exact .inl i.symm
    · exact .inr ⟨g, hg, b, a⟩
  | trans _ _ i j =>
    rcases i with rfl | ⟨g, hg, a, b⟩
    · exact j
    · rcases j with rfl | ⟨g2, hg2, c, d⟩
      · exact .inr ⟨g, hg, a, b⟩
      · exact .inr ⟨g2, hg2, h.dis g hg g2 hg2 _ b c _ a, d⟩
  | of m => exact .inr (h.of _ m)
theorem GI.join {gs : List (List Key)} {ps : List (Key × Key)} (h : GI gs ps) (a b : Key) : GI (joinG gs a b) (ps ++ [(a, b)]) := by
  have up : ∀ {k l : Key}, Eqv ps k l → Eqv (ps ++ [(a, b)]) k l := fun e => e.mono fun q hq => List.mem_append_left _ hq
  have ab : Eqv (ps ++ [(a, b)]) a b := .of (q := (a, b)) (List.mem_append_right _ (List.mem_singleton.mpr rfl))
  have toA : ∀ k, k ∈ bothL (hereL gs a b) [a, b] → Eqv (ps ++ [(a, b)]) k a := fun k hk => by
    rcases mem_bothL.mp hk with hk | ⟨g, hg, hk⟩
    · rcases List.mem_cons.mp hk with rfl | hk
      · exact .refl _
      · rw [List.mem_singleton.mp hk]
        exact ab.symm
    · obtain ⟨hg, o⟩ := mem_here.mp hg
      rcases o with o | o
      · exact up (h.eqv g hg _ hk _ o)
      · exact (up (h.eqv g hg _ hk _ o)).trans ab.symm
  have off : ∀ g ∈ restL gs a b, ∀ k, k ∈ g → k ∉ bothL (hereL gs a b) [a, b] := fun g hg k hk hb => by
    obtain ⟨m, na, nb⟩ := mem_rest.mp hg
    rcases mem_bothL.mp hb with hb | ⟨x, hx, hb⟩
    · rcases List.mem_cons.mp hb with rfl | hb
      · exact na hk
      · rw [List.mem_singleton.mp hb] at hk
        exact nb hk
    · obtain ⟨hx, o⟩ := mem_here.mp hx
      rcases o with o | o
      · exact na (h.dis x hx g m k hb hk _ o)
      · exact nb (h.dis x hx g m k hb hk _ o)
  refine ⟨fun g hg => ?_, fun q hq => ?_, fun g hg g2 hg2 k hk hk2 l hl => ?_⟩
  · rcases List.mem_append.mp hg with hg | hg
    · exact fun k hk l hl => up (h.eqv g (mem_rest.mp hg).1 k hk l hl)
    · rw [List.mem_singleton.mp hg]
      exact fun k hk l hl => (toA k hk).trans (toA l hl).symm
  · rcases List.mem_append.mp hq with hq | hq
    · obtain ⟨g, hg, x, y⟩ := h.of q hq
      by_cases o : a ∈ g ∨ b ∈ g
      · have m : g ∈ hereL gs a b := mem_here.mpr ⟨hg, o⟩
        exact ⟨_, List.mem_append_right _ (List.mem_singleton.mpr rfl), mem_bothL.mpr (.inr ⟨g, m, x⟩), mem_bothL.mpr (.inr ⟨g, m, y⟩)⟩
      · exact ⟨g, List.mem_append_left _ (mem_rest.mpr ⟨hg, fun q => o (.inl q), fun q => o (.inr q)⟩), x, y⟩
    · rw [List.mem_singleton.mp hq]
      exact ⟨_, List.mem_append_right _ (List.mem_singleton.mpr rfl), mem_bothL.mpr (.inl (List.mem_cons_self ..)), mem_bothL.mpr (.inl (List.mem_cons_of_mem _ (List.mem_singleton.mpr rfl)))⟩
  · rcases List.mem_append.mp hg with hg | hg
    · rcases List.mem_append.mp hg2 with hg2 | hg2
      · exact h.dis g (mem_rest.mp hg).1 g2 (mem_rest.mp hg2).1 k hk hk2 l hl
      · rw [List.mem_singleton.mp hg2] at hk2
        exact absurd hk2 (off g hg k hk)
    · rw [List.mem_singleton.mp hg] at hk hl
      rcases List.mem_append.mp hg2 with hg2 | hg2
      · exact absurd hk (off g2 hg2 k hk2)
      · rw [List.mem_singleton.mp hg2]
        exact hl
def joinGs (gs : List (List Key)) (ps : List (Key × Key)) : List (List Key) := ps.foldl (fun gs q => joinG gs q.1 q.2) gs
theorem GI.all : ∀ {ps qs : List (Key × Key)} {gs : List (List Key)}, GI gs qs → GI (joinGs gs ps) (qs ++ ps)
  | [], qs, gs, h => by
    rw [List.append_nil]
    exact h
  | q :: ps, qs, gs, h => by
    have a := GI.all (ps := ps) (h.join q.1 q.2)
    rw [List.append_assoc] at a
    exact a
theorem joinGs_snoc (gs : List (List Key)) (ps : List (Key × Key)) (q : Key × Key) : joinGs gs (ps ++ [q]) = joinG (joinGs gs ps) q.1 q.2 := by
  unfold joinGs
  rw [List.foldl_append]
  rfl
/-- the signs of a group -/
def stK : Key → Option Str
  | .inr z => some z
  | .inl _ => none
def marksG (g : List Key) : List Str := g.filterMap stK
theorem mem_marks {g : List Key} {z : Str} : z ∈ marksG g ↔ Sum.inr z ∈ g := by
  unfold marksG
  rw [List.mem_filterMap]
  constructor
  · rintro ⟨k, hk, e⟩
    cases k with
    | inl i => cases e
    | inr y =>
      have e : some y = some z := e
      rw [← Option.some.inj e]
      exact hk
  · exact fun h => ⟨_, h, rfl⟩
theorem clash_iff {gs : List (List Key)} {ps : List (Key × Key)} (h : GI gs ps) : Clash ps ↔ ∃ g ∈ gs, ∃ y ∈ marksG g, ∃ z ∈ marksG g, y ≠ z := by
  constructor
  · rintro ⟨y, z, ne, e⟩
    rcases h.both e with q | ⟨g, hg, a, b⟩
    · exact absurd (Sum.inr.inj q) ne
    · exact ⟨g, hg, y, mem_marks.mpr a, z, mem_marks.mpr b, ne⟩
  · rintro ⟨g, hg, y, hy, z, hz, ne⟩
    exact ⟨y, z, ne, h.eqv g hg _ (mem_marks.mp hy) _ (mem_marks.mp hz)⟩
/-- the text that is written so far: the signs of the groups seen -/
structure FoundI (gs : List (List Key)) (n : Nat) (fs : List Str) : Prop where
  len : fs.length = n
  sg : ∀ p, p < n → ∀ g ∈ gs, Sum.inl (p : Int) ∈ g → ∀ z ∈ marksG g, fs[p]? = some z
  dt : ∀ p, p < n → (∀ g ∈ gs, Sum.inl (p : Int) ∈ g → marksG g = []) → fs[p]? = some (one 46)
theorem FoundI.text {gs : List (List Key)} {ps ms : List (Key × Key)} (h : GI gs ps) {n : Nat} {fs : List Str} (f : FoundI gs n fs) (e : joinL [] ps = some ms) (o : ∀ q ∈ ps, OneK q.1 ∧ OneK q.2) :
    fs = (txL ms 0 n).map one := by
  refine List.ext_getElem? fun p => ?_
  by_cases hp : p < n
  · rw [List.getElem?_map]
    unfold txL
    rw [List.getElem?_map, List.getElem?_range hp]
    show fs[p]? = some (one (sgK (lead ms (.inl ((0 + p : Nat) : Int)))))
    rw [Nat.zero_add]
    obtain ⟨j1, j2⟩ := join_sgn e (.inl (p : Int))
    by_cases q : ∃ z, Eqv ps (.inl (p : Int)) (.inr z)
    · obtain ⟨z, hz⟩ := q
      rw [j1 z hz]
      rcases h.both hz with q | ⟨g, hg, a, b⟩
      · cases q
      · rw [f.sg p hp g hg a z (mem_marks.mpr b)]
        have oz : OneK (.inr z) := by
          have m := join_one o (fun q hq => by cases hq) e
          have := lead_one (x := .inl (p : Int)) m (fun z e => by cases e)
          rw [j1 z hz] at this
          exact this
        obtain ⟨c, rfl, _⟩ := oz z rfl
        rfl
    · obtain ⟨i, hi⟩ := j2 fun z hz => q ⟨z, hz⟩
      rw [hi, f.dt p hp fun g hg a => ?_]
      · rfl
      · cases m : marksG g with
        | nil => rfl
        | cons z r => exact absurd ⟨z, h.eqv g hg _ a _ (mem_marks.mp (by rw [m]; exact List.mem_cons_self ..))⟩ q
  · rw [List.getElem?_eq_none (by rw [f.len]; omega), List.getElem?_eq_none (by rw [List.length_map, txL_len]; omega)]
end Gu
namespace Gu
open PySem PySem.Spec PyProof.Rows L2
/-! ### keys as the law writes them -/
def kTag (n : Nat) (i : Int) : Str := if i < n then "y" else "x"
def kNo (n : Nat) (i : Int) : Int := if i < n then i else i - n
def encD (n : Nat) : Key → PyData
  | .inr z => .str z
  | .inl i => .tuple [.str (kTag n i), .int (kNo n i)]
def encG (n : Nat) (g : List Key) : PyData := .list (g.map (encD n))
theorem k_same {n : Nat} {i j : Int} (h1 : kTag n i = kTag n j) (h2 : kNo n i = kNo n j) : i = j := by
  unfold kTag at h1
  unfold kNo at h2
  split at h1 <;> split at h1
  · rw [if_pos ‹_›, if_pos ‹_›] at h2
    exact h2
  · exact absurd h1 (by decide)
  · exact absurd h1 (by decide)
  · rw [if_neg ‹_›, if_neg ‹_›] at h2
    omega
theorem enc_eqv (n : Nat) (k l : Key) : PyData.eqv (encD n k) (encD n l) = decide (k = l) := by
  cases k with
  | inr y =>
    cases l with
    | inr z =>
      show (y == z) = _
      by_cases e : y = z
      · rw [e, decide_eq_true rfl, beq_self_eq_true]
      · rw [decide_eq_false (fun q => e (Sum.inr.inj q)), beq_eq_false_iff_ne.mpr e]
    | inl j => rfl
  | inl i =>
    cases l with
    | inr z => rfl
    | inl j =>
      have e : PyData.eqv (encD n (.inl i)) (encD n (.inl j)) = ((kTag n i == kTag n j) && ((kNo n i == kNo n j) && true)) := by simp only [encD, PyData.eqv, PyData.eqvAll]
      rw [e]
      by_cases h : i = j
      · rw [h, beq_self_eq_true, beq_self_eq_true, decide_eq_true rfl]
        rfl
      · rw [decide_eq_false (fun q => h (Sum.inl.inj q))]
        by_cases h1 : kTag n i = kTag n j
        · rw [beq_eq_false_iff_ne.mpr (fun h2 => h (k_same h1 h2)), Bool.false_and, Bool.and_false]
        · rw [beq_eq_false_iff_ne.mpr h1, Bool.false_and]
theorem encA_eqv (n : Nat) : ∀ (g h : List Key), PyData.eqvAll (g.map (encD n)) (h.map (encD n)) = decide (g = h)
  | [], [] => by simp only [List.map_nil, PyData.eqvAll]; exact (decide_eq_true (p := ([] : List Key) = []) rfl).symm
  | [], l :: h => by
    rw [decide_eq_false (by intro q; cases q)]
    simp only [List.map_nil, List.map_cons, PyData.eqvAll]
  | k :: g, [] => by
    rw [decide_eq_false (by intro q; cases q)]
    simp only [List.map_nil, List.map_cons, PyData.eqvAll]
  | k :: g, l :: h => by
    have i := encA_eqv n g h
    simp only [List.map_cons, PyData.eqvAll]
    rw [i, enc_eqv]
    by_cases a : k = l
    · by_cases b : g = h
      · rw [a, b, decide_eq_true rfl, decide_eq_true rfl, decide_eq_true rfl]
        rfl
      · rw [decide_eq_false b, Bool.and_false, decide_eq_false (fun q => b (List.cons.inj q).2)]
    · rw [decide_eq_false a, Bool.false_and, decide_eq_false (fun q => a (List.cons.inj q).1)]
theorem encG_eqv (n : Nat) (g h : List Key) : PyData.eqv (encG n g) (encG n h) = decide (g = h) := by
  have := encA_eqv n g h
  simp only [encG, PyData.eqv]
  exact this
theorem any_map {α : Type} [DecidableEq α] {e : α → PyData} (he : ∀ k l, PyData.eqv (e k) (e l) = decide (k = l)) (k : α) (g : List α) [d : Decidable (k ∈ g)] : ((g.map e).any fun z => PyData.eqv z (e k)) = decide (k ∈ g) := by
  rw [List.any_map]
  have a : (g.any ((fun z => PyData.eqv z (e k)) ∘ e)) = g.any fun x => decide (x = k) := by
    refine congrArg (fun f => g.any f) (funext fun x => ?_)
    exact he x k
  rw [a]
  by_cases q : k ∈ g
  · rw [decide_eq_true q, any_mem.mpr q]
  · rw [decide_eq_false q, Bool.eq_false_iff]
    exact fun z => q (any_mem.mp z)
theorem enc_lay {n : Nat} {k : Key} (o : OneK k) : (encD n k).canLay0 = true := by
  cases k with
  | inr z =>
    obtain ⟨c, rfl, hc⟩ := o z rfl
    exact signs_ok (y := one c) fun x hx => by
      rw [List.mem_singleton.mp (show x ∈ [c] from hx)]
      exact hc
  | inl i =>
    have e : (encD n (.inl i)).canLay0 = ((PyData.str (kTag n i)).canLay0 && (true && true)) := by simp only [encD, PyData.canLay0, PyData.canLayAll0]
    rw [e]
    have a : (PyData.str (kTag n i)).canLay0 = true := signs_ok (by
      unfold kTag
      have a1 : Signs ("y" : Str).cps.toList := by unfold Signs; decide +kernel
      have a2 : Signs ("x" : Str).cps.toList := by unfold Signs; decide +kernel
      split
      · exact a1
      · exact a2)
    rw [a]
    rfl
theorem enc_depth (n : Nat) (k : Key) : (encD n k).depth ≤ 1 := by
  cases k with
  | inr z => simp [encD, PyData.depth]
  | inl i => simp [encD, PyData.depth, PyData.depthAll]
theorem encs_lay {n : Nat} : ∀ {g : List Key}, (∀ k ∈ g, OneK k) → PyData.canLayAll0 (g.map (encD n)) = true ∧ PyData.depthAll (g.map (encD n)) ≤ 1
  | [], _ => ⟨by simp [PyData.canLayAll0], by simp [PyData.depthAll]⟩
  | k :: g, h => by
    obtain ⟨a, b⟩ := encs_lay (n := n) fun l hl => h l (List.mem_cons_of_mem _ hl)
    have c := enc_lay (n := n) (h k (List.mem_cons_self ..))
    have d := enc_depth n k
    refine ⟨by simp only [List.map_cons, PyData.canLayAll0, a, c, Bool.and_self], ?_⟩
    simp only [List.map_cons, PyData.depthAll]
    omega
theorem encG_lay {n : Nat} {g : List Key} (h : ∀ k ∈ g, OneK k) : (encG n g).canLay0 = true ∧ (encG n g).depth ≤ 2 := by
  obtain ⟨a, b⟩ := encs_lay (n := n) h
  refine ⟨by simp only [encG, PyData.canLay0, a], ?_⟩
  simp only [encG, PyData.depth]
  omega
theorem encGs_lay {n : Nat} : ∀ {gs : List (List Key)}, (∀ g ∈ gs, ∀ k ∈ g, OneK k) → PyData.canLayAll0 (gs.map (encG n)) = true ∧ PyData.depthAll (gs.map (encG n)) ≤ 2
  | [], _ => ⟨by simp [PyData.canLayAll0], by simp [PyData.depthAll]⟩
  | g :: gs, h => by
    obtain ⟨a, b⟩ := encGs_lay (n := n) fun l hl => h l (List.mem_cons_of_mem _ hl)
    obtain ⟨c, d⟩ := encG_lay (n := n) (h g (List.mem_cons_self ..))
    refine ⟨by simp only [List.map_cons, PyData.canLayAll0, a, c, Bool.and_self], ?_⟩
    simp only [List.map_cons, PyData.depthAll]
    omega
theorem shaped_k {n : Nat} {k : Key} (o : OneK k) : SeqAt.shaped (encD n k) = true := by
  have := enc_depth n k
  show ((encD n k).canLay0 && decide ((encD n k).depth ≤ 64)) = true
  rw [enc_lay o, decide_eq_true (by omega)]
  rfl
theorem shaped_g {n : Nat} {g : List Key} (h : ∀ k ∈ g, OneK k) : SeqAt.shaped (encG n g) = true := by
  obtain ⟨a, b⟩ := encG_lay (n := n) h
  show ((encG n g).canLay0 && decide ((encG n g).depth ≤ 64)) = true
  rw [a, decide_eq_true (by omega)]
  rfl
theorem shaped_gs {n : Nat} {gs : List (List Key)} (h : ∀ g ∈ gs, ∀ k ∈ g, OneK k) : SeqAt.shaped (.list (gs.map (encG n))) = true := by
  obtain ⟨a, b⟩ := encGs_lay (n := n) h
  show ((PyData.list (gs.map (encG n))).canLay0 && decide ((PyData.list (gs.map (encG n))).depth ≤ 64)) = true
  have c : (PyData.list (gs.map (encG n))).depth ≤ 3 := by
    simp only [PyData.depth]
    omega
  have d : (PyData.list (gs.map (encG n))).canLay0 = true := by simp only [PyData.canLay0, a]
  rw [d, decide_eq_true (by omega)]
  rfl
/-! ### groups in the heap -/
def KyAt (H : Hp) (n : Nat) (k : Key) (v : V) : Prop := match k with
  | .inr z => v = .str z
  | .inl i => ∃ t, v = .ref t ∧ H t = some (.tup [.str (kTag n i), .int (kNo n i)])
theorem KyAt.keep {H G : Hp} {n : Nat} {k : Key} {v : V} (s : ∀ a xs, H a = some (.tup xs) → G a = some (.tup xs)) (h : KyAt H n k v) : KyAt G n k v := by
  cases k with
  | inr z => exact h
  | inl i =>
    obtain ⟨t, e, ht⟩ := h
    exact ⟨t, e, s _ _ ht⟩
theorem KyAt.same {H G : Hp} {n : Nat} {k : Key} {v : V} (s : Same H G) (h : KyAt H n k v) : KyAt G n k v := h.keep fun _ _ e => s _ _ e
theorem KyAt.dp {K : PySem.W.Frag} {H : Hp} {n : Nat} {k : Key} {v : V} (h : KyAt H n k v) : Dp K H v (encD n k) := by
  cases k with
  | inr z =>
    rw [show v = .str z from h]
    exact .str z
  | inl i =>
    obtain ⟨t, rfl, ht⟩ := h
    exact .tup (.inl (.inl ht)) (.cons (.str _) (.cons (.int _) .nil))
structure GrpAt (H : Hp) (n : Nat) (a : Addr) (qs : List (Key × V)) : Prop where
  at_ : H a = some (.lst (qs.map (·.2)))
  ky : ∀ q ∈ qs, KyAt H n q.1 q.2
theorem GrpAt.same {H G : Hp} {n : Nat} {a : Addr} {qs : List (Key × V)} (s : Same H G) (h : GrpAt H n a qs) : GrpAt G n a qs := ⟨s _ _ h.at_, fun q hq => (h.ky q hq).same s⟩
def kk (qs : List (Key × V)) : List Key := qs.map (·.1)
theorem kys_dp {K : PySem.W.Frag} {H : Hp} {n : Nat} : ∀ {qs : List (Key × V)}, (∀ q ∈ qs, KyAt H n q.1 q.2) → DpAll K H (qs.map (·.2)) ((kk qs).map (encD n))
  | [], _ => .nil
  | q :: qs, h => .cons (h q (List.mem_cons_self ..)).dp (kys_dp fun r hr => h r (List.mem_cons_of_mem _ hr))
theorem GrpAt.dp {K : PySem.W.Frag} {H : Hp} {n : Nat} {a : Addr} {qs : List (Key × V)} (h : GrpAt H n a qs) : Dp K H (.ref a) (encG n (kk qs)) := .lst (.inl (.inl h.at_)) (kys_dp h.ky)
abbrev Grp := Addr × List (Key × V)
structure GsAt (H : Hp) (n : Nat) (S : Addr) (gs : List Grp) : Prop where
  at_ : H S = some (.lst (gs.map fun g => V.ref g.1))
  gr : ∀ g ∈ gs, GrpAt H n g.1 g.2
theorem GsAt.same {H G : Hp} {n : Nat} {a : Addr} {qs : List Grp} (s : Same H G) (h : GsAt H n a qs) : GsAt G n a qs := ⟨s _ _ h.at_, fun q hq => (h.gr q hq).same s⟩
def kks (gs : List Grp) : List (List Key) := gs.map fun g => kk g.2
theorem grs_dp {K : PySem.W.Frag} {H : Hp} {n : Nat} : ∀ {gs : List Grp}, (∀ g ∈ gs, GrpAt H n g.1 g.2) → DpAll K H (gs.map fun g => V.ref g.1) ((kks gs).map (encG n))
  | [], _ => .nil
  | q :: qs, h => .cons (h q (List.mem_cons_self ..)).dp (grs_dp fun r hr => h r (List.mem_cons_of_mem _ hr))
theorem GsAt.dp {K : PySem.W.Frag} {H : Hp} {n : Nat} {a : Addr} {gs : List Grp} (h : GsAt H n a gs) : Dp K H (.ref a) (.list ((kks gs).map (encG n))) := .lst (.inl (.inl h.at_)) (grs_dp h.gr)
def tot (gs : List (List Key)) : Nat := (gs.map List.length).sum
theorem tot_nil : tot [] = 0 := rfl
theorem tot_cons (g : List Key) (gs : List (List Key)) : tot (g :: gs) = g.length + tot gs := by
  unfold tot
  rw [List.map_cons, List.sum_cons]
theorem tot_app (gs hs : List (List Key)) : tot (gs ++ hs) = tot gs + tot hs := by
  unfold tot
  rw [List.map_append, List.sum_append]
theorem tot_mem {gs : List (List Key)} {g : List Key} (h : g ∈ gs) : g.length ≤ tot gs := by
  induction gs with
  | nil => cases h
  | cons x gs ih =>
    rw [tot_cons]
    rcases List.mem_cons.mp h with rfl | h
    · omega
    · have := ih h
      omega
theorem tot_two (p : List Key → Bool) : ∀ gs : List (List Key), tot (gs.filter p) + tot (gs.filter fun g => !p g) = tot gs
  | [] => rfl
  | g :: gs => by
    have i := tot_two p gs
    rw [List.filter_cons, List.filter_cons, tot_cons]
    cases p g with
    | true =>
      show tot (g :: gs.filter p) + tot (gs.filter fun g => !p g) = _
      rw [tot_cons]
      omega
    | false =>
      show tot (gs.filter p) + tot (g :: gs.filter fun g => !p g) = _
      rw [tot_cons]
      omega
theorem rest_eq (gs : List (List Key)) (a b : Key) : restL gs a b = gs.filter fun g => !(decide (a ∈ g) || decide (b ∈ g)) := by
  unfold restL
  refine List.filter_congr fun g hg => ?_
  congr 1
  by_cases o : a ∈ g ∨ b ∈ g
  · rw [decide_eq_true (mem_here.mpr ⟨hg, o⟩)]
    rcases o with o | o
    · rw [decide_eq_true o, Bool.true_or]
    · rw [decide_eq_true o, Bool.or_true]
  · rw [decide_eq_false (fun q => o (mem_here.mp q).2), decide_eq_false (fun q => o (.inl q)), decide_eq_false (fun q => o (.inr q))]
    rfl
theorem both_len : ∀ (gs : List (List Key)) (both : List Key), (bothL gs both).length ≤ both.length + tot gs
  | [], both => Nat.le_refl _
  | g :: gs, both => by
    have i := both_len gs (both ++ g.filter fun k => !decide (k ∈ both))
    rw [List.length_append] at i
    have l := List.length_filter_le (fun k => !decide (k ∈ both)) g
    rw [tot_cons]
    show (bothL gs (both ++ g.filter fun k => !decide (k ∈ both))).length ≤ _
    omega
theorem join_tot (gs : List (List Key)) (a b : Key) : tot (joinG gs a b) ≤ tot gs + 2 ∧ (joinG gs a b).length ≤ gs.length + 1 := by
  have t := tot_two (fun g => decide (a ∈ g) || decide (b ∈ g)) gs
  have l := both_len (hereL gs a b) [a, b]
  have f := List.length_filter_le (fun g => !decide (g ∈ hereL gs a b)) gs
  unfold joinG
  rw [tot_app, tot_cons, tot_nil, rest_eq, List.length_append]
  refine ⟨?_, ?_⟩
  · have l : (bothL (hereL gs a b) [a, b]).length ≤ 2 + tot (gs.filter fun g => decide (a ∈ g) || decide (b ∈ g)) := l
    omega
  · rw [← rest_eq]
    have f : (restL gs a b).length ≤ gs.length := f
    show (restL gs a b).length + 1 ≤ _
    omega
end Gu
namespace Gu
open PySem PySem.Spec PyProof.Rows L2
/-! ### _law_joined -/
section
variable {P : Program} {w : World} {K : PySem.W.Frag} {mg : Str → Option Value} {base : Heap}
theorem op_notInDK {X : Cx} {K : PySem.W.Frag} (hK : X.K = K) (hu : X.A.units + 65 < cLine) : OpR X (compareOp .NotIn) (rNotInD K) := by
  subst hK
  exact op_notInD hu
theorem op_inDK {X : Cx} {K : PySem.W.Frag} (hK : X.K = K) (hu : X.A.units + 65 < cLine) : OpR X (compareOp .In) (rInD K) := by
  subst hK
  exact op_inD hu
theorem flt_snoc {α : Type} (p : α → Bool) (xs : List α) {i : Nat} {x : α} (h : xs[i]? = some x) : (xs.take (i + 1)).filter p = (xs.take i).filter p ++ if p x = true then [x] else [] := by
  rw [List.take_add_one, h, List.filter_append]
  show _ ++ List.filter p [x] = _
  rw [List.filter_cons, List.filter_nil]
theorem kks_flt (q : List Key → Bool) (gs : List Grp) : kks (gs.filter fun g => q (kk g.2)) = (kks gs).filter q := by
  unfold kks
  rw [List.filter_map]
  rfl
theorem kk_flt (q : Key → Bool) (qs : List (Key × V)) : kk (qs.filter fun g => q g.1) = (kk qs).filter q := by
  unfold kk
  rw [List.filter_map]
  rfl
theorem both_snoc {gs : List (List Key)} {i : Nat} {g : List Key} (h : gs[i]? = some g) (both : List Key) : bothL (gs.take (i + 1)) both = bothL (gs.take i) both ++ g.filter fun k => !decide (k ∈ bothL (gs.take i) both) := by
  unfold bothL
  rw [List.take_add_one, h, List.foldl_append]
  rfl
theorem tot_take (gs : List (List Key)) (i : Nat) : tot (gs.take i) ≤ tot gs := by
  have := tot_app (gs.take i) (gs.drop i)
  rw [List.take_append_drop] at this
  omega
theorem sz17 {n : Nat} (h : n ≤ 100000) : n < sizeLine := by
  rw [sizeLine_eq]
  omega
/-- what is in a group of the heap -/
theorem in_grp {K : PySem.W.Frag} {H : Hp} {n : Nat} {A : Addr} {qs : List (Key × V)} {k : Key} {v : V} {Q : VK} (hk : KyAt H n k v) (hg : GrpAt H n A qs) (o : OneK k) (os : ∀ l ∈ kk qs, OneK l) (q : Q (.bl (decide (k ∈ kk qs))) H) : rInD K v (.ref A) H Q :=
  ⟨encD n k, (kk qs).map (encD n), hk.dp, hg.dp, shaped_k o, shaped_g os, by rw [any_map (enc_eqv n)]; exact q⟩
theorem notin_grp {K : PySem.W.Frag} {H : Hp} {n : Nat} {A : Addr} {qs : List (Key × V)} {k : Key} {v : V} {Q : VK} (hk : KyAt H n k v) (hg : GrpAt H n A qs) (o : OneK k) (os : ∀ l ∈ kk qs, OneK l) (q : Q (.bl (!decide (k ∈ kk qs))) H) : rNotInD K v (.ref A) H Q :=
  ⟨encD n k, (kk qs).map (encD n), hk.dp, hg.dp, shaped_k o, shaped_g os, by rw [any_map (enc_eqv n)]; exact q⟩
theorem notin_grps {K : PySem.W.Frag} {H : Hp} {n : Nat} {A S : Addr} {qs : List (Key × V)} {gs : List Grp} {Q : VK} (hg : GrpAt H n A qs) (hs : GsAt H n S gs) (o : ∀ l ∈ kk qs, OneK l) (os : ∀ g ∈ kks gs, ∀ l ∈ g, OneK l) (q : Q (.bl (!decide (kk qs ∈ kks gs))) H) : rNotInD K (.ref A) (.ref S) H Q :=
  ⟨encG n (kk qs), (kks gs).map (encG n), hg.dp, hs.dp, shaped_g o, shaped_gs os, by rw [any_map (encG_eqv n)]; exact q⟩
theorem flt_yes {α : Type} {f : α → V} {p : α → Bool} {xs : List α} {i : Nat} {x : α} (h : xs[i]? = some x) {H J : Hp} {M : Addr} (eM : J M = some (.lst (((xs.take i).filter p).map f))) (s : Same H J) (nM : H M = none) (l : xs.length ≤ 100000) (q : p x = true) :
    ∃ acc, J M = some (.lst acc) ∧ acc.length < sizeLine ∧ upd J M (.lst (acc ++ [f x])) M = some (.lst (((xs.take (i + 1)).filter p).map f)) ∧ Same H (upd J M (.lst (acc ++ [f x]))) := by
  refine ⟨_, eM, sz17 ?_, ?_, offT s nM⟩
  · rw [List.length_map]
    have a := List.length_filter_le p (xs.take i)
    have b := List.length_take_le' i xs
    omega
  · rw [upd_same, flt_snoc p xs h, if_pos q, List.map_append]
    rfl
theorem flt_no {α : Type} {f : α → V} {p : α → Bool} {xs : List α} {i : Nat} {x : α} (h : xs[i]? = some x) {H J : Hp} {M : Addr} (eM : J M = some (.lst (((xs.take i).filter p).map f))) (s : Same H J) (q : ¬ p x = true) :
    J M = some (.lst (((xs.take (i + 1)).filter p).map f)) ∧ Same H J := by
  refine ⟨?_, s⟩
  rw [flt_snoc p xs h, if_neg q, List.append_nil]
  exact eM
def spJoinG : Sp := fun vs H Q _ => ∃ (n : Nat) (S : Addr) (gs : List Grp) (a b : Key) (va vb : V), vs = [.ref S, va, vb] ∧ GsAt H n S gs ∧ KyAt H n a va ∧ KyAt H n b vb ∧ gs.length ≤ 1000 ∧ tot (kks gs) ≤ 2000 ∧
  (∀ g ∈ kks gs, ∀ k ∈ g, OneK k) ∧ OneK a ∧ OneK b ∧ ∀ (U : Addr) (G : Hp) (gs' : List Grp), Same H G → GsAt G n U gs' → kks gs' = joinG (kks gs) a b → Q (.ref U) G
set_option maxHeartbeats 2000000 in
theorem cal_joinG (B : Bi mg) (D : At K mg "_law_joined" s_law_joined ps_law_joined) : Cal P w K mg base 1 "_law_joined" ps_law_joined spJoinG := by
  refine D.cal sc_law_joined (fun vs H Q E h => ?_) (fun f cdv A outer s H vs Q E hr h => ?_)
  · obtain ⟨_, _, _, _, _, _, _, rfl, _⟩ := h
    rfl
  · obtain ⟨n, S, gs, a, b, va, vb, rfl, hS, ha, hb, l1, l2, o1, oa, ob, k⟩ := h
    have hu65 : A.units + 3 + 65 < cLine := by
      have := hr.un
      have e : (A.deeper (envOfC "_law_joined" (defScope s_law_joined) s.heap.objs.size f cdv)).units = A.units + 3 := rfl
      omega
    refine ⟨_, (pss_cons (ps_set (i := 3) sc_law_joined.nd rfl (.inr rfl) (pe_lc (own := [("_law_group", 6)]) (by rfl) sc_law_joined.nd (pi_list (pv 0)) (blkOk_by (own := [("_law_group", 6)]) (N := ["_law_sets_here", "_law_one", "_law_two", "_law_here", "_law_rest", "_law_both", "_law_group", "_law_key"]) (sc := defScope s_law_joined) (by decide +kernel)) (fun _ _ _ _ _ => pg_name (i := 6) sc_law_joined.nd rfl (.inl rfl)) (fun _ _ _ _ _ => (pts_one (PW.pt (pw_or (pt_cmpR (op_inDK (K := K) rfl hu65) (pv 1) (pv 6) (by rfl)) (pw_or1 (pt_cmpR (op_inDK (K := K) rfl hu65) (pv 2) (pv 6) (by rfl))))))) (fun _ _ _ _ _ => (pv 6))))
      (pss_cons (ps_setLc (i := 4) (own := [("_law_group", 6)]) (by rfl) sc_law_joined.nd rfl rfl (sw_true rfl rfl rfl (by decide +kernel)) (pi_list (pv 0)) (blkOk_by (own := [("_law_group", 6)]) (N := ["_law_sets_here", "_law_one", "_law_two", "_law_here", "_law_rest", "_law_both", "_law_group", "_law_key"]) (sc := defScope s_law_joined) (by decide +kernel)) (fun _ _ _ _ _ => pg_name (i := 6) sc_law_joined.nd rfl (.inl rfl)) (fun _ _ _ _ _ => (pts_one (pt_cmpR (op_notInDK (K := K) rfl hu65) (pv 6) (pv 3) (by rfl)))) (fun _ _ _ _ _ => (pv 6)))
      (pss_cons (ps_set (i := 5) sc_law_joined.nd rfl (.inr rfl) (pe_lst (pa_cons (pv 1) (pa_cons (pv 2) pa_nil))))
      (pss_cons (ps_for PassesOwn.never rfl (pi_list (pv 3)) (pg_name (i := 6) sc_law_joined.nd rfl (.inl rfl))
      (pss_one (ps_set (i := 5) sc_law_joined.nd rfl (.inr rfl) (pe_op op_cat (pv 5) (pe_lc (own := [("_law_key", 7)]) (by rfl) sc_law_joined.nd (pi_list (pv 6)) (blkOk_by (own := [("_law_key", 7)]) (N := ["_law_sets_here", "_law_one", "_law_two", "_law_here", "_law_rest", "_law_both", "_law_group", "_law_key"]) (sc := defScope s_law_joined) (by decide +kernel)) (fun _ _ _ _ _ => pg_name (i := 7) sc_law_joined.nd rfl (.inl rfl)) (fun _ _ _ _ _ => (pts_one (pt_cmpR (op_notInDK (K := K) rfl hu65) (pv 7) (pv 5) (by rfl)))) (fun _ _ _ _ _ => (pv 7)))))))
      (pss_one (ps_ret (pe_op op_cat (pv 4) (pe_lst (pa_cons (pv 5) pa_nil))))))))), ?_⟩
    have refs : ∀ {gs : List Grp} {i : Nat} {v : V}, (gs.map fun g => V.ref g.1)[i]? = some v → ∃ g, gs[i]? = some g ∧ v = .ref g.1 := fun {gs i v} h => by
      rw [List.getElem?_map] at h
      cases hg : gs[i]? with
      | none =>
        rw [hg] at h
        cases h
      | some g =>
        rw [hg] at h
        exact ⟨g, rfl, (Option.some.inj h).symm⟩
    have og : ∀ g ∈ gs, ∀ l ∈ kk g.2, OneK l := fun g hg => o1 _ (List.mem_map.mpr ⟨g, hg, rfl⟩)
    refine ⟨_, rfl, S, rfl, ⟨_, .inl (.inl hS.at_)⟩, fun M nM => lc_list (K := K) (a := S) (xs := gs.map fun g => V.ref g.1) (fun i J => J M = some (.lst (((gs.take i).filter fun g => decide (a ∈ kk g.2) || decide (b ∈ kk g.2)).map fun g => V.ref g.1)) ∧ Same H J)
      ⟨upd_same, same_new nM⟩ (fun i J _ ⟨_, sJ⟩ => .inl (.inl (sJ _ _ hS.at_))) ?_ ?_⟩
    · rintro i v J hi ⟨eM, sJ⟩
      obtain ⟨g, hg, rfl⟩ := refs hi
      have mg := List.mem_of_getElem? hg
      have gG := (hS.gr g mg).same sJ
      refine ⟨rfl, _, rfl, _, rfl, in_grp (ha.same sJ) gG oa (og g mg) ⟨_, rfl, ite2 (fun q => iteT ⟨_, rfl, flt_yes hg eM sJ nM (by omega) ?_⟩) (fun q => ?_)⟩⟩
      · rw [q, Bool.true_or]
      refine ⟨_, rfl, _, rfl, in_grp (hb.same sJ) gG ob (og g mg) ⟨_, rfl, ite2 (fun q2 => ⟨_, rfl, flt_yes hg eM sJ nM (by omega) ?_⟩) (fun q2 => flt_no hg eM sJ ?_)⟩⟩
      · rw [q2, Bool.or_true]
      · rw [Bool.or_eq_true]
        exact fun z => z.elim q q2
    · rintro J ⟨eM, sJ⟩
      have tk : (gs.map fun g => V.ref g.1).length = gs.length := List.length_map ..
      rw [tk, List.take_length] at eM
      obtain ⟨hs, ehs⟩ : ∃ hs : List Grp, hs = gs.filter fun g => decide (a ∈ kk g.2) || decide (b ∈ kk g.2) := ⟨_, rfl⟩
      rw [← ehs] at eM
      have kh : kks hs = hereL (kks gs) a b := by
        rw [ehs]
        exact kks_flt (fun g => decide (a ∈ g) || decide (b ∈ g)) gs
      have mh : ∀ g ∈ hs, g ∈ gs := fun g hg => by
        rw [ehs] at hg
        exact (List.mem_filter.mp hg).1
      have lh : hs.length ≤ 1000 := by
        rw [ehs]
        have := List.length_filter_le (fun g : Grp => decide (a ∈ kk g.2) || decide (b ∈ kk g.2)) gs
        omega
      have th : tot (kks hs) ≤ 2000 := by
        have := tot_two (fun g => decide (a ∈ g) || decide (b ∈ g)) (kks gs)
        rw [kh]
        unfold hereL
        omega
      have hH : GsAt J n M hs := ⟨eM, fun g hg => (hS.gr g (mh g hg)).same sJ⟩
      have oh : ∀ g ∈ kks hs, ∀ k ∈ g, OneK k := fun g hg => by
        obtain ⟨x, hx, rfl⟩ := List.mem_map.mp hg
        exact og x (mh x hx)
      have hS := hS.same sJ
      have ha := ha.same sJ
      have hb := hb.same sJ
      refine ⟨_, rfl, S, rfl, ⟨_, .inl (.inl hS.at_)⟩, fun R nR => lc_list (K := K) (a := S) (xs := gs.map fun g => V.ref g.1) (fun i J2 => J2 R = some (.lst (((gs.take i).filter fun g => !decide (kk g.2 ∈ kks hs)).map fun g => V.ref g.1)) ∧ Same J J2)
        ⟨upd_same, same_new nR⟩ (fun i J2 _ ⟨_, sJ2⟩ => .inl (.inl (sJ2 _ _ hS.at_))) ?_ ?_⟩
      · rintro i v J2 hi ⟨eR, sJ2⟩
        obtain ⟨g, hg, rfl⟩ := refs hi
        have mg := List.mem_of_getElem? hg
        exact ⟨rfl, _, rfl, _, rfl, notin_grps ((hS.gr g mg).same sJ2) (hH.same sJ2) (og g mg) oh ⟨_, rfl, ite2 (fun q2 => ⟨_, rfl, flt_yes hg eR sJ2 nR (by omega) q2⟩) (fun q2 => flt_no hg eR sJ2 q2)⟩⟩
      rintro J2 ⟨eR, sJ2⟩
      rw [tk, List.take_length] at eR
      obtain ⟨rs, ers⟩ : ∃ rs : List Grp, rs = gs.filter fun g => !decide (kk g.2 ∈ kks hs) := ⟨_, rfl⟩
      rw [← ers] at eR
      have kr : kks rs = restL (kks gs) a b := by
        rw [ers, kh]
        exact kks_flt (fun g => !decide (g ∈ hereL (kks gs) a b)) gs
      have lr : rs.length ≤ 1000 := by
        rw [ers]
        have := List.length_filter_le (fun g : Grp => !decide (kk g.2 ∈ kks hs)) gs
        omega
      have mr : ∀ g ∈ rs, g ∈ gs := fun g hg => by
        rw [ers] at hg
        exact (List.mem_filter.mp hg).1
      clear ehs ers
      have hH := hH.same sJ2
      have ha := ha.same sJ2
      have hb := hb.same sJ2
      have gS : ∀ g ∈ gs, GrpAt J2 n g.1 g.2 := fun g hg => (hS.gr g hg).same sJ2
      have sH2 := sJ.trans sJ2
      clear hS
      refine ⟨_, rfl, _, rfl, by show 2 ≤ sizeLine; decide, fun U0 nU0 => ?_⟩
      have s3 : Same J2 (upd J2 U0 (.lst [va, vb])) := same_new nU0
      have e3 : upd J2 U0 (.lst [va, vb]) U0 = some (.lst [va, vb]) := upd_same
      generalize upd J2 U0 (.lst [va, vb]) = J3 at s3 e3
      have o2 : ∀ k ∈ [a, b], OneK k := fun k hk => by
        rcases List.mem_cons.mp hk with rfl | hk
        · exact oa
        · rw [List.mem_singleton.mp hk]
          exact ob
      have gU0 : GrpAt J3 n U0 [(a, va), (b, vb)] := ⟨e3, fun q hq => by
        rcases List.mem_cons.mp hq with rfl | hq
        · exact ha.same s3
        · rw [List.mem_singleton.mp hq]
          exact hb.same s3⟩
      refine ⟨_, rfl, M, rfl, ⟨_, .inl (.inl (s3 _ _ hH.at_))⟩, for_list (K := K) (a := M) (xs := hs.map fun g => V.ref g.1) (fun i σ J4 => ∃ (U : Addr) (qs : List (Key × V)) (o6 o7 : Option V), σ = [some (.ref S), some va, some vb, some (.ref M), some (.ref R), some (.ref U), o6, o7] ∧ Same J3 J4 ∧ GrpAt J4 n U qs ∧ kk qs = bothL ((kks hs).take i) [a, b])
        ⟨U0, [(a, va), (b, vb)], none, none, rfl, Same.refl _, gU0, rfl⟩ (fun i σ J4 _ ⟨_, _, _, _, _, sJ4, _⟩ => .inl (.inl (sJ4 _ _ (s3 _ _ hH.at_)))) ?_ ?_⟩
      · rintro i v σ J4 hi ⟨U, qs, o6, o7, rfl, sJ4, gU, kU⟩
        obtain ⟨g, hg, rfl⟩ := refs hi
        have mg := List.mem_of_getElem? hg
        have gG := (gS g (mh g mg)).same (s3.trans sJ4)
        have kg : (kks hs)[i]? = some (kk g.2) := by
          unfold kks
          rw [List.getElem?_map, hg]
          rfl
        have lg := tot_mem (List.mem_of_getElem? kg)
        have l5 : (kk g.2).length = g.2.length := List.length_map ..
        have l6 : (kk qs).length = qs.length := List.length_map ..
        have l7 := both_len ((kks hs).take i) [a, b]
        have l8 := tot_take (kks hs) i
        have l9 : ([a, b] : List Key).length = 2 := rfl
        rw [← kU] at l7
        have oU : ∀ k ∈ kk qs, OneK k := fun k hk => by
          rw [kU] at hk
          rcases mem_bothL.mp hk with hk | ⟨x, hx, hk⟩
          · exact o2 k hk
          · exact oh x (List.mem_of_mem_take hx) k hk
        refine ⟨_, rfl, _, rfl, g.1, rfl, ⟨_, .inl (.inl gG.at_)⟩, fun N nN => lc_list (K := K) (a := g.1) (xs := g.2.map (·.2)) (fun j J5 => J5 N = some (.lst (((g.2.take j).filter fun q => !decide (q.1 ∈ kk qs)).map (·.2))) ∧ Same J4 J5)
          ⟨upd_same, same_new nN⟩ (fun j J5 _ ⟨_, sJ5⟩ => .inl (.inl (sJ5 _ _ gG.at_))) ?_ ?_⟩
        · rintro j v J5 hj ⟨eN, sJ5⟩
          rw [List.getElem?_map] at hj
          cases hq : g.2[j]? with
          | none =>
            rw [hq] at hj
            cases hj
          | some q =>
            rw [hq] at hj
            cases hj
            have mq := List.mem_of_getElem? hq
            have oq := og g (mh g mg) q.1 (List.mem_map.mpr ⟨q, mq, rfl⟩)
            exact ⟨rfl, _, rfl, _, rfl, notin_grp ((gG.ky q mq).same sJ5) (gU.same sJ5) oq oU ⟨_, rfl, ite2 (fun q2 => ⟨_, rfl, flt_yes (f := fun q : Key × V => q.2) hq eN sJ5 nN (by omega) q2⟩) (fun q2 => flt_no (f := fun q : Key × V => q.2) hq eN sJ5 q2)⟩⟩
        rintro J5 ⟨eN, sJ5⟩
        have tg : (g.2.map (·.2)).length = g.2.length := List.length_map ..
        rw [tg, List.take_length] at eN
        have fl := List.length_filter_le (fun q : Key × V => !decide (q.1 ∈ kk qs)) g.2
        refine ⟨U, N, _, _, rfl, rfl, sJ5 _ _ gU.at_, eN, Nat.le_of_lt (sz17 ?_), fun p np => ?_⟩
        · rw [List.length_map, List.length_map]
          omega
        have s6 : Same J5 (upd J5 p (.lst (qs.map (·.2) ++ (g.2.filter fun q => !decide (q.1 ∈ kk qs)).map (·.2)))) := same_new np
        refine ⟨p, qs ++ g.2.filter (fun q => !decide (q.1 ∈ kk qs)), _, _, rfl, sJ4.trans (sJ5.trans s6), ⟨?_, fun q hq => ?_⟩, ?_⟩
        · rw [upd_same, List.map_append]
        · rcases List.mem_append.mp hq with hq | hq
          · exact (gU.ky q hq).same (sJ5.trans s6)
          · exact (gG.ky q (List.mem_filter.mp hq).1).same (sJ5.trans s6)
        · rw [both_snoc kg, ← kU, ← kk_flt]
          exact List.map_append ..
      · rintro σ J4 ⟨U, qs, o6, o7, rfl, sJ4, gU, kU⟩
        have th2 : (hs.map fun g => V.ref g.1).length = (kks hs).length := by
          unfold kks
          rw [List.length_map, List.length_map]
        rw [th2, List.take_length, kh] at kU
        have hR4 : J4 R = some (.lst (rs.map fun g => V.ref g.1)) := (s3.trans sJ4) _ _ eR
        refine ⟨_, rfl, _, rfl, by show 1 ≤ sizeLine; decide, fun c nc => ?_⟩
        have s7 : Same J4 (upd J4 c (.lst [.ref U])) := same_new nc
        have e7 : upd J4 c (.lst [.ref U]) c = some (.lst [.ref U]) := upd_same
        generalize upd J4 c (.lst [.ref U]) = J7 at s7 e7
        refine ⟨R, c, _, _, rfl, rfl, s7 _ _ hR4, e7, Nat.le_of_lt (sz17 (by rw [List.length_map]; show rs.length + 1 ≤ _; omega)), fun p np => ?_⟩
        have s8 : Same J7 (upd J7 p (.lst (rs.map (fun g => V.ref g.1) ++ [.ref U]))) := same_new np
        have s28 := s3.trans (sJ4.trans (s7.trans s8))
        refine k p _ (rs ++ [(U, qs)]) (sH2.trans s28) ⟨?_, fun g hg => ?_⟩ ?_
        · rw [upd_same, List.map_append]
          rfl
        · rcases List.mem_append.mp hg with hg | hg
          · exact (gS g (mr g hg)).same s28
          · rw [List.mem_singleton.mp hg]
            exact gU.same (s7.trans s8)
        · show (rs ++ [(U, qs)]).map (fun g => kk g.2) = _
          rw [List.map_append]
          show kks rs ++ [kk qs] = _
          rw [kr, kU]
          rfl
end
end Gu
namespace Gu
open PySem PySem.Spec PyProof PyProof.Rows L2
/-! ### sets of texts that can be walked: what is known of their tables -/
def skey (e : Int × Value) : Str := match e.2 with | .str z _ => z | _ => ⟨#[]⟩
section
variable {P : Program} {w : World}
def GoodS (w : World) (e : Int × Value) : Prop := ∃ z tk, e.2 = Value.str z tk ∧ e.1 = hashStr w z
/-- the set of texts at a: S its members, n their number -/
structure SetRS (P : Program) (w : World) (h : Heap) (a : Addr) (S : Str → Bool) (n : Nat) : Prop where
  ex : ∃ o es ep t, h.get? a = some o ∧ o.ExactSet ∧ o.data = .set es ep t ∧ (∀ e ∈ es.toList, GoodS w e) ∧ (es.toList.map skey).Nodup ∧ (∀ k, S k = true ↔ k ∈ es.toList.map skey) ∧
    es.size < scanBound ∧ t.fits es.size = true ∧ es.size = n ∧ Ris t.place.toList ∧ (w.params.followText "set-order" = true ∨ t.led = true)
theorem goodS_elems {l : List (Int × Value)} (g : ∀ e ∈ l, GoodS w e) : ElemsOf (PySem.strKind P w) l := fun e he => by
  obtain ⟨z, tk, h1, h2⟩ := g e he
  exact ⟨⟨z, by rw [h1]; exact PySem.strKind_is P w z tk, h2⟩, by rw [h1]; rfl⟩
theorem goodS_is {e : Int × Value} (g : GoodS w e) (k : Str) : (PySem.strKind P w).is k e.2 = true ↔ skey e = k := by
  obtain ⟨z, tk, h1, _⟩ := g
  unfold skey
  rw [h1]
  constructor
  · intro q
    obtain ⟨u, hu⟩ := Value.isStrOf_shape (show Value.isStrOf k (.str z tk) = true from q)
    injection hu with hx
  · intro q
    rw [← q]
    exact PySem.strKind_is P w z tk
theorem goodS_mem {l : List (Int × Value)} (g : ∀ e ∈ l, GoodS w e) (k : Str) : k ∈ l.map skey ↔ ∃ e ∈ l, (PySem.strKind P w).is k e.2 = true := by
  rw [List.mem_map]
  constructor
  · rintro ⟨e, he, q⟩
    exact ⟨e, he, (goodS_is (g e he) k).2 q⟩
  · rintro ⟨e, he, q⟩
    exact ⟨e, he, (goodS_is (g e he) k).1 q⟩
end
section
variable {P : Program} {w : World} {A : Around} {E : Value → Shared → Prop} {s : Shared} {a : Addr} {S : Str → Bool} {n : Nat}
theorem setRS_tail {g : Bool → Sem Unit} (hg : ∀ (b : Bool) (s₁ : Shared) (Q' : Unit → Shared → Prop), Q' () s₁ → wpAny (model P w) A (g b) Q' E s₁)
    {o : Obj} {es : Array (Int × Value)} {ep : Nat} {t : SetTable} (ho : s.heap.get? a = some o) (hex : o.ExactSet) (hd : o.data = .set es ep t)
    {es1 : Array (Int × Value)} {t2 : SetTable} {S' : Str → Bool} (g1 : ∀ e ∈ es1.toList, GoodS w e) (nd1 : (es1.toList.map skey).Nodup) (m1 : ∀ k, S' k = true ↔ k ∈ es1.toList.map skey)
    (hb1 : es1.size < scanBound) (hf2 : t2.fits es1.size = true) (hr : Ris t2.place.toList) (hl : w.params.followText "set-order" = true ∨ t2.led = true) {wasDummy : Bool} {R : Option Bool → Shared → Prop}
    (hR : ∀ h', Heap.SameBut a s.heap h' → SetRS P w h' a S' es1.size → R (some true) { s with heap := h' }) :
    wpAny (model P w) A (do
        storeSet a es1 t2
        if (!wasDummy && t2.tooFull) = true then do
            g (relayAll t2 es1 (SetTable.grown es1.size)).2.2
            storeSet a (relayAll t2 es1 (SetTable.grown es1.size)).1 (relayAll t2 es1 (SetTable.grown es1.size)).2.1
            pure (some true)
          else pure (some true)) R E s := by
  refine wpAny_bind (wpAny_storeSet_of ho hd ?_ (fits_of_scanBound hb1))
  have at1 := store_at (es' := es1) (t' := t2) ho hd
  have but1 := Heap.SameBut.update s.heap a (Obj.putSet es1 t2)
  by_cases c : (!wasDummy && t2.tooFull) = true
  · rw [if_pos c]
    have pm := relayAll_perm t2 es1 (SetTable.grown es1.size)
    have f3 := relayAll_fits t2 es1 (SetTable.grown es1.size)
    have r3 := relayAll_ris t2 es1 (SetTable.grown es1.size)
    have l3 := relayAll_led t2 es1 (SetTable.grown es1.size)
    rcases hz : relayAll t2 es1 (SetTable.grown es1.size) with ⟨es2, t3, gave⟩
    rw [hz] at pm f3 r3 l3
    dsimp only at pm f3 r3 l3 ⊢
    have sz : es2.size = es1.size := by rw [← Array.length_toList, pm.length_eq, Array.length_toList]
    have b2 : es2.size < scanBound := sz ▸ hb1
    refine wpAny_bind (hg _ _ _ (wpAny_bind (wpAny_storeSet_of at1 rfl ?_ (fits_of_scanBound b2))))
    have at2 := store_at (es' := es2) (t' := t3) at1 rfl
    refine wpAny_pure (hR _ (but1.trans (Heap.SameBut.update _ a _)) ⟨_, es2, _, t3, at2, hex, rfl, fun e he => g1 e (pm.mem_iff.mp he), (pm.map skey).nodup_iff.mpr nd1, fun k => (m1 k).trans (pm.map skey).mem_iff.symm, b2, f3, sz, r3, ?_⟩)
    rw [l3]
    exact hl
  · rw [if_neg c]
    exact wpAny_pure (hR _ but1 ⟨_, es1, _, t2, at1, hex, rfl, g1, nd1, m1, hb1, hf2, rfl, hr, hl⟩)
end
end Gu
namespace Gu
open PySem PySem.Spec PyProof PyProof.Rows L2
section
variable {P : Program} {w : World} {A : Around} {E : Value → Shared → Prop} {s : Shared} {a : Addr} {S : Str → Bool} {n : Nat}
/-- one text comes into such a set -/
theorem setRS_add {k : Str} {tk : Tok} {Q : Bool → Shared → Prop} (R : SetRS P w s.heap a S n) (room : n + 1 < scanBound)
    (hQ : ∀ h', Heap.SameBut a s.heap h' → SetRS P w h' a (fun j => S j || decide (j = k)) (if S k = true then n else n + 1) → Q (!S k) { s with heap := h' }) :
    wpAny (model P w) A (setAddHashed a (.str k tk) ((PySem.strKind P w).hash k)) Q E s := by
  obtain ⟨o, es, ep, t, ho, hex, hd, g, nd, hm, hb, hf, hn, hr, hl⟩ := R.ex
  have isk : (PySem.strKind P w).is k (.str k tk) = true := PySem.strKind_is P w k tk
  have sc : (Value.str k tk).scannable = true := rfl
  have el : ElemsOf (PySem.strKind P w) es.toList := goodS_elems g
  unfold setAddHashed setAddHashedIn
  refine wpAny_holding (wpAny_bind (wpAny_setState_of ho hd hf ?_))
  dsimp only
  rw [byScan_of sc hb el]
  simp only [↓reduceIte]
  unfold setAddByScan
  refine wpAny_bind (wpAny_bind (wpAny_rule (wpAny_bind (wpAny_setScan_of isk ho hd hf el ?_))))
  cases fi : List.findIdx? (fun e => (PySem.strKind P w).is k e.2) es.toList with
  | some j =>
    dsimp only
    obtain ⟨jl, pj, _⟩ := List.findIdx?_eq_some_iff_getElem.mp fi
    have inS : S k = true := (hm k).2 ((goodS_mem (P := P) g k).2 ⟨es.toList[j], List.getElem_mem jl, pj⟩)
    have q := hQ s.heap (Heap.SameBut.refl a s.heap) ⟨o, es, ep, t, ho, hex, hd, g, nd, fun i => by
      rw [Bool.or_eq_true, decide_eq_true_eq, ← hm i]
      exact ⟨fun z => z.elim id fun e => e ▸ inS, .inl⟩, hb, hf, by rw [if_pos inS]; exact hn, hr, hl⟩
    rw [inS] at q
    exact wpAny_pure (wpAny_pure q)
  | none =>
    dsimp only
    have out : k ∉ es.toList.map skey := fun z => by
      obtain ⟨e, he, q⟩ := (goodS_mem (P := P) g k).1 z
      have c := List.findIdx?_eq_none_iff.mp fi e he
      rw [q] at c
      cases c
    have nS : S k = false := by
      cases q : S k with
      | false => rfl
      | true => exact absurd ((hm k).1 q) out
    have gw : ∀ (b : Bool) {s₁ : Shared} {Q' : Unit → Shared → Prop}, Q' () s₁ → wpAny (model P w) A (match b with | true => rule "set.scan.the-table-gave-way" | false => pure ()) Q' E s₁ := fun b s₁ Q' q => by
      cases b
      · exact wpAny_pure q
      · exact wpAny_rule q
    have pm := layNew_perm t es ((PySem.strKind P w).hash k) (.str k tk)
    have f1 := layNew_fits t es ((PySem.strKind P w).hash k) (.str k tk)
    have r1 := layNew_ris t es ((PySem.strKind P w).hash k) (.str k tk) hr
    have l1 := layNew_led t es ((PySem.strKind P w).hash k) (.str k tk)
    rcases hz : layNew t es ((PySem.strKind P w).hash k) (.str k tk) with ⟨es1, t1, wasDummy, gave⟩
    rw [hz] at pm f1 r1 l1
    dsimp only at pm f1 r1 l1 ⊢
    rw [Array.toList_push] at pm
    have pc : es1.toList.Perm (((PySem.strKind P w).hash k, Value.str k tk) :: es.toList) := pm.trans (List.perm_append_singleton _ _)
    have pk : (es1.toList.map skey).Perm (k :: es.toList.map skey) := pc.map skey
    have g1 : ∀ e ∈ es1.toList, GoodS w e := fun e he => by
      rcases List.mem_cons.mp (pc.mem_iff.mp he) with z | z
      · rw [z]
        exact ⟨k, tk, rfl, rfl⟩
      · exact g e z
    have nd1 : (es1.toList.map skey).Nodup := pk.nodup_iff.mpr (List.nodup_cons.mpr ⟨out, nd⟩)
    have m1 : ∀ i, (S i || decide (i = k)) = true ↔ i ∈ es1.toList.map skey := fun i => by
      rw [Bool.or_eq_true, decide_eq_true_eq, hm i, pk.mem_iff, List.mem_cons]
      exact Or.comm
    have sz : es1.size = n + 1 := by rw [← Array.length_toList, pc.length_eq, List.length_cons, Array.length_toList, hn]
    have b1 : es1.size < scanBound := by rw [sz]; exact room
    have led1 : w.params.followText "set-order" = true ∨ t1.led = true := by
      rw [l1]
      exact hl
    have fin : ∀ h', Heap.SameBut a s.heap h' → SetRS P w h' a (fun j => S j || decide (j = k)) es1.size → Q true { s with heap := h' } := fun h' sb r => by
      have q := hQ h' sb
      rw [nS] at q
      rw [sz] at r
      exact q r
    have gg : ∀ (b : Bool) (s₁ : Shared) (Q' : Unit → Shared → Prop), Q' () s₁ → wpAny (model P w) A (match b with | true => rule "set.scan.the-table-gave-way" | false => pure ()) Q' E s₁ := fun b s₁ Q' q => gw b q
    refine wpAny_bind (gw _ ?_)
    split
    · refine wpAny_bind ?_
      rw [hashByValue_scannable 8 sc]
      refine wpAny_pure ?_
      refine setRS_tail ?_ ho hex hd g1 nd1 m1 b1 ?_ ?_ ?_ ?_
      · exact gg
      · split
        · exact f1
        · exact SetTable.fits_plain_off f1
      · split <;> exact r1
      · split <;> exact led1
      · exact fun h' sb r => wpAny_pure (fin h' sb r)
    · refine wpAny_bind (wpAny_pure ?_)
      simp only [↓reduceIte]
      refine setRS_tail ?_ ho hex hd g1 nd1 m1 b1 f1 r1 led1 ?_
      · exact gg
      · exact fun h' sb r => wpAny_pure (fin h' sb r)
end
end Gu
namespace Gu
open PySem PySem.Spec PyProof PyProof.Rows L2
/-! ### set(list) and set(tuple) of texts, walkable -/
section
variable {P : Program} {w : World} {A : Around} {E : Value → Shared → Prop} {s : Shared}
theorem code_set_new_led (a : Value) {Q₁ : Value → Shared → Prop}
    (h : Q₁ (.ref s.heap.objs.size) { s with heap := s.heap.push { cls := .type "set", dict := none, data := .set #[] 0 (.fresh 0 0 (!w.params.followText "set-order")) } }) :
    codeAny (model P w) A (.call (.builtin "set.__new__") ⟨[.type "set", a], []⟩) (wants Q₁ E) s := by
  refine codeAny_of_tree ?_
  show wpAny _ A.in1 (do checkBuiltinCall "set.__new__" ⟨[.type "set", a], []⟩; again (.builtin "set.__new__" ⟨[.type "set", a], []⟩)) _ _ s
  refine wpAny_bind (wpAny_of_eq (PySem.F.newCall_set_1 a) (wpAny_pure ⟨plainId_quiet PySem.F.plain_set_new _, codeAny_builtin PySem.F.entry_set_new ?_⟩))
  rw [Around.under_plainId PySem.F.plain_set_new _]
  unfold Builtin.«set.__new__» Builtin.Frozenset.newClass
  have hsub := sub_set_self
  obtain ⟨hp, g, d, tk, os⟩ := s
  dsimp only
  wp_walk
  refine wpAny_askSetting (wpAny_pure ?_)
  dsimp only
  simp only [newObj]
  refine wpAny_bind (wpAny_alloc (wpAny_pure ?_))
  exact wpAny_pure h
theorem led_or {b : Bool} (e : b = !w.params.followText "set-order") : w.params.followText "set-order" = true ∨ b = true := by
  rw [e]
  cases w.params.followText "set-order"
  · exact .inr rfl
  · exact .inl rfl
end
section
variable {prog : Program} {w : World} {A : Around} {R : Result → Shared → Prop} {I : Addr} {fp wr : List Addr} {G : Array GenState → Array GenState → Prop} {n : Nat} {Py : Nat → Value → Prop} {St : Nat → Shared → Prop}
theorem fill_setS (W : WalksS prog w A.in1 I fp wr G n Py St) (T : Addr) (away : T ∉ fp) (ks : List Str) (many : n = ks.length) (few : ks.length + 1 < scanBound)
    (drawn : ∀ i v, Py i v → ∃ k tk, ks[i]? = some k ∧ v = .str k tk) :
    ∀ (left i : Nat) (s : Shared), n - i = left → i ≤ n → St i s → SetRS prog w s.heap T (isIn (ks.take i)) (dds (ks.take i)).length →
      (∀ t, Moved (T :: wr) G s t → SetRS prog w t.heap T (isIn ks) (dds ks).length → R (.ok (.ret .none)) t) →
      codeAny (model prog w) A (.builtin "set.update.loop" ⟨[.ref T, .ref I], []⟩) R s := by
  have awayW : T ∉ wr := fun h => away (W.sub _ h)
  have wider : ∀ b ∈ wr, b ∈ T :: wr := fun b q => List.mem_cons_of_mem _ q
  intro left
  induction left with
  | zero =>
    intro i s el il st so goal
    have ei : i = n := by omega
    subst ei
    refine codeAny_builtin F.entry_set_update_loop ?_
    rw [Around.under_plainId F.plain_set_update_loop _]
    show wpAny _ A.in1 (pyNext (.ref I) >>= _) _ _ s
    refine wpAny_bind (W.done s _ _ st fun t mv => ?_)
    show wpAny _ A.in1 (ret Value.none) _ _ t
    have full : ks.take i = ks := List.take_of_length_le (by omega)
    rw [full] at so
    refine wpAny_pure (goal t (mv.mono wider) ?_)
    obtain ⟨o, es, ep, tb, ho, more⟩ := so.ex
    exact ⟨⟨o, es, ep, tb, mv.heap T _ awayW ho, more⟩⟩
  | succ left ih =>
    intro i s el il st so goal
    have less : i < n := by omega
    refine codeAny_builtin F.entry_set_update_loop ?_
    rw [Around.under_plainId F.plain_set_update_loop _]
    show wpAny _ A.in1 (pyNext (.ref I) >>= _) _ _ s
    refine wpAny_bind (W.item i s _ _ less st fun v t py st1 mv => ?_)
    obtain ⟨k, tk, ek, rfl⟩ := drawn i v py
    have so1 : SetRS prog w t.heap T (isIn (ks.take i)) (dds (ks.take i)).length := by
      obtain ⟨o, es, ep, tb, ho, more⟩ := so.ex
      exact ⟨⟨o, es, ep, tb, mv.heap T _ awayW ho, more⟩⟩
    show wpAny _ A.in1 (holding [Value.str k tk] (setAdd T (.str k tk)) >>= _) _ _ t
    refine wpAny_bind (wpAny_holding ?_)
    unfold setAdd
    refine wpAny_holding ?_
    refine wpAny_bind ((PySem.strKind prog w).pyHash (k := k) (strKind_is _ _ _ _) ?_)
    have room1 : (dds (ks.take i)).length + 1 < scanBound := by
      have a := dds_len (ks.take i)
      rw [List.length_take] at a
      omega
    refine setRS_add (s := { t with toks := t.toks + 1 }) so1 room1 fun h2 sb so2 => ?_
    have snoc : ks.take (i + 1) = ks.take i ++ [k] := by
      rw [List.take_add_one, ek]
      rfl
    have so3 : SetRS prog w h2 T (isIn (ks.take (i + 1))) (dds (ks.take (i + 1))).length := by
      have e1 : (fun j => isIn (ks.take i) j || decide (j = k)) = isIn (ks.take (i + 1)) := by
        funext j
        unfold isIn
        rw [snoc]
        simp [List.mem_append]
      have e2 : (if isIn (ks.take i) k = true then (dds (ks.take i)).length else (dds (ks.take i)).length + 1) = (dds (ks.take (i + 1))).length := by
        rw [snoc, dds_snoc]
        unfold isIn
        by_cases q : k ∈ ks.take i
        · rw [if_pos (decide_eq_true q), if_pos ((mem_dds _).mpr q)]
        · rw [if_neg (fun z => q (of_decide_eq_true z)), if_neg (fun z => q ((mem_dds _).mp z)), List.length_append]
          rfl
      rw [← e1, ← e2]
      exact so2
    refine wpAny_pure ⟨plainId_quiet F.plain_set_update_loop _, ih (i + 1) _ (by omega) less (W.frame _ t _ _ st1 (Nat.le_succ _) fun b q o e => ?_) so3 fun t2 mv2 so4 => ?_⟩
    · rw [sb.2 b (fun z : b = T => away (z ▸ q))]
      exact e
    · refine goal t2 (Moved.trans W.gtrans ((mv.mono wider).then_heap (Nat.le_succ _) fun b o q e => ?_) mv2) so4
      rw [sb.2 b (fun z : b = T => q (by rw [z]; exact List.mem_cons_self))]
      exact e
end
section
variable {prog : Program} {w : World} {A : Around} {E : Value → Shared → Prop} {s : Shared}
set_option maxHeartbeats 3200000 in
theorem call_setSL {l : Addr} {items : Array Value} (ks : List Str) {Q : Value → Shared → Prop} (calm : A.handled = none) (at_l : s.heap.IsList l items) (size : items.size = ks.length) (few : ks.length + 1 < scanBound)
    (keys : ∀ (i : Nat) (v : Value), items[i]? = some v → ∃ (k : Str) (tk : Tok), ks[i]? = some k ∧ v = .str k tk)
    (h : ∀ (g : Heap) (tk : Nat), SetRS prog w g s.heap.objs.size (isIn ks) (dds ks).length → (∀ b o, s.heap.get? b = some o → g.get? b = some o) → Q (.ref s.heap.objs.size) { s with heap := g, toks := tk }) :
    wpAny (model prog w) A (call (.type "set") [.ref l]) Q E s := by
  obtain ⟨c0, tl0, mro0⟩ := F.called_set.mro
  have made0 := F.called_set.made
  have sub0 := F.called_set.sub
  refine wpAny_call (codeAny_of_tree ?_)
  show wpAny _ _ (callAny (.type "set") _) _ _ _
  refine wpAny_pure ⟨Code.quiet_builtin _ (by decide +kernel), codeAny_builtin F.entry_type_call ?_⟩
  rw [Around.under_plain (weight_type_call_type "set" [.ref l] []) rfl]
  have nt0 := F.called_set.notType
  have cc0 := F.called_set.canCreate
  have tc0 := F.typeCall_set_1 (.ref l)
  repeat (any_goals (first | assumption | wp_step))
  refine codeAny_mono (code_set_new_led (.ref l) (E := E) (Q₁ := fun x t => ∃ b : Bool, b = (!w.params.followText "set-order") ∧ x = .ref s.heap.objs.size ∧ t = { s with heap := s.heap.push (noneIn b) }) ⟨_, rfl, rfl, rfl⟩) fun r t hr => ?_
  cases r with
  | error e => exact hr
  | ok fl =>
    cases fl with
    | next => exact (hr : False).elim
    | brk => exact (hr : False).elim
    | cont => exact (hr : False).elim
    | ret x =>
      obtain ⟨b0, eb0, rfl, rfl⟩ := hr
      have new0 : (s.heap.push (noneIn b0)).get? s.heap.objs.size = some (noneIn b0) := Heap.get?_push_size _ rfl
      have isS : Shared.TypeIs { s with heap := s.heap.push (noneIn b0) } (.ref s.heap.objs.size) "set" := ⟨_, new0, rfl⟩
      have li0 := F.called_set.init.lookup
      have bi0 := F.called_set.init.bind (.ref s.heap.objs.size)
      repeat (any_goals (first | assumption | wp_step))
      refine codeAny_mono (codeAny_call_builtin (R := wants (fun y t2 => y = .none ∧ ∃ (g : Heap) (tk : Nat), t2 = { s with heap := g, toks := tk } ∧ SetRS prog w g s.heap.objs.size (isIn ks) (dds ks).length ∧ (∀ b o, s.heap.get? b = some o → g.get? b = some o)) E)
        F.called_set.init.plain F.entry_set_init (check_set_init_1 isS ?_)) fun r2 t2 hr2 => ?_
      · obtain ⟨ol, hol, cl0, nl, dl0⟩ := at_l
        obtain ⟨ocls, odict, odata, oslots⟩ := ol
        simp only at cl0 dl0
        subst cl0
        subst dl0
        have hol1 : (s.heap.push (noneIn b0)).get? l = some { cls := .type "list", dict := odict, data := .seq items nl, slots := oslots } := Heap.get?_push_of_some _ hol
        have notS := F.sub_list_set
        have notF := F.sub_list_frozenset
        have notD : (Value.type "list" == Value.type "dict") = false := by decide
        have at1 : (s.heap.push (noneIn b0)).IsList l items := ⟨_, hol1, rfl, nl, rfl⟩
        refine init_goes (b := b0) new0 hol1 notS notF notD ?_
        refine wpAny_pyIter_list at1 ?_
        refine wpAny_bind (wpAny_runValue ?_)
        have lt0 : l < s.heap.objs.size := Heap.lt_size hol
        have calm3 : A.in1.in1.in1.handled = none := by simp [calm]
        have z1 : (s.heap.push (noneIn b0)).objs.size = s.heap.objs.size + 1 := Heap.size_push ..
        have apart : l ≠ (s.heap.push (noneIn b0)).objs.size := by
          rw [z1]
          exact Nat.ne_of_lt (Nat.lt_succ_of_lt lt0)
        have off : s.heap.objs.size ∉ [(s.heap.push (noneIn b0)).objs.size, l] := by
          rw [z1]
          intro q
          rcases List.mem_cons.mp q with q | q
          · exact absurd q (Nat.ne_of_lt (Nat.lt_succ_self _))
          · exact absurd (List.mem_singleton.mp q) (Nat.ne_of_gt lt0)
        refine fill_setS ((Walks.list calm3 _ l apart items).toS) s.heap.objs.size off ks size few keys (items.size - 0) 0 _ (by omega) (Nat.zero_le _) ⟨⟨_, Heap.get?_push_size _ rfl, rfl, rfl⟩, (at1.push _)⟩ ?first ?last
        case first =>
          have got : ((s.heap.push (noneIn b0)).push { cls := .type "list_iterator", data := .fields #[.ref l, .int 0 0] }).get? s.heap.objs.size = some (noneIn b0) := Heap.get?_push_of_some _ new0
          refine ⟨⟨_, #[], 0, _, got, ⟨rfl, rfl, rfl⟩, rfl, (fun e he => by simp at he), (by simp), (fun k => by simp [isIn]), (by decide), (by rfl), rfl, List.Pairwise.nil, led_or eb0⟩⟩
        case last =>
          intro t3 mv so
          obtain ⟨g, gn, dr, tk, os⟩ := t3
          have e1 : gn = s.gens := mv.gens
          have e2 : dr = s.drawn := mv.drawn
          have e3 : os = s.os := mv.os
          subst e1
          subst e2
          subst e3
          show wpAny _ _ _ _ _ _
          refine wpAny_pure ?_
          show wpAny _ _ (ret Value.none) _ _ _
          refine wpAny_pure ⟨rfl, g, tk, rfl, so, fun b o e => ?_⟩
          have below : b < s.heap.objs.size := Heap.lt_size e
          refine mv.heap b o (fun q => ?_) (Heap.get?_push_of_some _ (Heap.get?_push_of_some _ e))
          rcases List.mem_cons.mp q with q | q
          · exact absurd q (Nat.ne_of_lt below)
          · have q2 := List.mem_singleton.mp q
            rw [z1] at q2
            exact absurd q2 (Nat.ne_of_lt (Nat.lt_succ_of_lt below))
      · cases r2 with
        | error e => exact hr2
        | ok fl2 =>
          cases fl2 with
          | next => exact (hr2 : False).elim
          | brk => exact (hr2 : False).elim
          | cont => exact (hr2 : False).elim
          | ret y =>
            obtain ⟨rfl, g, tk, rfl, so, keep⟩ := hr2
            repeat (any_goals (first | assumption | wp_step))
            exact h _ _ so keep
end
section
variable {prog : Program} {w : World} {A : Around} {E : Value → Shared → Prop} {s : Shared}
set_option maxHeartbeats 3200000 in
theorem call_setST {l : Addr} {items : Array Value} (ks : List Str) {Q : Value → Shared → Prop} (calm : A.handled = none) (at_l : s.heap.IsTuple l items) (size : items.size = ks.length) (few : ks.length + 1 < scanBound)
    (keys : ∀ (i : Nat) (v : Value), items[i]? = some v → ∃ (k : Str) (tk : Tok), ks[i]? = some k ∧ v = .str k tk)
    (h : ∀ (g : Heap) (tk : Nat), SetRS prog w g s.heap.objs.size (isIn ks) (dds ks).length → (∀ b o, s.heap.get? b = some o → g.get? b = some o) → Q (.ref s.heap.objs.size) { s with heap := g, toks := tk }) :
    wpAny (model prog w) A (call (.type "set") [.ref l]) Q E s := by
  obtain ⟨c0, tl0, mro0⟩ := F.called_set.mro
  have made0 := F.called_set.made
  have sub0 := F.called_set.sub
  refine wpAny_call (codeAny_of_tree ?_)
  show wpAny _ _ (callAny (.type "set") _) _ _ _
  refine wpAny_pure ⟨Code.quiet_builtin _ (by decide +kernel), codeAny_builtin F.entry_type_call ?_⟩
  rw [Around.under_plain (weight_type_call_type "set" [.ref l] []) rfl]
  have nt0 := F.called_set.notType
  have cc0 := F.called_set.canCreate
  have tc0 := F.typeCall_set_1 (.ref l)
  repeat (any_goals (first | assumption | wp_step))
  refine codeAny_mono (code_set_new_led (.ref l) (E := E) (Q₁ := fun x t => ∃ b : Bool, b = (!w.params.followText "set-order") ∧ x = .ref s.heap.objs.size ∧ t = { s with heap := s.heap.push (noneIn b) }) ⟨_, rfl, rfl, rfl⟩) fun r t hr => ?_
  cases r with
  | error e => exact hr
  | ok fl =>
    cases fl with
    | next => exact (hr : False).elim
    | brk => exact (hr : False).elim
    | cont => exact (hr : False).elim
    | ret x =>
      obtain ⟨b0, eb0, rfl, rfl⟩ := hr
      have new0 : (s.heap.push (noneIn b0)).get? s.heap.objs.size = some (noneIn b0) := Heap.get?_push_size _ rfl
      have isS : Shared.TypeIs { s with heap := s.heap.push (noneIn b0) } (.ref s.heap.objs.size) "set" := ⟨_, new0, rfl⟩
      have li0 := F.called_set.init.lookup
      have bi0 := F.called_set.init.bind (.ref s.heap.objs.size)
      repeat (any_goals (first | assumption | wp_step))
      refine codeAny_mono (codeAny_call_builtin (R := wants (fun y t2 => y = .none ∧ ∃ (g : Heap) (tk : Nat), t2 = { s with heap := g, toks := tk } ∧ SetRS prog w g s.heap.objs.size (isIn ks) (dds ks).length ∧ (∀ b o, s.heap.get? b = some o → g.get? b = some o)) E)
        F.called_set.init.plain F.entry_set_init (check_set_init_1 isS ?_)) fun r2 t2 hr2 => ?_
      · obtain ⟨ol, hol, cl0, nl, dl0⟩ := at_l
        obtain ⟨ocls, odict, odata, oslots⟩ := ol
        simp only at cl0 dl0
        subst cl0
        subst dl0
        have hol1 : (s.heap.push (noneIn b0)).get? l = some { cls := .type "tuple", dict := odict, data := .seq items nl, slots := oslots } := Heap.get?_push_of_some _ hol
        have notS := F.sub_tuple_set
        have notF := F.sub_tuple_frozenset
        have notD : (Value.type "tuple" == Value.type "dict") = false := by decide
        have at1 : (s.heap.push (noneIn b0)).IsTuple l items := ⟨_, hol1, rfl, nl, rfl⟩
        refine init_goes (b := b0) new0 hol1 notS notF notD ?_
        refine wpAny_pyIter_tuple at1 ?_
        refine wpAny_bind (wpAny_runValue ?_)
        have lt0 : l < s.heap.objs.size := Heap.lt_size hol
        have calm3 : A.in1.in1.in1.handled = none := by simp [calm]
        have z1 : (s.heap.push (noneIn b0)).objs.size = s.heap.objs.size + 1 := Heap.size_push ..
        have apart : l ≠ (s.heap.push (noneIn b0)).objs.size := by
          rw [z1]
          exact Nat.ne_of_lt (Nat.lt_succ_of_lt lt0)
        have off : s.heap.objs.size ∉ [(s.heap.push (noneIn b0)).objs.size, l] := by
          rw [z1]
          intro q
          rcases List.mem_cons.mp q with q | q
          · exact absurd q (Nat.ne_of_lt (Nat.lt_succ_self _))
          · exact absurd (List.mem_singleton.mp q) (Nat.ne_of_gt lt0)
        refine fill_setS ((Walks.tuple calm3 _ l apart items).toS) s.heap.objs.size off ks size few keys (items.size - 0) 0 _ (by omega) (Nat.zero_le _) ⟨⟨_, Heap.get?_push_size _ rfl, rfl, rfl⟩, (at1.push _)⟩ ?first ?last
        case first =>
          have got : ((s.heap.push (noneIn b0)).push { cls := .type "tuple_iterator", data := .fields #[.ref l, .int 0 0] }).get? s.heap.objs.size = some (noneIn b0) := Heap.get?_push_of_some _ new0
          refine ⟨⟨_, #[], 0, _, got, ⟨rfl, rfl, rfl⟩, rfl, (fun e he => by simp at he), (by simp), (fun k => by simp [isIn]), (by decide), (by rfl), rfl, List.Pairwise.nil, led_or eb0⟩⟩
        case last =>
          intro t3 mv so
          obtain ⟨g, gn, dr, tk, os⟩ := t3
          have e1 : gn = s.gens := mv.gens
          have e2 : dr = s.drawn := mv.drawn
          have e3 : os = s.os := mv.os
          subst e1
          subst e2
          subst e3
          show wpAny _ _ _ _ _ _
          refine wpAny_pure ?_
          show wpAny _ _ (ret Value.none) _ _ _
          refine wpAny_pure ⟨rfl, g, tk, rfl, so, fun b o e => ?_⟩
          have below : b < s.heap.objs.size := Heap.lt_size e
          refine mv.heap b o (fun q => ?_) (Heap.get?_push_of_some _ (Heap.get?_push_of_some _ e))
          rcases List.mem_cons.mp q with q | q
          · exact absurd q (Nat.ne_of_lt below)
          · have q2 := List.mem_singleton.mp q
            rw [z1] at q2
            exact absurd q2 (Nat.ne_of_lt (Nat.lt_succ_of_lt below))
      · cases r2 with
        | error e => exact hr2
        | ok fl2 =>
          cases fl2 with
          | next => exact (hr2 : False).elim
          | brk => exact (hr2 : False).elim
          | cont => exact (hr2 : False).elim
          | ret y =>
            obtain ⟨rfl, g, tk, rfl, so, keep⟩ := hr2
            repeat (any_goals (first | assumption | wp_step))
            exact h _ _ so keep
end
end Gu
namespace Gu
open PySem PySem.Spec PyProof PyProof.Rows L2
/-! ### sorted(set(texts)) -/
def strV : Value → Str
  | .str x _ => x
  | _ => ⟨#[]⟩
def ltSv (v u : Value) : Bool := decide ((strV v).cps.toList < (strV u).cps.toList)
theorem swo_str : SrtO.Swo ltSv := by
  refine ⟨fun x y h => ?_, fun x y z h1 h2 => ?_⟩
  · have a := of_decide_eq_true (p := (strV x).cps.toList < (strV y).cps.toList) h
    exact decide_eq_false fun q => List.lt_irrefl _ (List.lt_trans a q)
  · have a := List.not_lt.mp (of_decide_eq_false (p := (strV y).cps.toList < (strV x).cps.toList) h1)
    have b := List.not_lt.mp (of_decide_eq_false (p := (strV z).cps.toList < (strV y).cps.toList) h2)
    exact decide_eq_false (List.not_lt.mpr (List.le_trans a b))
def IsTx (v : Value) : Prop := ∃ x t, v = Value.str x t
section
variable {prog : Program} {w : World} {A : Around} {E : Value → Shared → Prop} {s : Shared}
theorem str_cmp {vs : List Value} (hI : ∀ v ∈ vs, IsTx v) : SrtO.Cmp prog w A s oneType' (fun p => p.1 ∈ vs) (SrtO.lt2 ltSv) := by
  intro p q hm hm'
  obtain ⟨a, t, e⟩ := hI _ hm
  obtain ⟨b, u, e'⟩ := hI _ hm'
  show wpAny (model prog w) A (keyLt' oneType' p.1 q.1) (fun r s' => s' = s ∧ r = ltSv p.1 q.1) (fun _ _ => False) s
  rw [e, e', keyLt'_oneType]
  exact oneLt_str ⟨rfl, rfl⟩
theorem strsAre_of : ∀ {vs : List Value}, (∀ v ∈ vs, IsTx v) → StrsAre vs (vs.map strV)
  | [], _ => .nil
  | v :: vs, h => by
    obtain ⟨i, t, e⟩ := h v List.mem_cons_self
    subst e
    exact .cons i t (strsAre_of fun u hu => h u (List.mem_cons_of_mem _ hu))
theorem strs_sortable {a : Addr} {vs : List Value} (hI : ∀ v ∈ vs, IsTx v) (h2 : 2 ≤ vs.length) : SrtO.SortableO prog w A s a vs ltSv := by
  intro h' _
  refine ⟨oneType', fun Q E hq => ?_, str_cmp hI⟩
  match vs, hI, h2 with
  | v1 :: v2 :: rest, hI, _ =>
    rw [keyKind_strs (strsAre_of hI)]
    exact wpAny_pure hq
  | [], _, h => exact absurd h (by decide)
  | [v], _, h => exact absurd h (by simp)
/-- rising, none twice -/
def SU (js : List Str) : Prop := js.Pairwise fun a b => a.cps.toList < b.cps.toList
theorem su_of : ∀ {l : List Str}, l.Pairwise (fun a b => ¬ b.cps.toList < a.cps.toList) → l.Nodup → SU l
  | [], _, _ => List.Pairwise.nil
  | x :: l, h, d => by
    obtain ⟨h1, h2⟩ := List.pairwise_cons.mp h
    obtain ⟨d1, d2⟩ := List.nodup_cons.mp d
    refine List.pairwise_cons.mpr ⟨fun y hy => ?_, su_of h2 d2⟩
    have a := List.not_lt.mp (h1 y hy)
    rcases Decidable.em (x.cps.toList < y.cps.toList) with q | q
    · exact q
    · have e := List.le_antisymm (List.not_lt.mp q) a
      have e2 : x = y := by
        cases x
        cases y
        exact congrArg Str.mk (Array.ext' e.symm)
      exact absurd (e2 ▸ hy) d1
theorem su_one : ∀ {xs ys : List Str}, SU xs → SU ys → (∀ k, k ∈ xs ↔ k ∈ ys) → xs = ys
  | [], [], _, _, _ => rfl
  | [], y :: ys, _, _, h => absurd ((h y).2 List.mem_cons_self) (by simp)
  | x :: xs, [], _, _, h => absurd ((h x).1 List.mem_cons_self) (by simp)
  | x :: xs, y :: ys, h1, h2, h => by
    obtain ⟨a1, a2⟩ := List.pairwise_cons.mp h1
    obtain ⟨b1, b2⟩ := List.pairwise_cons.mp h2
    have e : x = y := by
      rcases List.mem_cons.mp ((h x).1 List.mem_cons_self) with q | q
      · exact q
      · rcases List.mem_cons.mp ((h y).2 List.mem_cons_self) with z | z
        · exact z.symm
        · exact absurd (List.lt_trans (b1 x q) (a1 y z)) (List.lt_irrefl _)
    subst e
    refine congrArg (x :: ·) (su_one a2 b2 fun k => ⟨fun q => ?_, fun q => ?_⟩)
    · rcases List.mem_cons.mp ((h k).1 (List.mem_cons_of_mem _ q)) with z | z
      · subst z
        exact absurd (a1 k q) (List.lt_irrefl _)
      · exact z
    · rcases List.mem_cons.mp ((h k).2 (List.mem_cons_of_mem _ q)) with z | z
      · subst z
        exact absurd (b1 k q) (List.lt_irrefl _)
      · exact z
theorem vals_strs : ∀ {vs : List Value}, (∀ v ∈ vs, IsTx v) → Vals ((vs.map strV).map V.str) vs
  | [], _ => .nil
  | v :: vs, h => by
    obtain ⟨i, t, e⟩ := h v List.mem_cons_self
    subst e
    exact .cons ⟨t, rfl⟩ (vals_strs fun u hu => h u (List.mem_cons_of_mem _ hu))
/-- sorted of such a set: a new list that rises, with its members -/
theorem sorted_setS {a : Addr} {S : Str → Bool} {n : Nat} {Q : Value → Shared → Prop} (R : SetRS prog w s.heap a S n) (hh : A.handled = none)
    (hQ : ∀ (s' : Shared) (p : Addr) (out : List Value) (c : Nat), (∀ b o, s.heap.get? b = some o → s'.heap.get? b = some o) → s'.gens = s.gens → s'.os = s.os → s.heap.objs.size ≤ p →
      s'.heap.get? p = some (seqObj "list" out.toArray c) → (∀ v ∈ out, IsTx v) → SU (out.map strV) → (∀ k, k ∈ out.map strV ↔ S k = true) → out.length = n → Q (.ref p) s') :
    wpAny (model prog w) A (call (.builtin "sorted") [.ref a]) Q E s := by
  obtain ⟨o, es, ep, t, ho, hex, hd, g, nd, hm, hb, hf, hn, hr, hl⟩ := R.ex
  refine PySem.Calls.call_function_entry kind_sorted plain_sorted entry_sorted (args_sorted1 _) ?_
  unfold Builtin.«sorted»
  refine wpAny_bind (m := checkCount "sorted" 1 1 _) (wpAny_pure ?_)
  refine wpAny_bind (collect_set (A := A.in1) hh ⟨o, ho, hex.1, hd⟩ hf hb hr hl fun s1 vs k1 hz g1 o1 pm => ?_)
  have hvl : vs.length = n := by rw [pm.length_eq, List.length_map, Array.length_toList]; exact hn
  have tx : ∀ v ∈ vs, IsTx v := fun v hv => by
    obtain ⟨e, he, q⟩ := List.mem_map.mp (pm.mem_iff.mp hv)
    obtain ⟨k, tk, h1, _⟩ := g e he
    exact ⟨k, tk, by rw [← q]; exact h1⟩
  have pk : (vs.map strV).Perm (es.toList.map skey) := by
    have q := pm.map strV
    rw [List.map_map] at q
    exact q
  have zl : vs.length ≤ sizeLine := by
    rw [hvl, ← hn]
    exact fits_of_scanBound hb
  refine wpAny_bind (wpAny_newList ?_ zl)
  have hoL : (s1.heap.push (seqObj "list" vs.toArray 0)).get? s1.heap.objs.size = some (seqObj "list" vs.toArray 0) := Heap.get?_push_size _ rfl
  refine wpAny_bind (wpAny_holding (wpAny_call_entry slot_list_sort ⟨_, hoL, rfl⟩ entry_list_sort
    (SrtO.list_sort_ord swo_str hoL zl (fun h2 => strs_sortable tx h2) fun out h1 h2 => ⟨_, rfl, ?_⟩) (args_list_sort _)))
  obtain ⟨c, hc⟩ := sortedHeap_at (vs := vs) (out := out.toArray) hoL
  have pn : (out.map strV).Perm (es.toList.map skey) := (h2.perm.map strV).trans pk
  refine wpAny_pure ⟨_, rfl, hQ _ s1.heap.objs.size out c (fun b u e => ?_) g1 o1 hz hc (fun v hv => tx v (h2.perm.mem_iff.mp hv))
    (su_of (List.pairwise_map.mpr (h1.imp fun {x y} h => of_decide_eq_false (p := (strV y).cps.toList < (strV x).cps.toList) h)) (pn.nodup_iff.mpr nd)) (fun k => by rw [pn.mem_iff, ← hm k]) ?_⟩
  · have q := k1 b u e
    have hlt := Heap.lt_size q
    show (sortedHeap (s1.heap.push (seqObj "list" vs.toArray 0)) s1.heap.objs.size vs out.toArray).get? b = some u
    rw [sortedHeap_old (Nat.ne_of_lt hlt) (by rw [size_push']; exact Nat.lt_succ_of_lt hlt)]
    exact Heap.get?_push_of_some _ q
  · rw [h2.perm.length_eq]; exact hvl
end
theorem str_at : ∀ {ks : List Str} {us : List Value}, Vals (ks.map V.str) us → ∀ (i : Nat) (v : Value), us[i]? = some v → ∃ (k : Str) (tk : Tok), ks[i]? = some k ∧ v = .str k tk
  | [], _, .nil, i, v, h => by simp at h
  | k :: ks, _, .cons r t, 0, v, h => by
    cases h
    obtain ⟨tk, e⟩ := r
    exact ⟨k, tk, rfl, e⟩
  | k :: ks, _, .cons r t, i + 1, v, h => str_at t i v h
/-- sorted(set(x)), x a list or a tuple of texts -/
def tSortSet (K : PySem.W.Frag) (ta : TE) : TE := fun σ H Q => ta σ H fun x G => ∃ (l : Addr) (ks : List Str), x = .ref l ∧ (SqL K G l (ks.map V.str) ∨ SqT K G l (ks.map V.str)) ∧ ks.length ≤ 4000 ∧
  ∀ (p : Addr) (js : List Str), SU js → (∀ k, k ∈ js ↔ k ∈ ks) → js.length ≤ 4000 → G p = none → Q (.ref p) (upd G p (.lst (js.map V.str)))
theorem pe_sortSet {X : Cx} {a : Expr} {ta : TE} {p p2 q pos : Pos} (hg : Gl X "sorted") (hm : X.mg "sorted" = none) (hg2 : Gl X "set") (hm2 : X.mg "set" = none) (ha : PE X a ta) (calm : X.calm = true := by rfl)
    (na : starEach [a] X.env = (false, eval a X.env) :: starEach [] X.env := by rfl) : PE X (.Call (.Name "sorted" p) [.Call (.Name "set" p2) [a] [] q] [] pos) (tSortSet X.K ta) := by
  refine ⟨fun pins s σ H Q I h => Call_ (ld_blt I hg hm boot_sorted (PyProof.Rows.callWith_builtin1 (PyProof.Rows.args_cons ?_ rfl) rfl rfl))⟩
  refine Call_ (ld_blt I hg2 hm2 boot_set (PyProof.Rows.callWith_type1 (PyProof.Rows.args_cons (thn (ha.run pins s σ H _ I h) fun v s1 ⟨x, G, I1, r1, q1⟩ => PyProof.Rows.args_nil ?_) na) na rfl))
  obtain ⟨l, ks, rfl, hq, few, q1⟩ := q1
  cases r1
  have fin : ∀ (g : Heap) (tk : Nat), SetRS X.prog X.w g s1.heap.objs.size (isIn ks) (dds ks).length → (∀ b o, s1.heap.get? b = some o → g.get? b = some o) →
      wpAny (model X.prog X.w) X.A (call (.builtin "sorted") [.ref s1.heap.objs.size]) (fun v s' => ∃ (y : V) (J : Hp), Inv X pins σ J s' ∧ RelV y v ∧ Q y J) X.xe { s1 with heap := g, toks := tk } := by
    intro g tk so keep
    have b1 := dds_len ks
    refine sorted_setS so (I1.ok.hd calm) fun s' pp out c k2 g2 o2 hp at2 tx su mem ln => ?_
    have sz : s1.heap.objs.size ≤ pp := by
      have q : s1.heap.objs.size < g.objs.size := by
        obtain ⟨o, es, ep, t, ho, _⟩ := so.ex
        exact Heap.lt_size ho
      exact Nat.le_trans (Nat.le_of_lt q) hp
    have z : (out.map strV).length ≤ 4000 := by rw [List.length_map, ln]; omega
    have kp : ∀ b o, s1.heap.get? b = some o → s'.heap.get? b = some o := fun b o e => k2 b o (keep b o e)
    have ln2 : ((out.map strV).map V.str).length ≤ sizeLine := by
      rw [List.length_map, sizeLine_eq]
      omega
    have hn : G pp = none := I1.hok.fresh sz
    have J : Inv X pins σ (upd G pp (.lst ((out.map strV).map V.str))) { s1 with heap := s'.heap, gens := s'.gens, drawn := s'.drawn, toks := s'.toks } :=
      I1.call (ch := []) (Un.laid kp sz hn) (I1.hok.laid kp sz ⟨ln2, out, c, vals_strs tx, at2⟩) (by rw [show s'.gens = s1.gens from g2]; exact I1.bare) (fun _ z => nomatch z)
    have e : s' = { s1 with heap := s'.heap, gens := s'.gens, drawn := s'.drawn, toks := s'.toks } := by
      cases s'
      cases s1
      cases o2
      rfl
    rw [e]
    exact ⟨.ref pp, _, J, rfl, q1 pp _ su (fun k => (mem k).trans (by unfold isIn; exact decide_eq_true_iff)) z hn⟩
  rcases hq with hq | hq
  · obtain ⟨its, r, pl, hz⟩ := I1.list hq
    have el : its.toArray.size = ks.length := by rw [List.size_toArray, ← r.length, List.length_map]
    exact call_setSL ks (I1.ok.hd calm) pl.isList el (by unfold scanBound; omega) (fun i v hv => str_at r i v (by simpa using hv)) fun g tk so keep => PyProof.Rows.args_nil (fin g tk so keep)
  · obtain ⟨its, r, pl, hz⟩ := I1.tuple hq
    have el : its.toArray.size = ks.length := by rw [List.size_toArray, ← r.length, List.length_map]
    exact call_setST ks (I1.ok.hd calm) pl el (by unfold scanBound; omega) (fun i v hv => str_at r i v (by simpa using hv)) fun g tk so keep => PyProof.Rows.args_nil (fin g tk so keep)
/-- the same where the fragment is named (in a comprehension) -/
theorem pe_sortSetK {X : Cx} {K : PySem.W.Frag} (hK : X.K = K) {a : Expr} {ta : TE} {p p2 q pos : Pos} (hg : Gl X "sorted") (hm : X.mg "sorted" = none) (hg2 : Gl X "set") (hm2 : X.mg "set" = none) (ha : PE X a ta) (calm : X.calm = true := by rfl)
    (na : starEach [a] X.env = (false, eval a X.env) :: starEach [] X.env := by rfl) : PE X (.Call (.Name "sorted" p) [.Call (.Name "set" p2) [a] [] q] [] pos) (tSortSet K ta) := by
  subst hK
  exact pe_sortSet hg hm hg2 hm2 ha calm na
theorem pe_tupleOfK {X : Cx} {K : PySem.W.Frag} (hK : X.K = K) {a : Expr} {ta : TE} {p pos : Pos} (hg : Gl X "tuple") (hm : X.mg "tuple" = none) (ha : PE X a ta) (na : starEach [a] X.env = (false, eval a X.env) :: starEach [] X.env := by rfl) :
    PE X (.Call (.Name "tuple" p) [a] [] pos) (tThen ta (kTup K)) := by
  subst hK
  exact pe_tupleOf hg hm ha na
end Gu
namespace Gu
open PySem PySem.Spec PyProof.Rows L2
theorem joinGs_tot : ∀ (ps : List (Key × Key)) (gs : List (List Key)), tot (joinGs gs ps) ≤ tot gs + 2 * ps.length ∧ (joinGs gs ps).length ≤ gs.length + ps.length
  | [], gs => ⟨Nat.le_refl _, Nat.le_refl _⟩
  | q :: ps, gs => by
    have a := joinGs_tot ps (joinG gs q.1 q.2)
    have b := join_tot gs q.1 q.2
    have e : joinGs gs (q :: ps) = joinGs (joinG gs q.1 q.2) ps := rfl
    rw [e, List.length_cons]
    omega
theorem joinG_all {p : Key → Prop} {gs : List (List Key)} {a b : Key} (h : ∀ g ∈ gs, ∀ k ∈ g, p k) (ha : p a) (hb : p b) : ∀ g ∈ joinG gs a b, ∀ k ∈ g, p k := fun g hg k hk => by
  rcases List.mem_append.mp hg with hg | hg
  · exact h g (mem_rest.mp hg).1 k hk
  · rw [List.mem_singleton.mp hg] at hk
    rcases mem_bothL.mp hk with hk | ⟨x, hx, hk⟩
    · rcases List.mem_cons.mp hk with rfl | hk
      · exact ha
      · rw [List.mem_singleton.mp hk]
        exact hb
    · exact h x (mem_here.mp hx).1 k hk
theorem joinGs_all {p : Key → Prop} : ∀ {ps : List (Key × Key)} {gs : List (List Key)}, (∀ g ∈ gs, ∀ k ∈ g, p k) → (∀ q ∈ ps, p q.1 ∧ p q.2) → ∀ g ∈ joinGs gs ps, ∀ k ∈ g, p k
  | [], gs, h, _ => h
  | q :: ps, gs, h, hp => joinGs_all (ps := ps) (joinG_all h (hp q (List.mem_cons_self ..)).1 (hp q (List.mem_cons_self ..)).2) fun r hr => hp r (List.mem_cons_of_mem _ hr)
/-- a sign, or a place from 0 on -/
def OkK (k : Key) : Prop := OneK k ∧ ∀ i, k = .inl i → 0 ≤ i
theorem pairs_ok {rs : List Rec} (hf : ∀ r ∈ rs, r.fit) (n m : Nat) : ∀ q ∈ pairsK rs n m, OkK q.1 ∧ OkK q.2 := fun q hq => by
  have o := pairs_one hf n m q hq
  obtain ⟨h1, h2⟩ := List.of_mem_zip (show (q.1, q.2) ∈ (planK rs n).zip ((planK rs m).map (shiftK n)) from hq)
  refine ⟨⟨o.1, fun i e => ?_⟩, ⟨o.2, fun i e => ?_⟩⟩
  · obtain ⟨x, hx, ex⟩ := List.mem_map.mp h1
    rcases plan_plain hf x hx with ⟨j, rfl, j0, _⟩ | ⟨c, rfl, _⟩
    · rw [← ex] at e
      rw [← Sum.inl.inj e]
      exact j0
    · rw [← ex] at e
      cases e
  · obtain ⟨y, hy, ey⟩ := List.mem_map.mp h2
    obtain ⟨x, hx, ex⟩ := List.mem_map.mp hy
    rcases plan_plain hf x hx with ⟨j, rfl, j0, _⟩ | ⟨c, rfl, _⟩
    · rw [← ey, ← ex] at e
      have e : (n : Int) + j = i := Sum.inl.inj e
      omega
    · rw [← ey, ← ex] at e
      cases e
theorem ky_isa {K : PySem.W.Frag} {H : Hp} {n : Nat} {k : Key} {v : V} (h : KyAt H n k v) : Isa K H v "str" (isSt k) := by
  cases k with
  | inl i =>
    obtain ⟨t, rfl, ht⟩ := h
    exact ⟨_, .base (.tup ht), kit_ty (show kitB "tuple" "str" = some false by decide +kernel)⟩
  | inr z =>
    rw [show v = .str z from h]
    exact ⟨_, .base (.str z), kit_ty (show kitB "str" "str" = some true by decide +kernel)⟩
theorem marks_vals {H : Hp} {n : Nat} : ∀ {qs : List (Key × V)}, (∀ q ∈ qs, KyAt H n q.1 q.2) → (qs.filter fun q => isSt q.1).map (·.2) = (marksG (kk qs)).map V.str
  | [], _ => rfl
  | (k, v) :: qs, h => by
    have i := marks_vals fun r hr => h r (List.mem_cons_of_mem _ hr)
    have hk := h (k, v) (List.mem_cons_self ..)
    cases k with
    | inl j => exact i
    | inr z =>
      have hk : v = .str z := hk
      subst hk
      show V.str z :: (qs.filter fun q => isSt q.1).map (·.2) = V.str z :: (marksG (kk qs)).map V.str
      rw [i]
theorem marksG_len {qs : List (Key × V)} : (marksG (kk qs)).length ≤ qs.length := by
  unfold marksG kk
  refine Nat.le_trans (List.length_filterMap_le ..) ?_
  rw [List.length_map]
  exact Nat.le_refl _
/-- one group written onto the text: js its marks, j of its keys -/
def Paint (g : List Key) (js fs : List Str) (n : Nat) (fs' : List Str) : Prop := fs'.length = n ∧ ∀ p, p < n → (∃ z, js = [z] ∧ Sum.inl (p : Int) ∈ g ∧ fs'[p]? = some z) ∨ ((js.length ≠ 1 ∨ Sum.inl (p : Int) ∉ g) ∧ fs'[p]? = fs[p]?)
theorem Paint.skip {g : List Key} {js fs fs' : List Str} {n : Nat} {k : Key} (h : Paint g js fs n fs') (no : js.length ≠ 1 ∨ ∀ p : Nat, p < n → k ≠ .inl (p : Int)) : Paint (g ++ [k]) js fs n fs' := by
  refine ⟨h.1, fun p hp => ?_⟩
  rcases h.2 p hp with ⟨z, e, m, q⟩ | ⟨o, q⟩
  · exact .inl ⟨z, e, List.mem_append_left _ m, q⟩
  · refine .inr ⟨?_, q⟩
    rcases no with no | no
    · exact .inl no
    · rcases o with o | o
      · exact .inl o
      · refine .inr fun m => ?_
        rcases List.mem_append.mp m with m | m
        · exact o m
        · exact no p hp (List.mem_singleton.mp m).symm
theorem Paint.put {g : List Key} {z : Str} {fs fs' : List Str} {n p : Nat} (h : Paint g [z] fs n fs') (hp : p < n) : Paint (g ++ [.inl (p : Int)]) [z] fs n (fs'.set p z) := by
  refine ⟨by rw [List.length_set]; exact h.1, fun q hq => ?_⟩
  by_cases e : p = q
  · subst e
    refine .inl ⟨z, rfl, List.mem_append_right _ (List.mem_singleton.mpr rfl), ?_⟩
    rw [List.getElem?_set, if_pos rfl, if_pos (by rw [h.1]; exact hp)]
  · rw [List.getElem?_set, if_neg e]
    rcases h.2 q hq with ⟨y, e1, m, e2⟩ | ⟨o, e2⟩
    · exact .inl ⟨y, e1, List.mem_append_left _ m, e2⟩
    · refine .inr ⟨?_, e2⟩
      rcases o with o | o
      · exact .inl o
      · refine .inr fun m => ?_
        rcases List.mem_append.mp m with m | m
        · exact o m
        · have := Sum.inl.inj (List.mem_singleton.mp m)
          omega
theorem su_two {js : List Str} (h : SU js) (l : 1 < js.length) : ∃ y ∈ js, ∃ z ∈ js, y ≠ z := by
  match js, h, l with
  | y :: z :: r, h, _ =>
    have a := (List.pairwise_cons.mp h).1 z (List.mem_cons_self ..)
    exact ⟨y, List.mem_cons_self .., z, List.mem_cons_of_mem _ (List.mem_cons_self ..), fun e => by
      rw [e] at a
      exact absurd a (List.lt_irrefl _)⟩
theorem FoundI.next {gs : List (List Key)} {g : List Key} {js fs fs' : List Str} {n : Nat} (dis : ∀ h ∈ gs, ∀ k, k ∈ h → k ∈ g → ∀ l, l ∈ h → l ∈ g) (f : FoundI gs n fs) (mj : ∀ z, z ∈ js ↔ z ∈ marksG g) (l1 : js.length ≤ 1) (P : Paint g js fs n fs') : FoundI (gs ++ [g]) n fs' := by
  have j0 : js.length ≠ 1 → js = [] := fun h => List.length_eq_zero_iff.mp (by omega)
  refine ⟨P.1, fun p hp h hh m z hz => ?_, fun p hp all => ?_⟩
  · rcases P.2 p hp with ⟨z0, e, m0, q⟩ | ⟨o, q⟩
    · have zz : z ∈ marksG g := by
        rcases List.mem_append.mp hh with hh | hh
        · exact mem_marks.mpr (dis h hh _ m m0 _ (mem_marks.mp hz))
        · rw [← List.mem_singleton.mp hh]
          exact hz
      have := (mj z).mpr zz
      rw [e] at this
      rw [List.mem_singleton.mp this]
      exact q
    · rw [q]
      rcases List.mem_append.mp hh with hh | hh
      · exact f.sg p hp h hh m z hz
      · rw [List.mem_singleton.mp hh] at m hz
        rcases o with o | o
        · have := (mj z).mpr hz
          rw [j0 o] at this
          cases this
        · exact absurd m o
  · rcases P.2 p hp with ⟨z0, e, m0, q⟩ | ⟨_, q⟩
    · have e2 := all g (List.mem_append_right _ (List.mem_singleton.mpr rfl)) m0
      have := (mj z0).mp (by rw [e]; exact List.mem_singleton.mpr rfl)
      rw [e2] at this
      cases this
    · rw [q]
      exact f.dt p hp fun h hh m => all h (List.mem_append_left _ hh) m
theorem dots_found (n : Nat) : FoundI [] n (List.replicate n (one 46)) := ⟨List.length_replicate .., (fun p hp g hg => by cases hg), fun p hp _ => by rw [List.getElem?_replicate, if_pos hp]⟩
end Gu
namespace Gu
open PySem PySem.Spec PyProof.Rows L2
/-! ### _law_least_like -/
def oS : Option Str → V
  | some y => .str y
  | none => .non
theorem ixN_natL {n q : Nat} (h : q < n) : ixN n (q : Int) = some q := by
  unfold ixN
  rw [if_pos (by omega), if_pos (by omega), Int.toNat_natCast]
section
variable {P : Program} {w : World} {K : PySem.W.Frag} {mg : Str → Option Value} {base : Heap}
def spLikeL : Sp := fun vs H Q _ => ∃ (D : Addr) (ps : List (Addr × Rec)) (n m : Nat), vs = [.ref D, .int (n : Int), .int (m : Int)] ∧ ToldsAt H D ps ∧ n ≤ 130 ∧ m ≤ 130 ∧ ∀ (G : Hp), Same H G → Q (oS (likeS (ps.map (·.2)) n m)) G
set_option maxHeartbeats 2000000 in
theorem cal_likeL (B : Bi mg) (D : At K mg "_law_least_like" s_law_least_like ps_law_least_like) (C_law_cut : Cal P w K mg base 1 "_law_cut" ps_law_cut spCut) (C_law_joined : Cal P w K mg base 1 "_law_joined" ps_law_joined spJoinG) : Cal P w K mg base 2 "_law_least_like" ps_law_least_like spLikeL := by
  refine D.cal sc_law_least_like (fun vs H Q E h => ?_) (fun f cdv A outer s H vs Q E hr h => ?_)
  · obtain ⟨_, _, _, _, rfl, _⟩ := h
    rfl
  · obtain ⟨D, ps, n, m, rfl, hT, hn, hm, k⟩ := h
    refine ⟨_, (pss_cons (ps_par3 (i := 3) (j := 4) (l := 5) (by rfl) sc_law_least_like.nd rfl rfl rfl (by decide) (by decide) (by decide) rfl rfl rfl (pa_cons (pe_own C_law_cut hr (by decide) (by rfl) (pa_cons (pv 0) (pa_cons (pe_listRg (by rfl) (by rfl) B.list (prg_1 (by rfl) B.range (pv 1))) pa_nil))) (pa_cons (pe_own C_law_cut hr (by decide) (by rfl) (pa_cons (pv 0) (pa_cons (pe_listRg (by rfl) (by rfl) B.list (prg_1 (by rfl) B.range (pv 2))) pa_nil))) (pa_cons (pe_lst pa_nil) pa_nil))) (by rfl))
      (pss_cons (ps_if (pt_cmpR op_ne (pe_callB call_len (by rfl) B.len (by decide +kernel) (pa_cons (pv 3) pa_nil)) (pe_callB call_len (by rfl) B.len (by decide +kernel) (pa_cons (pv 4) pa_nil)) (nomark _)) (pss_one (ps_ret pe_non)) pss_nil)
      (pss_cons (ps_for PassesOwn.never rfl (RZ.pi_zipA (by rfl) B.zip (pa_cons (pv 3) (pa_cons (pv 4) pa_nil))) (pg_tup rfl (pgs_cons (pg_name (i := 6) sc_law_least_like.nd rfl (.inl rfl)) (pgs_cons (pg_name (i := 7) sc_law_least_like.nd rfl (.inl rfl)) pgs_nil)))
      (pss_cons (ps_par (i := 8) (j := 9) (by rfl) sc_law_least_like.nd rfl rfl (by decide) rfl rfl (pa_cons (pe_mid (pe_ifExp (pt_val (pe_callB (id := "isinstance") (r := rIsi K) call_isi (by rfl) B.isinstance (by decide +kernel) (pa_cons (pv 6) (pa_cons (pe_bltn (v := .ty "str") (by rfl) B.str (by decide +kernel) rfl) pa_nil)))) (pv 6) (pe_tup (pa_cons pe_str (pa_cons (pv 6) pa_nil))))) (pa_cons (pe_mid (pe_ifExp (pt_val (pe_callB (id := "isinstance") (r := rIsi K) call_isi (by rfl) B.isinstance (by decide +kernel) (pa_cons (pv 7) (pa_cons (pe_bltn (v := .ty "str") (by rfl) B.str (by decide +kernel) rfl) pa_nil)))) (pv 7) (pe_tup (pa_cons pe_str (pa_cons (pv 7) pa_nil))))) pa_nil)) (by rfl))
      (pss_one (ps_set (i := 5) sc_law_least_like.nd rfl (.inl rfl) (pe_own C_law_joined hr (by decide) (by rfl) (pa_cons (pv 5) (pa_cons (pv 8) (pa_cons (pv 9) pa_nil))))))))
      (pss_cons (ps_set (i := 10) sc_law_least_like.nd rfl (.inl rfl) (pe_op op_rep (pe_lst (pa_cons pe_str pa_nil)) (pv 1)))
      (pss_cons (ps_for PassesOwn.never rfl (pi_list (pv 5)) (pg_name (i := 11) sc_law_least_like.nd rfl (.inl rfl))
      (pss_cons (ps_set (i := 12) sc_law_least_like.nd rfl (.inl rfl) (pe_sortSetK (K := K) (by rfl) (by rfl) B.sorted (by rfl) B.set (pe_lc (own := [("_law_key", 13)]) (by rfl) sc_law_least_like.nd (pi_list (pv 11)) (blkOk_by (own := [("_law_key", 13)]) (N := ["_law_tolds", "_law_many", "_law_fewer", "_law_one", "_law_two", "_law_sets_here", "_law_a", "_law_b", "_law_first", "_law_second_here", "_law_found", "_law_group", "_law_marks", "_law_key"]) (sc := defScope s_law_least_like) (by decide +kernel)) (fun _ _ _ _ _ => pg_name (i := 13) sc_law_least_like.nd rfl (.inl rfl)) (fun _ _ _ _ _ => (pts_one (pt_val (pe_callB (id := "isinstance") (r := rIsi K) call_isi (by rfl) B.isinstance (by decide +kernel) (pa_cons (pv 13) (pa_cons (pe_bltn (v := .ty "str") (by rfl) B.str (by decide +kernel) rfl) pa_nil)))))) (fun _ _ _ _ _ => (pv 13)))))
      (pss_cons (ps_if (pt_cmpR op_gt (pe_callB call_len (by rfl) B.len (by decide +kernel) (pa_cons (pv 12) pa_nil)) pe_int (nomark _)) (pss_one (ps_ret pe_non)) pss_nil)
      (pss_one (ps_for PassesOwn.never rfl (pi_list (pv 11)) (pg_name (i := 13) sc_law_least_like.nd rfl (.inl rfl))
      (pss_one (ps_if (PW.pt (pw_and (pt_not (pt_val (pe_callB (id := "isinstance") (r := rIsi K) call_isi (by rfl) B.isinstance (by decide +kernel) (pa_cons (pv 13) (pa_cons (pe_bltn (v := .ty "str") (by rfl) B.str (by decide +kernel) rfl) pa_nil))))) (pw_and (pt_cmpR op_eq (pe_ix ix_tup (pv 13) pe_int (fun _ _ => rfl)) pe_str (nomark _)) (pw_and1 (pt_cmpR op_eq (pe_callB call_len (by rfl) B.len (by decide +kernel) (pa_cons (pv 12) pa_nil)) pe_int (nomark _)))))) (pss_one (ps_asg (pe_ix ix_list (pv 12) pe_int (fun _ _ => rfl)) (pg_sub (pv 10) (pe_ix ix_tup (pv 13) pe_int (fun _ _ => rfl)) set_list))) pss_nil)))))))
      (pss_one (ps_ret (pe_join pe_str (pv 10))))))))), ?_⟩
    obtain ⟨rr, hrr⟩ : ∃ rr, rr = ps.map (·.2) := ⟨_, rfl⟩
    have hf : ∀ r ∈ rr, r.fit := fun r hr => by
      rw [hrr] at hr
      obtain ⟨q, hq, rfl⟩ := List.mem_map.mp hr
      exact (hT.tp q hq).2.fit
    rw [← hrr] at k
    have pn := plan_len hf (n := n) (by omega)
    have pm := plan_len hf (n := m) (by omega)
    refine ⟨_, rfl, _, rfl, _, rfl, RgOk.of_le (by omega) (by omega) (by omega) (by omega), fun X1 nX1 => ?_⟩
    have s1 : Same H (upd H X1 (.lst (rgV 0 (n : Int)))) := same_new nX1
    have e1 : upd H X1 (.lst (rgV 0 (n : Int))) X1 = some (.lst (rgV 0 (n : Int))) := upd_same
    generalize upd H X1 (.lst (rgV 0 (n : Int))) = G1 at s1 e1
    refine ⟨D, X1, ps, _, rfl, hT.same s1, e1, by rw [rg_len]; omega, fun U1 G2 s2 f1 => ?_⟩
    rw [← hrr] at f1
    have f1 : G2 U1 = some (.lst (planV rr n)) := f1
    have s12 := s1.trans s2
    refine ⟨_, rfl, _, rfl, _, rfl, RgOk.of_le (by omega) (by omega) (by omega) (by omega), fun X2 nX2 => ?_⟩
    have s3 : Same G2 (upd G2 X2 (.lst (rgV 0 (m : Int)))) := same_new nX2
    have e3 : upd G2 X2 (.lst (rgV 0 (m : Int))) X2 = some (.lst (rgV 0 (m : Int))) := upd_same
    generalize upd G2 X2 (.lst (rgV 0 (m : Int))) = G3 at s3 e3
    refine ⟨D, X2, ps, _, rfl, hT.same (s12.trans s3), e3, by rw [rg_len]; omega, fun U2 G4 s4 f2 => ?_⟩
    rw [← hrr] at f2
    have f2 : G4 U2 = some (.lst (planV rr m)) := f2
    have f1 : G4 U1 = some (.lst (planV rr n)) := (s3.trans s4) _ _ f1
    have s14 := s12.trans (s3.trans s4)
    clear s1 s2 s3 s4 e1 e3 s12 nX1 nX2
    refine ⟨by decide, fun S0 nS0 => ?_⟩
    have s5 : Same G4 (upd G4 S0 (.lst [])) := same_new nS0
    have e5 : upd G4 S0 (.lst []) S0 = some (.lst []) := upd_same
    generalize upd G4 S0 (.lst []) = G5 at s5 e5
    have f1 := s5 _ _ f1
    have f2 := s5 _ _ f2
    have s15 := s14.trans s5
    clear s5 s14 nS0
    refine ⟨_, _, _, rfl, ?_⟩
    refine ⟨_, rfl, _, _, rfl, .inl ⟨_, .inl (.inl f1), rfl⟩, _, rfl, _, _, rfl, .inl ⟨_, .inl (.inl f2), rfl⟩, rfl, _, rfl, ?_⟩
    by_cases l : (planV rr n).length = (planV rr m).length
    · rw [decide_eq_true (show V.int ((planV rr n).length : Int) = V.int ((planV rr m).length : Int) by rw [l])]
      have ek : likeS rr n m = (joinL [] (pairsK rr n m)).map fun ls => strOf (txL ls 0 n) := by
        unfold likeS
        rw [if_pos l]
      rw [ek] at k
      refine iteF ?_
      have lk : ∀ j, (planK rr j).length = (planV rr j).length := fun j => List.length_map ..
      have lp : (pairsK rr n m).length = (planV rr n).length := by
        unfold pairsK
        rw [List.length_zip, List.length_map, lk, lk]
        omega
      have po := pairs_one hf n m
      refine ⟨_, rfl, _, rfl, U1, U2, _, _, rfl, .inl ⟨.inl (.inl f1), .inl (.inl f2), RZ.for_zipL (K := K) l (fun i σ J => ∃ (S : Addr) (gs : List Grp) (o6 o7 o8 o9 : Option V), σ = [some (.ref D), some (.int (n : Int)), some (.int (m : Int)), some (.ref U1), some (.ref U2), some (.ref S), o6, o7, o8, o9, none, none, none, none] ∧ Same G5 J ∧ GsAt J n S gs ∧ kks gs = joinGs [] ((pairsK rr n m).take i))
        ⟨S0, [], none, none, none, none, rfl, Same.refl _, ⟨e5, fun g hg => by cases hg⟩, rfl⟩ (fun i σ J ⟨_, _, _, _, _, _, _, sJ, _⟩ => ⟨.inl (.inl (sJ _ _ f1)), .inl (.inl (sJ _ _ f2))⟩) ?_ ?_⟩⟩
      · rintro i x y T σ J hx hy ⟨S, gs, o6, o7, o8, o9, rfl, sJ, gS, kS⟩ nT
        have mx := List.mem_of_getElem? hx
        have my := List.mem_of_getElem? hy
        have px := plan_plain hf x mx
        have py := plan_plain hf y my
        obtain ⟨a, ea⟩ : ∃ a, a = toK x := ⟨_, rfl⟩
        obtain ⟨b, eb⟩ : ∃ b, b = toK y := ⟨_, rfl⟩
        have exa : kV a = x := by rw [ea]; exact kV_toK px
        have eyb : kV b = y := by rw [eb]; exact kV_toK py
        have pr : (pairsK rr n m)[i]? = some (a, shiftK n b) := by
          unfold pairsK planK
          rw [List.getElem?_zip_eq_some, List.getElem?_map, List.getElem?_map, List.getElem?_map, hx, hy, ea, eb]
          exact ⟨rfl, rfl⟩
        clear ea eb
        subst exa eyb
        have oab := po _ (List.mem_of_getElem? pr)
        have s1 : Same J (upd J T (.tup [kV a, kV b])) := same_new nT
        refine ⟨T, _, rfl, .inl (.inl upd_same), rfl, _, _, rfl, _, _, rfl, rfl, ?_⟩
        generalize upd J T (.tup [kV a, kV b]) = J1 at s1
        obtain ⟨t1, i1, i2⟩ := isaK (K := K) (H := J1) a
        refine ⟨fun v G => KyAt G n a v ∧ Same J1 G, ⟨_, rfl, _, _, t1, _, _, rfl, .ty _, i1, i2, _, rfl, ?_⟩, ?_⟩
        · cases a with
          | inr z => exact iteT ⟨_, rfl, rfl, Same.refl _⟩
          | inl j =>
            have jn : j < (n : Int) := by
              rcases px with ⟨j2, e, _, l2⟩ | ⟨c, e, _⟩
              · have e : V.int j = V.int j2 := e
                rw [V.int.inj e]
                exact l2
              · cases e
            refine iteF ⟨_, rfl, by show 2 ≤ sizeLine; decide, fun p np => ⟨⟨p, rfl, ?_⟩, same_new np⟩⟩
            rw [upd_same]
            unfold kTag kNo
            rw [if_pos jn, if_pos jn]
            rfl
        rintro va J2 ⟨kA, s2⟩
        obtain ⟨t2, i3, i4⟩ := isaK (K := K) (H := J2) b
        refine ⟨fun v G => KyAt G n (shiftK n b) v ∧ Same J2 G, ⟨_, rfl, _, _, t2, _, _, rfl, .ty _, i3, i4, _, rfl, ?_⟩, ?_⟩
        · cases b with
          | inr z => exact iteT ⟨_, rfl, rfl, Same.refl _⟩
          | inl j =>
            have j0 : 0 ≤ j := by
              rcases py with ⟨j2, e, l2, _⟩ | ⟨c, e, _⟩
              · have e : V.int j = V.int j2 := e
                rw [V.int.inj e]
                exact l2
              · cases e
            refine iteF ⟨_, rfl, by show 2 ≤ sizeLine; decide, fun p np => ⟨⟨p, rfl, ?_⟩, same_new np⟩⟩
            rw [upd_same]
            unfold kTag kNo
            rw [if_neg (by omega), if_neg (by omega), show (n : Int) + j - n = j by omega]
            rfl
        rintro vb J3 ⟨kB, s3⟩
        refine ⟨_, _, rfl, ?_⟩
        have bd := joinGs_tot ((pairsK rr n m).take i) []
        have ln := List.length_take_le' i (pairsK rr n m)
        have lg : (kks gs).length = gs.length := List.length_map ..
        rw [← kS, tot_nil] at bd
        have l0 : ([] : List (List Key)).length = 0 := rfl
        refine ⟨_, rfl, _, rfl, _, rfl, n, S, gs, a, shiftK n b, va, vb, rfl, gS.same (s1.trans (s2.trans s3)), kA.same s3, kB, by omega, by omega, ?_, oab.1, oab.2, fun U J4 gs' s4 gU kU => ?_⟩
        · rw [kS]
          exact joinGs_all (p := OneK) (fun g hg => by cases hg) fun q hq => po q (List.mem_of_mem_take hq)
        refine ⟨U, gs', _, _, _, _, rfl, sJ.trans (s1.trans (s2.trans (s3.trans s4))), gU, ?_⟩
        rw [kU, kS, List.take_add_one, pr]
        exact (joinGs_snoc _ _ (a, shiftK n b)).symm
      · rintro σ J ⟨S, gs, o6, o7, o8, o9, rfl, sJ, gS, kS⟩
        have kS : kks gs = joinGs [] (pairsK rr n m) := by rw [kS, ← lp, List.take_length]
        have gi : GI (kks gs) (pairsK rr n m) := by
          rw [kS]
          exact GI.all (qs := []) GI.nil
        have okk : ∀ g ∈ kks gs, ∀ k ∈ g, OkK k := by
          rw [kS]
          exact joinGs_all (p := OkK) (fun g hg => by cases hg) (pairs_ok hf n m)
        have bd := joinGs_tot (pairsK rr n m) []
        rw [← kS, tot_nil] at bd
        have l0 : ([] : List (List Key)).length = 0 := rfl
        have lg : (kks gs).length = gs.length := List.length_map ..
        refine ⟨by show 1 ≤ sizeLine; decide, fun L nL => ?_⟩
        have s1 : Same J (upd J L (.lst [.str "."])) := same_new nL
        have e1 : upd J L (.lst [.str "."]) L = some (.lst [.str "."]) := upd_same
        generalize upd J L (.lst [.str "."]) = J1 at s1 e1
        refine ⟨_, rfl, L, _, _, rfl, rfl, e1, by omega, by omega, Nat.le_of_lt (sz17 (by show 1 * (n : Int).toNat ≤ _; omega)), fun F nF => ?_⟩
        have gJ := gS.same s1
        have e2 : upd J1 F (.lst (List.replicate (n : Int).toNat [V.str "."]).flatten) F = some (.lst ((List.replicate n (one 46)).map V.str)) := by
          rw [upd_same, List.flatten_replicate_singleton, Int.toNat_natCast, List.map_replicate]
          rfl
        have s2 : Same J1 (upd J1 F (.lst (List.replicate (n : Int).toNat [V.str "."]).flatten)) := same_new nF
        generalize upd J1 F (.lst (List.replicate (n : Int).toNat [V.str "."]).flatten) = J2 at s2 e2
        have s52 := sJ.trans s1
        have gg : ∀ {i : Nat} {g : Grp}, gs[i]? = some g → (kks gs)[i]? = some (kk g.2) := fun {i g} hg => by
          unfold kks
          rw [List.getElem?_map, hg]
          rfl
        refine ⟨_, rfl, S, rfl, ⟨_, .inl (.inl (s2 _ _ gJ.at_))⟩, for_list (K := K) (a := S) (xs := gs.map fun g => V.ref g.1) (fun i σ J3 => ∃ (o11 o12 o13 : Option V) (fs : List Str), σ = [some (.ref D), some (.int (n : Int)), some (.int (m : Int)), some (.ref U1), some (.ref U2), some (.ref S), o6, o7, o8, o9, some (.ref F), o11, o12, o13] ∧ Same J1 J3 ∧ J3 F = some (.lst (fs.map V.str)) ∧ FoundI ((kks gs).take i) n fs ∧ ∀ g ∈ (kks gs).take i, ∀ y ∈ marksG g, ∀ z ∈ marksG g, y = z)
          ⟨none, none, none, _, rfl, s2, e2, dots_found n, fun g hg => by cases hg⟩ (fun i σ J3 _ ⟨_, _, _, _, _, s3, _⟩ => .inl (.inl (s3 _ _ gJ.at_))) ?_ ?_⟩
        · rintro i v σ J3 hi ⟨o11, o12, o13, fs, rfl, s3, eF, fI, one1⟩
          rw [List.getElem?_map] at hi
          cases hg : gs[i]? with
          | none =>
            rw [hg] at hi
            cases hi
          | some g =>
            rw [hg] at hi
            cases hi
            have mg := List.mem_of_getElem? hg
            have kg := gg hg
            have mk := List.mem_of_getElem? kg
            have gG := (gJ.gr g mg).same s3
            have l2 := tot_mem mk
            have l3 : (kk g.2).length = g.2.length := List.length_map ..
            refine ⟨_, rfl, g.1, rfl, ⟨_, .inl (.inl gG.at_)⟩, fun M nM => lc_list (K := K) (a := g.1) (xs := g.2.map (·.2)) (fun j J4 => J4 M = some (.lst (((g.2.take j).filter fun q => isSt q.1).map (·.2))) ∧ Same J3 J4)
              ⟨upd_same, same_new nM⟩ (fun j J4 _ ⟨_, s4⟩ => .inl (.inl (s4 _ _ gG.at_))) ?_ ?_⟩
            · rintro j v J4 hj ⟨eM, s4⟩
              rw [List.getElem?_map] at hj
              cases hq : g.2[j]? with
              | none =>
                rw [hq] at hj
                cases hj
              | some q =>
                rw [hq] at hj
                cases hj
                have mq := List.mem_of_getElem? hq
                obtain ⟨t1, i1, i2⟩ := ky_isa (K := K) ((gG.ky q mq).same s4)
                exact ⟨rfl, _, rfl, _, _, t1, _, _, rfl, .ty _, i1, i2, _, rfl, ite2 (fun q2 => ⟨_, rfl, flt_yes (f := fun q : Key × V => q.2) (p := fun q : Key × V => isSt q.1) hq eM s4 nM (by omega) q2⟩) (fun q2 => flt_no (f := fun q : Key × V => q.2) (p := fun q : Key × V => isSt q.1) hq eM s4 q2)⟩
            rintro J4 ⟨eM, s4⟩
            have tg : (g.2.map (·.2)).length = g.2.length := List.length_map ..
            rw [tg, List.take_length, marks_vals gG.ky] at eM
            have lm := marksG_len (qs := g.2)
            refine ⟨M, marksG (kk g.2), rfl, .inl (.inl (.inl eM)), by omega, fun p js su mj lj np => ?_⟩
            have s5 : Same J4 (upd J4 p (.lst (js.map V.str))) := same_new np
            have e5 : upd J4 p (.lst (js.map V.str)) p = some (.lst (js.map V.str)) := upd_same
            have npF : p ≠ F := fun e => by
              rw [e, s4 _ _ eF] at np
              cases np
            generalize upd J4 p (.lst (js.map V.str)) = J5 at s5 e5
            have lj2 : (js.map V.str).length = js.length := List.length_map ..
            refine ⟨_, rfl, _, _, rfl, .inl ⟨_, .inl (.inl e5), rfl⟩, _, _, rfl, rfl, _, rfl, ite2 (fun q => ?_) (fun q => ?_)⟩
            · have l1 : 1 < js.length := by
                have := of_decide_eq_true q
                omega
              obtain ⟨y, hy, z, hz, ne⟩ := su_two su l1
              have no : joinL [] (pairsK rr n m) = none := (join_iff _).mpr ((clash_iff gi).mpr ⟨kk g.2, mk, y, (mj y).mp hy, z, (mj z).mp hz, ne⟩)
              rw [no] at k
              exact k _ (s15.trans (s52.trans (s3.trans (s4.trans s5))))
            have l1 : js.length ≤ 1 := by
              rcases Nat.lt_or_ge 1 js.length with h | h
              · exact absurd (decide_eq_true (show (1 : Int) < ((js.map V.str).length : Int) by omega)) q
              · exact h
            have s35 := s4.trans s5
            refine ⟨_, rfl, g.1, rfl, ⟨_, .inl (.inl (s35 _ _ gG.at_))⟩, for_list (K := K) (a := g.1) (xs := g.2.map (·.2)) (fun j σ J6 => ∃ (o13 : Option V) (fs' : List Str), σ = [some (.ref D), some (.int (n : Int)), some (.int (m : Int)), some (.ref U1), some (.ref U2), some (.ref S), o6, o7, o8, o9, some (.ref F), some (.ref g.1), some (.ref p), o13] ∧ Same J1 J6 ∧ J6 p = some (.lst (js.map V.str)) ∧ J6 F = some (.lst (fs'.map V.str)) ∧ Paint ((kk g.2).take j) js fs n fs')
              ⟨_, fs, rfl, s3.trans s35, e5, s35 _ _ eF, fI.len, fun p hp => .inr ⟨.inr (by rw [List.take_zero]; intro h; cases h), rfl⟩⟩ (fun j σ J6 _ ⟨_, _, _, s6, _⟩ => .inl (.inl (s6 _ _ (gJ.gr g mg).at_))) ?_ ?_⟩
            · rintro j v σ J6 hj ⟨o13, fs', rfl, s6, e6, eF6, P6⟩
              rw [List.getElem?_map] at hj
              cases hq : g.2[j]? with
              | none =>
                rw [hq] at hj
                cases hj
              | some q =>
                rw [hq] at hj
                cases hj
                have mq := List.mem_of_getElem? hq
                have kq := ((gJ.gr g mg).ky q mq).same s6
                have tk : (kk g.2).take (j + 1) = (kk g.2).take j ++ [q.1] := by
                  rw [List.take_add_one]
                  unfold kk
                  rw [List.getElem?_map, hq]
                  rfl
                have ok := (okk _ mk q.1 (List.mem_map.mpr ⟨q, mq, rfl⟩)).2
                obtain ⟨t1, i1, i2⟩ := ky_isa (K := K) kq
                obtain ⟨k0, v0⟩ := q
                refine ⟨_, rfl, _, _, t1, _, _, rfl, .ty _, i1, i2, _, rfl, ?_⟩
                cases k0 with
                | inr z =>
                  refine iteF (iteF ⟨_, fs', rfl, s6, e6, eF6, ?_⟩)
                  rw [tk]
                  exact P6.skip (.inr fun p hp e => by cases e)
                | inl i0 =>
                  obtain ⟨t, ev, ht⟩ := kq
                  have ev : v0 = .ref t := ev
                  subst ev
                  obtain ⟨z0, rfl⟩ := Int.eq_ofNat_of_zero_le (ok i0 rfl)
                  refine iteT ⟨_, rfl, t, _, _, _, rfl, rfl, .inl (.inl ht), rfl, rfl, _, rfl, ?_⟩
                  by_cases hz : z0 < n
                  · have et : kTag n ((z0 : Nat) : Int) = "y" := by
                      unfold kTag
                      exact if_pos (by omega)
                    have en : kNo n ((z0 : Nat) : Int) = (z0 : Int) := by
                      unfold kNo
                      exact if_pos (by omega)
                    rw [et, decide_eq_true (show V.str "y" = V.str "y" from rfl)]
                    refine iteT ⟨_, rfl, _, _, rfl, .inl ⟨_, .inl (.inl e6), rfl⟩, rfl, _, rfl, ite2 (fun q1 => ?_) (fun q1 => ?_)⟩
                    · have q2 := V.int.inj (of_decide_eq_true q1)
                      have q3 : js.length = 1 := by omega
                      obtain ⟨z1, rfl⟩ := List.length_eq_one_iff.mp q3
                      rw [en] at ht
                      refine ⟨_, rfl, p, _, _, _, rfl, rfl, .inl (.inl e6), rfl, _, rfl, _, rfl, t, _, _, _, rfl, rfl, .inl (.inl ht), rfl, F, _, _, z0, rfl, rfl, eF6, ixN_natL (by rw [List.length_map, P6.1]; exact hz), ?_⟩
                      refine ⟨_, fs'.set z0 z1, rfl, offT s6 nF, by rw [upd_ne npF]; exact e6, by rw [upd_same, List.map_set], ?_⟩
                      rw [tk]
                      exact P6.put hz
                    · refine ⟨_, fs', rfl, s6, e6, eF6, ?_⟩
                      rw [tk]
                      exact P6.skip (.inl fun q => q1 (decide_eq_true (by rw [lj2, q]; rfl)))
                  · have et : kTag n ((z0 : Nat) : Int) = "x" := by
                      unfold kTag
                      exact if_neg (by omega)
                    rw [et, decide_eq_false (show ¬ V.str "x" = V.str "y" by decide)]
                    refine iteF (iteF ⟨_, fs', rfl, s6, e6, eF6, ?_⟩)
                    rw [tk]
                    exact P6.skip (.inr fun p hp e => by
                      have := Sum.inl.inj e
                      omega)
            · rintro σ J6 ⟨o13, fs', rfl, s6, e6, eF6, P6⟩
              rw [tg, ← l3, List.take_length] at P6
              refine ⟨_, _, _, fs', rfl, s6, eF6, ?_, fun h hh y hy z hz => ?_⟩
              · rw [List.take_add_one, kg]
                exact fI.next (fun h hh k hk hk2 l hl => gi.dis h (List.mem_of_mem_take hh) _ mk k hk hk2 l hl) mj l1 P6
              · rw [List.take_add_one, kg] at hh
                rcases List.mem_append.mp hh with hh | hh
                · exact one1 h hh y hy z hz
                · have e : h = kk g.2 := List.mem_singleton.mp hh
                  rw [e] at hy hz
                  have hy := (mj y).mpr hy
                  have hz := (mj z).mpr hz
                  match js, l1, hy, hz with
                  | [x], _, hy, hz => rw [List.mem_singleton.mp hy, List.mem_singleton.mp hz]
        · rintro σ J3 ⟨o11, o12, o13, fs, rfl, s3, eF, fI, one1⟩
          have lgs : (gs.map fun g => V.ref g.1).length = (kks gs).length := by
            rw [List.length_map, lg]
          rw [lgs, List.take_length] at fI one1
          cases ej : joinL [] (pairsK rr n m) with
          | none =>
            obtain ⟨g, hg, y, hy, z, hz, ne⟩ := (clash_iff gi).mp ((join_iff _).mp ej)
            exact absurd (one1 g hg y hy z hz) ne
          | some ms =>
            rw [ej] at k
            have ft := fI.text gi ej po
            have el : (fs.map (·.length)).sum = n := by rw [ft, ones_len, txL_len]
            have ez : ("" : Str).length = 0 := rfl
            refine ⟨⟨_, rfl⟩, _, rfl, "", F, fs, rfl, rfl, .inl (.inl (.inl eF)), by rw [el, ez]; omega, ?_⟩
            have ew : Txt.join "" fs = strOf (txL ms 0 n) := str_ext (by rw [ft, tjoin_ones]; rfl)
            rw [ew]
            exact k _ (s15.trans (s52.trans s3))
    · rw [decide_eq_false (fun q => l (by have := V.int.inj q; omega))]
      unfold likeS at k
      rw [if_neg l] at k
      exact iteT (k _ s15)
end
end Gu
namespace Gu
open PySem PySem.Spec PyProof.Rows L2
/-! ### _law_second -/
theorem strs_eqv : ∀ ss : List Str, PyData.eqv (.list (ss.map PyData.str)) (.list []) = decide (ss = [])
  | [] => by simp [PyData.eqv, PyData.eqvAll]
  | s :: ss => by simp [PyData.eqv, PyData.eqvAll]
theorem dp_strs {K : PySem.W.Frag} {H : Hp} : ∀ ss : List Str, DpAll K H (ss.map V.str) (ss.map PyData.str)
  | [] => .nil
  | s :: ss => .cons (.str s) (dp_strs ss)
theorem lay_strs : ∀ {ss : List Str}, (∀ s ∈ ss, Signs s.cps.toList) → PyData.canLayAll0 (ss.map PyData.str) = true ∧ PyData.depthAll (ss.map PyData.str) ≤ 0
  | [], _ => ⟨by simp [PyData.canLayAll0], by simp [PyData.depthAll]⟩
  | s :: ss, h => by
    obtain ⟨a, b⟩ := lay_strs fun t ht => h t (List.mem_cons_of_mem _ ht)
    have c := signs_ok (h s (List.mem_cons_self ..))
    refine ⟨by simp only [List.map_cons, PyData.canLayAll0, a, c, Bool.and_self], ?_⟩
    simp only [List.map_cons, PyData.depthAll, PyData.depth]
    omega
theorem shaped_strs {ss : List Str} (h : ∀ s ∈ ss, Signs s.cps.toList) : SeqAt.shaped (.list (ss.map PyData.str)) = true := by
  obtain ⟨a, b⟩ := lay_strs h
  show ((PyData.list (ss.map PyData.str)).canLay0 && decide ((PyData.list (ss.map PyData.str)).depth ≤ 64)) = true
  have c : (PyData.list (ss.map PyData.str)).depth ≤ 1 := by
    simp only [PyData.depth]
    omega
  have d : (PyData.list (ss.map PyData.str)).canLay0 = true := by simp only [PyData.canLay0, a]
  rw [d, decide_eq_true (by omega)]
  rfl
theorem ne_strs {K : PySem.W.Frag} {H : Hp} {a b : Addr} {ss : List Str} {Q : VK} (ha : SqL K H a (ss.map V.str)) (hb : SqL K H b []) (h : ∀ s ∈ ss, Signs s.cps.toList) (q : Q (.bl (!decide (ss = []))) H) : rNeD K (.ref a) (.ref b) H Q :=
  ⟨_, _, .lst ha (dp_strs ss), .lst hb .nil, shaped_strs h, by decide, by rw [strs_eqv]; exact q⟩
section
variable {P : Program} {w : World} {K : PySem.W.Frag} {mg : Str → Option Value} {base : Heap}
def spSecondL : Sp := fun vs H Q _ => ∃ (D : Addr) (ps : List (Addr × Rec)), vs = [.ref D] ∧ ToldsAt H D ps ∧ 1 ≤ ps.length ∧ ∀ (G : Hp) (n : Nat), Same H G → confL (ps.map (·.2)) n ≠ [] → (∀ m, m < n → confL (ps.map (·.2)) m = []) → Q (.str (minS (confL (ps.map (·.2)) n))) G
set_option maxHeartbeats 2000000 in
theorem cal_secondL (B : Bi mg) (D : At K mg "_law_second" s_law_second ps_law_second) (C_law_cut : Cal P w K mg base 1 "_law_cut" ps_law_cut spCut) (C_law_least_like : Cal P w K mg base 2 "_law_least_like" ps_law_least_like spLikeL) : Cal P w K mg base 3 "_law_second" ps_law_second spSecondL := by
  refine D.cal sc_law_second (fun vs H Q E h => ?_) (fun f cdv A outer s H vs Q E hr h => ?_)
  · obtain ⟨_, _, rfl, _⟩ := h
    rfl
  · obtain ⟨D, ps, rfl, hT, hp, k⟩ := h
    refine ⟨_, (pss_cons (ps_for PassesOwn.never rfl (pi_range1 (by rfl) B.range (pa_cons pe_int pa_nil)) (pg_name (i := 1) sc_law_second.nd rfl (.inr rfl))
      (pss_cons (ps_setLc (i := 2) (own := [("_law_fewer", 6)]) (by rfl) sc_law_second.nd rfl rfl (sw_true rfl rfl rfl (by decide +kernel)) (pi_range1 (by rfl) B.range (pa_cons (pv 1) pa_nil)) (blkOk_by (own := [("_law_fewer", 6)]) (N := ["_law_tolds", "_law_many", "_law_found", "_law_plan_here", "_law_hidden", "_law_good", "_law_fewer", "_law_at", "_law_line"]) (sc := defScope s_law_second) (by decide +kernel)) (fun _ _ _ _ _ => pg_name (i := 6) sc_law_second.nd rfl (.inl rfl)) (fun _ _ _ _ _ => pts_nil) (fun _ _ _ _ _ => (pe_own C_law_least_like hr (by decide) (by rfl) (pa_cons (pv 0) (pa_cons (pv 1) (pa_cons (pv 6) pa_nil))))))
      (pss_cons (ps_set (i := 3) sc_law_second.nd rfl (.inr rfl) (pe_own C_law_cut hr (by decide) (by rfl) (pa_cons (pv 0) (pa_cons (pe_listRg (by rfl) (by rfl) B.list (prg_1 (by rfl) B.range (pv 1))) pa_nil))))
      (pss_cons (ps_setLc (i := 4) (own := [("_law_at", 7)]) (by rfl) sc_law_second.nd rfl rfl (sw_true rfl rfl rfl (by decide +kernel)) (pi_range1 (by rfl) B.range (pa_cons (pv 1) pa_nil)) (blkOk_by (own := [("_law_at", 7)]) (N := ["_law_tolds", "_law_many", "_law_found", "_law_plan_here", "_law_hidden", "_law_good", "_law_fewer", "_law_at", "_law_line"]) (sc := defScope s_law_second) (by decide +kernel)) (fun _ _ _ _ _ => pg_name (i := 7) sc_law_second.nd rfl (.inl rfl)) (fun _ _ _ _ _ => (pts_one (pt_cmpR (r := rIn K true) op_notIn_seq (pv 7) (pv 3) (by rfl)))) (fun _ _ _ _ _ => (pv 7)))
      (C8.pss_cut (ps_if (pt_cmpR (op_neD hr.units) (pv 4) (pe_lst pa_nil) (nomark _)) (pss_one (ps_expr (pe_bm PySem.F.plainAttrs_list PySem.F.slot_list_append PySem.F.type_list_append mt_append (pv 2) (pa_cons (pe_op op_add_str (pe_op op_add_str (pe_op op_mul_strN pe_str (pe_ix ix_list (pv 4) (pe_un un_neg pe_int) (fun _ _ => rfl))) pe_str) (pe_op op_mul_strN pe_str (pe_op op_sub (pe_op op_sub (pv 1) pe_int) (pe_ix ix_list (pv 4) (pe_un un_neg pe_int) (fun _ _ => rfl))))) pa_nil)))) pss_nil)
      (pss_cons (ps_setLc (i := 5) (own := [("_law_line", 8)]) (by rfl) sc_law_second.nd rfl rfl (sw_true rfl rfl rfl (by decide +kernel)) (pi_list (pv 2)) (blkOk_by (own := [("_law_line", 8)]) (N := ["_law_tolds", "_law_many", "_law_found", "_law_plan_here", "_law_hidden", "_law_good", "_law_fewer", "_law_at", "_law_line"]) (sc := defScope s_law_second) (by decide +kernel)) (fun _ _ _ _ _ => pg_name (i := 8) sc_law_second.nd rfl (.inl rfl)) (fun _ _ _ _ _ => (pts_one (pt_cmpR op_notN (pv 8) pe_non (nomark _)))) (fun _ _ _ _ _ => (pv 8)))
      (pss_one (ps_if (pt_cmpR (op_neD hr.units) (pv 5) (pe_lst pa_nil) (nomark _)) (pss_one (ps_ret (pe_callB (cr_minS rfl) (by rfl) B.min (by decide +kernel) (pa_cons (pv 5) pa_nil)))) pss_nil))))))))
      (pss_one (ps_ret pe_non))), ?_⟩
    obtain ⟨rr, hrr⟩ : ∃ rr, rr = ps.map (·.2) := ⟨_, rfl⟩
    have hf : ∀ r ∈ rr, r.fit := fun r hr => by
      rw [hrr] at hr
      obtain ⟨q, hq, rfl⟩ := List.mem_map.mp hr
      exact (hT.tp q hq).2.fit
    have r1 : 1 ≤ rr.length := by rw [hrr, List.length_map]; exact hp
    rw [← hrr] at k
    refine ⟨131, rfl, by decide, by decide, for_range (lo := 0) (n := 131) (fun i σ J => ∃ o1 o2 o3 o4 o5 o6 o7 o8, σ = [some (.ref D), o1, o2, o3, o4, o5, o6, o7, o8] ∧ Same H J ∧ ∀ m, m < i → confL rr m = []) ⟨_, _, _, _, _, _, _, _, rfl, Same.refl H, fun m hm => by cases hm⟩ ?_ ?_⟩
    · rintro i σ J hi ⟨o1, o2, o3, o4, o5, o6, o7, o8, rfl, sJ, all⟩
      rw [Int.zero_add]
      have hi : i < 131 := hi
      refine ⟨_, rfl, _, rfl, by omega, by omega, fun M nM => lc_range (lo := 0) (n := (i : Int).toNat) (fun j J1 => J1 M = some (.lst (((List.range j).map (likeS rr i)).map oS)) ∧ Same J J1) ⟨upd_same, same_new nM⟩ ?_ ?_⟩
      · rintro j J1 hj ⟨eM, s1⟩
        rw [Int.toNat_natCast] at hj
        rw [Int.zero_add]
        refine ⟨rfl, yes (iteT ⟨_, rfl, _, rfl, _, rfl, D, ps, i, j, rfl, hT.same (sJ.trans s1), by omega, by omega, fun G sG => ?_⟩)⟩
        rw [← hrr]
        refine ⟨_, sG _ _ eM, sz17 (by rw [List.length_map, List.length_map, List.length_range]; omega), ?_, offT (s1.trans sG) nM⟩
        rw [upd_same, List.range_succ, List.map_append, List.map_append]
        rfl
      rintro J1 ⟨eM, s1⟩
      rw [Int.toNat_natCast] at eM
      refine ⟨_, rfl, _, rfl, _, rfl, RgOk.of_le (by omega) (by omega) (by omega) (by omega), fun X2 nX2 => ?_⟩
      have s2 : Same J1 (upd J1 X2 (.lst (rgV 0 (i : Int)))) := same_new nX2
      have e2 : upd J1 X2 (.lst (rgV 0 (i : Int))) X2 = some (.lst (rgV 0 (i : Int))) := upd_same
      generalize upd J1 X2 (.lst (rgV 0 (i : Int))) = J2 at s2 e2
      refine ⟨D, X2, ps, _, rfl, hT.same (sJ.trans (s1.trans s2)), e2, by rw [rg_len]; omega, fun U J3 s3 f3 => ?_⟩
      rw [← hrr] at f3
      have f3 : J3 U = some (.lst (planV rr i)) := f3
      have s13 := s2.trans s3
      have eM := s13 _ _ eM
      have s03 := s1.trans s13
      clear s1 s2 s3 s13 e2 nX2
      have fl : (planV rr i).all flatV = true := by
        rw [← planK_V hf]
        exact flatK _
      refine ⟨_, rfl, _, rfl, by omega, by omega, fun X nX => lc_range (lo := 0) (n := (i : Int).toNat) (fun j J4 => J4 X = some (.lst (natV ((List.range j).filter fun p : Nat => !inV (.int (p : Int)) (planV rr i)))) ∧ Same J3 J4) ⟨upd_same, same_new nX⟩ ?_ ?_⟩
      · rintro j J4 hj ⟨eX, s4⟩
        rw [Int.toNat_natCast] at hj
        rw [Int.zero_add]
        have fll := List.length_filter_le (fun p : Nat => !inV (.int (p : Int)) (planV rr i)) (List.range j)
        rw [List.length_range] at fll
        have nx : ((List.range (j + 1)).filter fun p : Nat => !inV (.int (p : Int)) (planV rr i)) = ((List.range j).filter fun p : Nat => !inV (.int (p : Int)) (planV rr i)) ++ if (!inV (.int (j : Int)) (planV rr i)) = true then [j] else [] := by
          rw [List.range_succ, List.filter_append, List.filter_cons, List.filter_nil]
        refine ⟨rfl, _, rfl, _, rfl, U, _, rfl, .inl (.inl (.inl (s4 _ _ f3))), rfl, fl, _, rfl, ?_⟩
        show if (!inV (V.int (j : Int)) (planV rr i)) = true then _ else _
        refine ite2 (fun q => ?_) (fun q => ?_)
        · refine ⟨_, rfl, _, eX, sz17 (by unfold natV; rw [List.length_map]; omega), ?_, offT s4 nX⟩
          rw [upd_same, nx, if_pos q]
          unfold natV
          rw [List.map_append]
          rfl
        · refine ⟨?_, s4⟩
          rw [nx, if_neg q, List.append_nil]
          exact eX
      rintro J4 ⟨eX, s4⟩
      rw [Int.toNat_natCast] at eX
      have eX : J4 X = some (.lst (natV (hidL rr i))) := eX
      have eM := s4 _ _ eM
      have s04 := s03.trans s4
      refine ⟨fun σ J5 => ∃ os : List (Option Str), σ = [some (.ref D), some (.int (i : Int)), some (.ref M), some (.ref U), some (.ref X), o5, o6, o7, o8] ∧ Same J J5 ∧ J5 M = some (.lst (os.map oS)) ∧ os.filterMap id = confL rr i ∧ os.length ≤ 200, ?_, ?_⟩
      · refine ⟨_, rfl, by show 0 ≤ sizeLine; decide, fun E1 nE1 => ?_⟩
        have sE : Same J4 (upd J4 E1 (.lst [])) := same_new nE1
        have eE : upd J4 E1 (.lst []) E1 = some (.lst []) := upd_same
        generalize upd J4 E1 (.lst []) = J5 at sE eE
        have pl : ∀ x ∈ natV (hidL rr i), Plain i x := fun x hx => by
          obtain ⟨q, hq, rfl⟩ := List.mem_map.mp hx
          have := ((hid_mem hf).mp hq).1
          exact .inl ⟨q, rfl, by omega, by omega⟩
        have eX := sE _ _ eX
        have eM := sE _ _ eM
        have s05 := s04.trans sE
        have mem := fun p => (hid_mem hf (n := i) (p := p)).mp
        have el : ((List.range i).map (likeS rr i)).length = i := by rw [List.length_map, List.length_range]
        refine ne_planL (n := i) (m := 0) (.inl (.inl eX)) (.inl (.inl eE)) pl (fun x hx => by cases hx) ⟨_, rfl, ?_⟩
        have ec : confL rr i = ((List.range i).map (likeS rr i) ++ [likeE rr i]).filterMap id := rfl
        have ee : likeE rr i = (hidL rr i).getLast?.map fun p => strOf (dotp i p) := rfl
        clear pl
        generalize hidL rr i = hs at eX mem ee
        cases g : hs.getLast? with
        | none =>
          rw [List.getLast?_eq_none_iff.mp g]
          rw [g] at ee
          refine iteF ⟨(List.range i).map (likeS rr i), rfl, s05, eM, ?_, by omega⟩
          rw [ec, ee, List.filterMap_append]
          exact (List.append_nil _).symm
        | some p =>
          rw [g] at ee
          obtain ⟨l, rfl⟩ := List.getLast?_eq_some_iff.mp g
          have pn := (mem p (List.mem_append_right _ (List.mem_singleton.mpr rfl))).1
          have lst : atI (natV (l ++ [p])) (-1) = some (.int (p : Int)) := by
            unfold natV
            rw [List.map_append]
            exact atI_last _ _
          have nn : ¬ natV (l ++ [p]) = [] := fun q => by
            unfold natV at q
            rw [List.map_append] at q
            exact absurd (List.append_eq_nil_iff.mp q).2 (by intro z; cases z)
          rw [decide_eq_false nn]
          refine iteT ⟨_, rfl, .inl ⟨rfl, _, .inl (.inl eM)⟩, _, rfl, 1, rfl, X, _, _, _, rfl, rfl, .inl (.inl eX), lst, ".", _, rfl, rfl, by omega, by omega, by decide, fun y1 e1 => ?_⟩
          have e1 : y1.cps.toList = List.replicate p 46 := rep_dot (z := ".") rfl (by rw [Int.toNat_natCast] at e1; exact e1)
          have l1 : y1.length = p := by
            show y1.cps.toList.length = p
            rw [e1, List.length_replicate]
          refine ⟨_, _, rfl, rfl, Nat.le_of_lt (small1000 (by show y1.length + 1 ≤ 1000; omega)), ?_⟩
          refine ⟨_, rfl, _, _, rfl, rfl, _, rfl, 1, rfl, X, _, _, _, rfl, rfl, .inl (.inl eX), lst, _, _, rfl, rfl, ".", _, rfl, rfl, by omega, by omega, by decide, fun y2 e2 => ?_⟩
          have e2 : y2.cps.toList = List.replicate (i - p - 1) 46 := rep_dot (z := ".") rfl (by rw [e2]; congr 2; omega)
          have l2 : y2.length = i - p - 1 := by
            show y2.cps.toList.length = _
            rw [e2, List.length_replicate]
          have l3 : (y1 ++ ("0" : Str)).length = p + 1 := by
            show (y1 ++ ("0" : Str)).cps.toList.length = _
            rw [app_cps, List.length_append, e1, List.length_replicate]
            rfl
          refine ⟨_, _, rfl, rfl, Nat.le_of_lt (small1000 (by omega)), M, _, _, rfl, rfl, eM, sz17 (by rw [List.length_map]; omega), ?_⟩
          have et : y1 ++ ("0" : Str) ++ y2 = strOf (dotp i p) := str_ext (by
            rw [app_cps, app_cps, e1, e2, List.append_assoc]
            rfl)
          rw [et]
          refine ⟨(List.range i).map (likeS rr i) ++ [likeE rr i], rfl, offT s05 nM, ?_, ec.symm, by rw [List.length_append]; show _ + 1 ≤ _; omega⟩
          rw [upd_same, List.map_append, ee]
          rfl
      · rintro σ J5 ⟨os, rfl, s5, eM5, eos, los⟩
        refine ⟨_, rfl, M, rfl, ⟨_, .inl (.inl eM5)⟩, fun Y nY => lc_list (K := K) (a := M) (xs := os.map oS) (fun j J6 => J6 Y = some (.lst (((os.take j).filterMap id).map V.str)) ∧ Same J5 J6) ⟨upd_same, same_new nY⟩ (fun j J6 _ ⟨_, s6⟩ => .inl (.inl (s6 _ _ eM5))) ?_ ?_⟩
        · rintro j v J6 hj ⟨eY, s6⟩
          rw [List.getElem?_map] at hj
          cases ho : os[j]? with
          | none =>
            rw [ho] at hj
            cases hj
          | some o =>
            rw [ho] at hj
            have hj : some (oS o) = some v := hj
            cases hj
            have jl := (List.getElem?_eq_some_iff.mp ho).1
            have tk : (os.take (j + 1)).filterMap id = (os.take j).filterMap id ++ [o].filterMap id := by
              rw [List.take_add_one, ho, List.filterMap_append]
              rfl
            have fl := List.length_filterMap_le id (os.take j)
            rw [List.length_take] at fl
            cases o with
            | none =>
              refine ⟨rfl, _, rfl, rfl, _, rfl, iteNS rfl ?_⟩
              refine ⟨?_, s6⟩
              rw [tk]
              exact eY.trans (by rw [show ([none] : List (Option Str)).filterMap id = [] from rfl, List.append_nil])
            | some y =>
              refine ⟨rfl, _, rfl, rfl, _, rfl, ?_⟩
              refine iteT ⟨_, rfl, _, eY, sz17 (by rw [List.length_map]; omega), ?_, offT s6 nY⟩
              rw [upd_same, tk, List.map_append]
              rfl
        rintro J6 ⟨eY, s6⟩
        rw [List.length_map, List.take_length, eos] at eY
        refine ⟨_, rfl, by show 0 ≤ sizeLine; decide, fun E1 nE1 => ?_⟩
        have sE : Same J6 (upd J6 E1 (.lst [])) := same_new nE1
        have eE : upd J6 E1 (.lst []) E1 = some (.lst []) := upd_same
        generalize upd J6 E1 (.lst []) = J7 at sE eE
        have eY := sE _ _ eY
        have s7 := s5.trans (s6.trans sE)
        refine ne_strs (.inl (.inl eY)) (.inl (.inl eE)) (fun s hs => (conf_ok hf hs).sg) ⟨_, rfl, ?_⟩
        by_cases e : confL rr i = []
        · rw [decide_eq_true e]
          refine iteF ⟨_, _, _, _, _, _, _, _, rfl, sJ.trans s7, fun m hm => ?_⟩
          rcases Nat.lt_or_ge m i with h | h
          · exact all m h
          · rw [show m = i by omega]
            exact e
        · rw [decide_eq_false e]
          exact iteT ⟨_, rfl, Y, confL rr i, rfl, .inl (.inl eY), e, k _ i (sJ.trans s7) e all⟩
    · rintro σ J ⟨o1, o2, o3, o4, o5, o6, o7, o8, rfl, sJ, all⟩
      exact absurd (all 84 (by decide)) (conf_84 hf r1)
end
end Gu
namespace Gu
open PySem PySem.Spec PyProof.Rows L2
theorem same_size {ps rs : List (Addr × Rec)} (e : rs.map (·.2) = ps.map (·.2)) : rs.length = ps.length := by
  have := congrArg List.length e
  rw [List.length_map, List.length_map] at this
  exact this
theorem wrote_least {n : Nat} {kvs : List (Key × V)} {Pd : List Nat → Prop} (k : Knows n kvs Pd) {cs : List Nat} (l : cs.length = n) (sc : Signs cs) (f : Pd cs) : ¬ cs < wrote kvs 46 n := not_less (by rw [wrote_len, l]) fun i a b ha hb => by
  have il : i < n := by rw [← l]; exact (List.getElem?_eq_some_iff.mp hb).1
  rw [wrote_at il] at ha
  cases e : valV kvs (Sum.inl (i : Int)) with
  | none =>
    rw [sgn_none e] at ha
    have := sign_low (sc b (List.mem_of_getElem? hb))
    have := Option.some.inj ha
    omega
  | some v =>
    obtain ⟨g, rfl, _, _⟩ := k.val e
    rw [sgn_some e] at ha
    have := (k.iff cs l).mp f i g e
    rw [hb] at this
    have h1 := Option.some.inj this
    have h2 := Option.some.inj ha
    omega
theorem PairOf.lt {rs : List Rec} (hf : ∀ r ∈ rs, r.fit) {y z : Str} (h : PairOf rs y z) : y.cps.toList.length ≤ z.cps.toList.length ∧ pairLt (y.length : Int) (z.length : Int) y z = true := by
  have ok := h.ok hf
  obtain ⟨q, kvs, q80, least, kn, ey⟩ := h.lst
  have yl : y.cps.toList.length = q := by rw [ey, wrote_len]
  have qz := least _ rfl
  refine ⟨by omega, ?_⟩
  have l1 : y.length = y.cps.toList.length := rfl
  have l2 : z.length = z.cps.toList.length := rfl
  unfold pairLt
  by_cases e : y.cps.toList.length = z.cps.toList.length
  · rw [if_pos (by rw [l1, l2, e]; exact beq_self_eq_true _), if_neg (by intro w; exact ok.1 (eq_of_beq w))]
    refine decide_eq_true ?_
    have no := wrote_least kn (cs := z.cps.toList) (by omega) (isTxt_signs ok.2.2.2) rfl
    rw [← ey] at no
    exact Decidable.byContradiction fun h => ok.1 (str_ext (List.le_antisymm (as := y.cps.toList) (bs := z.cps.toList) no h))
  · rw [if_neg (by rw [l1, l2]; intro w; have := eq_of_beq w; omega)]
    exact decide_eq_true (by rw [l1, l2]; omega)
end Gu
namespace Gu
open PySem PySem.Spec PyProof.Rows L2
/-! ### (number, text) >= (number, text) -/
def rGeP (K : PySem.W.Frag) : R2 := fun x y H Q => ∃ (a b : Addr) (m n : Int) (u v : Str), x = .ref a ∧ y = .ref b ∧ SqT K H a [.int m, .str u] ∧ SqT K H b [.int n, .str v] ∧ pairLt m n u v = true ∧ Q (.bl false) H
theorem op_geP {X : Cx} (hu : X.A.units < cLine) : OpR X (compareOp .GtE) (rGeP X.K) := by
  intro pins s σ H x y v u Q I rx ry h
  obtain ⟨a, b, m, n, y1, z1, rfl, rfl, ha, hb, lt, q⟩ := h
  cases rx
  cases ry
  obtain ⟨its, r1, p1, _⟩ := I.tuple ha
  obtain ⟨its2, r2, p2, _⟩ := I.tuple hb
  cases r1 with
  | cons a1 r1 =>
    cases r1 with
    | cons a2 r1 =>
      cases r1
      cases r2 with
      | cons b1 r2 =>
        cases r2 with
        | cons b2 r2 =>
          cases r2
          obtain ⟨t1, rfl⟩ := a1
          obtain ⟨t2, rfl⟩ := a2
          obtain ⟨t3, rfl⟩ := b1
          obtain ⟨t4, rfl⟩ := b2
          have R := Ob.RcOp.tuples_ge (A := X.A) (s := s) (e := fun j => if j = 0 then (m == n) else (y1 == z1)) (r := fun j => if j = 0 then decide (n ≤ m) else !decide (y1.cps.toList < z1.cps.toList)) p1 p2 hu (fun j h1 h2 => by
            match j, h1, h2 with
            | 0, _, _ => exact SeqAt.EqAt.int_int _ _ _ _
            | 1, _, _ => exact SeqAt.EqAt.str_str _ _ _ _) (fun j h1 h2 _ => by
            match j, h1, h2 with
            | 0, _, _ => exact Ob.RcOp.ge_int _ _ _ _
            | 1, _, _ => exact fun _ _ _ _ h => PySem.P.ge_str h)
          have e : Ob.lexAt (fun j => if j = 0 then (m == n) else (y1 == z1)) (fun j => if j = 0 then decide (n ≤ m) else !decide (y1.cps.toList < z1.cps.toList)) (decide ((#[Value.int m t1, Value.str y1 t2] : Array Value).size ≥ (#[Value.int n t3, Value.str z1 t4] : Array Value).size)) 0 2 = false := by
            rw [Ob.lexAt_succ, Ob.lexAt_succ, Ob.lexAt_zero]
            show (if (m == n) = true then (if (y1 == z1) = true then true else !decide (y1.cps.toList < z1.cps.toList)) else decide (n ≤ m)) = false
            unfold pairLt at lt
            split at lt
            · next q1 =>
              rw [if_pos q1]
              split at lt
              · cases lt
              · next q2 =>
                rw [if_neg q2, lt]
                rfl
            · next q1 =>
              rw [if_neg q1]
              have := of_decide_eq_true lt
              exact decide_eq_false (by omega)
          exact R X.prog X.w X.xe (EP X pins σ Q) (by
            show EP X pins σ Q (.bool (Ob.lexAt _ _ _ 0 2)) s
            rw [e]
            exact ⟨.bl _, H, I, rfl, q⟩)
section
variable {P : Program} {w : World} {K : PySem.W.Frag} {mg : Str → Option Value} {base : Heap} {C : Addr}
set_option maxHeartbeats 4000000 in
theorem cal_right (B : Bi mg) (D : At K mg "_law_right" s_law_right ps_law_right) (C_law_small : Cal P w K mg base 3 "_law_small" ps_law_small spTolds) (C_law_made : Cal P w K mg base 5 "_law_made" ps_law_made (spMade C)) (C_law_seen : Cal P w K mg base 2 "_law_seen" ps_law_seen spSeen) (C_law_second : Cal P w K mg base 3 "_law_second" ps_law_second spSecondL) (C_least_pair : Cal P w K mg base 7 "least_pair" ps_least_pair (spPairL C)) (CK_least_pair : CalK P w K mg base 7 "least_pair" ["row"] idl (spPairL C)) (C_least_text : Cal P w K mg base 6 "least_text" ps_least_text (spLeast C)) : CalG P w K mg base 8 "_law_right" ps_law_right spRight := by
  refine D.calG sc_law_right (fun vs H Q E h => ?_) (fun f cdv A outer s H vs Q E hr quiet h => ?_)
  · obtain ⟨p, rfl, _⟩ := h
    rfl
  · obtain ⟨p, rfl, hp, k⟩ := h
    refine ⟨_, (pss_cons (ps_for PassesOwn.never rfl (pi_range1 (by rfl) B.range (pa_cons pe_int pa_nil)) (pg_name (i := 1) sc_law_right.nd rfl (.inl rfl))
      (pss_cons (ps_set (i := 2) sc_law_right.nd rfl (.inl rfl) (pe_own C_law_small hr (by decide) (by rfl) (pa_cons (pv 0) pa_nil)))
      (pss_cons (ps_set (i := 3) sc_law_right.nd rfl (.inl rfl) (pe_own C_law_made hr (by decide) (by rfl) (pa_cons (pv 2) pa_nil)))
      (pss_cons (ps_set (i := 4) sc_law_right.nd rfl (.inl rfl) (pe_own C_least_pair hr (by decide) (by rfl) (pa_cons (pv 3) pa_nil)))
      (pss_cons (ps_if (PW.pt (pw_or (pt_cmpR op_ne (pe_callB (call_reprD quiet hr.units) (by rfl) B.repr (by decide +kernel) (pa_cons (pe_kw CK_least_pair hr (by decide) (by rfl) (pk_cons (pv 3) pk_nil)) pa_nil)) (pe_callB (call_reprD quiet hr.units) (by rfl) B.repr (by decide +kernel) (pa_cons (pv 4) pa_nil)) (nomark _)) (pw_or (pt_not (pt_val (pe_callB (id := "isinstance") (r := rIsi K) call_isi (by rfl) B.isinstance (by decide +kernel) (pa_cons (pv 4) (pa_cons (pe_bltn (v := .ty "tuple") (by rfl) B.tuple (by decide +kernel) rfl) pa_nil))))) (pw_or1 (pt_cmpR op_ne (pe_callB call_len (by rfl) B.len (by decide +kernel) (pa_cons (pv 4) pa_nil)) pe_int (nomark _)))))) (pss_one (ps_ret pe_bl)) pss_nil)
      (pss_cons (ps_asg (pv 4) (pg_tup rfl (pgs_cons (pg_name (i := 5) sc_law_right.nd rfl (.inl rfl)) (pgs_cons (pg_name (i := 6) sc_law_right.nd rfl (.inl rfl)) pgs_nil))))
      (pss_cons (ps_if (PW.pt (pw_or (pt_cmpR op_eq (pv 5) (pv 6) (nomark _)) (pw_or (pt_cmpR op_ne (pe_own C_law_seen hr (by decide) (by rfl) (pa_cons (pv 2) (pa_cons (pv 5) pa_nil))) (pe_own C_law_seen hr (by decide) (by rfl) (pa_cons (pv 2) (pa_cons (pv 6) pa_nil))) (nomark _)) (pw_or1 (pt_cmpR op_ne (pv 6) (pe_own C_law_second hr (by decide) (by rfl) (pa_cons (pv 2) pa_nil)) (nomark _)))))) (pss_one (ps_ret pe_bl)) pss_nil)
      (pss_one (ps_if (PW.pt (pw_or (pt_cmpR op_ne (pv 5) (pe_own C_least_text hr (by decide) (by rfl) (pa_cons (pe_tup (pa_cons (pe_tup (pa_cons (pv 3) (pa_cons (pe_own C_law_seen hr (by decide) (by rfl) (pa_cons (pv 2) (pa_cons (pv 6) pa_nil))) pa_nil))) pa_nil)) pa_nil)) (nomark _)) (pw_or1 (pt_cmpR (op_geP (Nat.lt_of_le_of_lt (Nat.le_add_right _ 64) hr.units)) (pe_tup (pa_cons (pe_callB call_len (by rfl) B.len (by decide +kernel) (pa_cons (pv 5) pa_nil)) (pa_cons (pv 5) pa_nil))) (pe_tup (pa_cons (pe_callB call_len (by rfl) B.len (by decide +kernel) (pa_cons (pv 6) pa_nil)) (pa_cons (pv 6) pa_nil))) (nomark _))))) (pss_one (ps_ret pe_bl)) pss_nil)))))))))
      (pss_one (ps_ret pe_bl))), ?_⟩
    refine ⟨2, rfl, by decide, by decide, for_range (lo := 0) (n := 2) (fun i σ J => ∃ a1 a2 a3 a4 a5 a6, σ = [some (.ref p), a1, a2, a3, a4, a5, a6] ∧ Ladled p H J) ⟨none, none, none, none, none, none, rfl, .refl hp⟩ ?_ ?_⟩
    · rintro i σ J hi ⟨a1, a2, a3, a4, a5, a6, rfl, M⟩
      clear hi
      generalize (V.int (0 + (i : Int))) = again
      refine ⟨_, rfl, p, rfl, M.pot, fun D1 G1 ps nD1 t1 nq p1 p4 L1 => ?_⟩
      have M1 := M.trans L1
      refine ⟨_, rfl, D1, ps, rfl, t1, p4, fun R G2 rs nR row er s2 => ?_⟩
      have lr := same_size er
      have t2 := t1.same s2
      have M2 := M1.same s2
      have hf := row.fits
      refine ⟨_, rfl, R, rs, rfl, row, by omega, by omega, fun t y z G3 nt s3 e3 pr => ?_⟩
      have row3 := row.same s3
      have t3 := t2.same s3
      have M3 := M2.same s3
      -- by keyword
      refine ⟨_, rfl, rfl, R, rs, rfl, row3, by omega, by omega, fun t' y' z' G4 nt' s4 e4 pr' => ?_⟩
      obtain ⟨ey, ez⟩ := pr'.one pr
      subst ey ez
      generalize hrr : rs.map (·.2) = rr at pr hf pr'
      have r1 : 1 ≤ rr.length := by rw [← hrr, List.length_map]; omega
      have ok := pr.ok hf
      have lt := pr.lt hf
      have yl0 : y'.cps.toList.length ≤ 200 := by
        have a := isTxt_len ok.2.2.1
        have b : y'.length = y'.cps.toList.length := rfl
        omega
      have zl0 : z'.cps.toList.length ≤ 200 := by
        have a := isTxt_len ok.2.2.2
        have b : z'.length = z'.cps.toList.length := rfl
        omega
      have low : ∀ {x : Str}, isTxt x 200 = true → ∀ c ∈ x.cps.toList, c < 16 ^ 8 := fun {x} hx c hc => by
        have a : ∀ c ∈ signs.cps.toList, c < 16 ^ 8 := by decide +kernel
        exact a c (isTxt_signs hx c hc)
      have fn : Fine 60 100000 (.tuple [.str y', .str z']) := by
        have a : FineAll 0 200 [.str y', .str z'] := FineAll.of fun d hd => by
          rcases List.mem_cons.mp hd with rfl | hd
          · exact Fine.str (low ok.2.2.1) yl0
          · rw [List.mem_singleton.mp hd]
            exact Fine.str (low ok.2.2.2) zl0
        exact a.tup.mono (by decide) (by show 2 * 201 ≤ 100000; decide)
      have e3 := s4 _ _ e3
      have dp : ∀ {q : Addr}, G4 q = some (.tup [.str y', .str z']) → Dp K G4 (.ref q) (.tuple [.str y', .str z']) := fun h => .tup (.inl (.inl h)) (.cons (.str _) (.cons (.str _) .nil))
      refine ⟨t', _, rfl, dp e4, fn, _, rfl, t, _, rfl, dp e3, fn, rfl, _, rfl, iteNS rfl ?_⟩
      refine ⟨_, rfl, _, _, _, _, _, rfl, .ty _, .base (.tup e3), kit_ty (show kitB "tuple" "tuple" = some true by decide +kernel), _, rfl, iteF ?_⟩
      refine ⟨_, rfl, _, _, rfl, .inr ⟨_, .inl (.inl e3), rfl⟩, rfl, _, rfl, iteNS rfl ?_⟩
      refine ⟨_, rfl, t, _, rfl, .inl (.inl e3), rfl, _, _, rfl, _, _, rfl, rfl, ?_⟩
      have row4 := row3.same s4
      have t4 := t3.same s4
      have M4 := M3.same s4
      have ep : ps.map (·.2) = rr := by rw [← er, hrr]
      clear M M1 M2 M3 t1 t2 t3 row row3 L1 s2 s3 s4 e4 nt nt' nR nq nD1 pr' dp fn low
      -- they are shown alike, the second is the law's
      refine ⟨_, rfl, _, rfl, rfl, _, rfl, ?_⟩
      rw [decide_eq_false (show ¬ V.str y' = V.str z' from fun q => ok.1 (V.str.inj q))]
      refine iteF ⟨_, rfl, _, rfl, D1, ps, y', rfl, t4, yl0, fun u1 G5 s5 f1 => ?_⟩
      refine ⟨_, rfl, _, rfl, D1, ps, z', rfl, t4.same s5, zl0, fun u2 G6 s6 f2 => ?_⟩
      have eu : u1 = u2 := str_ext (by rw [f1, f2, ep]; exact ok.2.1)
      subst eu
      refine ⟨rfl, _, rfl, iteNS rfl ?_⟩
      refine ⟨_, rfl, _, rfl, D1, ps, rfl, t4.same (s5.trans s6), p1, fun G7 n s7 ne all => ?_⟩
      rw [ep] at ne all
      rw [ep]
      have ez : minS (confL rr n) = z' := by
        obtain ⟨m, _, h1, h2, h3⟩ := pr.fst
        have e : n = m := by
          rcases Nat.lt_trichotomy n m with h | h | h
          · exact absurd (h2 n h) ne
          · exact h
          · exact absurd (all m h) h1
        rw [h3, e]
      rw [ez]
      refine ⟨rfl, _, rfl, iteNS rfl ?_⟩
      have s47 := s5.trans (s6.trans s7)
      have row7 := row4.same s47
      have t7 := t4.same s47
      have M7 := M4.same s47
      clear row4 t4 M4 s5 s6 s7 s47 f1 f2 ne all ez e3
      -- the first is the least that is shown so
      refine ⟨_, rfl, _, rfl, _, rfl, _, rfl, D1, ps, z', rfl, t7, zl0, fun x G8 s8 f3 => ?_⟩
      rw [ep] at f3
      have xs : Signs x.cps.toList := by
        rw [f3]
        exact cuts_signs _ hf (isTxt_signs ok.2.2.2)
      have xl : x.cps.toList.length ≤ 200 := by
        rw [f3]
        exact cuts_len _ hf zl0
      have xt : isTxt x 200 = true := by
        have e : x.length = x.cps.toList.length := rfl
        unfold isTxt
        rw [decide_eq_true (by omega), Bool.true_and, List.all_eq_true]
        exact fun c hc => decide_eq_true (xs c hc)
      have rl1 : 1 ≤ rs.length := by omega
      have rl4 : rs.length ≤ 4 := by omega
      refine ⟨by show 2 ≤ sizeLine; decide, fun u nu => ?_⟩
      have s9 : Same G8 (upd G8 u (.tup [.ref R, .str x])) := same_new nu
      have e9 : upd G8 u (.tup [.ref R, .str x]) u = some (.tup [.ref R, .str x]) := upd_same
      generalize upd G8 u (.tup [.ref R, .str x]) = G9 at s9 e9
      refine ⟨by show 1 ≤ sizeLine; decide, fun v nv => ?_⟩
      have s10 : Same G9 (upd G9 v (.tup [.ref u])) := same_new nv
      have e10 : upd G9 v (.tup [.ref u]) v = some (.tup [.ref u]) := upd_same
      generalize upd G9 v (.tup [.ref u]) = G10 at s10 e10
      have s710 := s8.trans (s9.trans s10)
      have hV : ViewsAt C G10 v [⟨u, R, rs, x⟩] := ⟨e10, fun q hq => by
        rw [List.mem_singleton.mp hq]
        exact ⟨s10 _ _ e9, row7.same s710, rl1, rl4, xt⟩, Nat.le_refl 1, by show 1 ≤ 4; decide⟩
      have ft : ∀ cs, Fits [⟨u, R, rs, x⟩] cs ↔ cuts rr cs = cuts rr z'.cps.toList := fun cs => by
        rw [← f3, ← hrr]
        exact ⟨fun h => h _ (List.mem_singleton.mpr rfl), fun h q hq => by
          rw [List.mem_singleton.mp hq]
          exact h⟩
      refine ⟨v, [⟨u, R, rs, x⟩], rfl, hV, fun val G11 s11 hl => ?_⟩
      have some80 : ∃ q, q ≤ 80 ∧ Poss [⟨u, R, rs, x⟩] q := by
        have p : Poss [⟨u, R, rs, x⟩] z'.cps.toList.length := ⟨_, rfl, (ft _).mpr rfl⟩
        rcases Nat.lt_or_ge z'.cps.toList.length 80 with h | h
        · exact ⟨_, by omega, p⟩
        · exact ⟨80, Nat.le_refl _, poss_far hV.vw h p⟩
      rcases hl with ⟨_, no⟩ | ⟨q, kvs, yy, rfl, q80, _, low, kn, eyy⟩
      · obtain ⟨q, q80, p⟩ := some80
        have : q ∈ possL [⟨u, R, rs, x⟩] 81 := mem_possL.mpr ⟨by omega, p⟩
        rw [no] at this
        cases this
      have pp : PairOf rr yy z' := ⟨pr.fst, ⟨q, kvs, q80, fun cs hcs => by
        rcases Nat.lt_or_ge cs.length q with h | h
        · exact absurd ⟨cs, rfl, (ft cs).mpr hcs⟩ (low _ h)
        · exact h, kn.imp fun cs _ => ft cs, eyy⟩⟩
      have e11 := (pp.one pr).1
      subst e11
      refine ⟨rfl, _, rfl, iteNS rfl ?_⟩
      have s711 := s710.trans s11
      have M11 := M7.same s711
      have z1 : z'.length = z'.cps.toList.length := rfl
      have y1 : yy.length = yy.cps.toList.length := rfl
      have ys : yy.length ≤ sizeLine := Nat.le_of_lt (small1000 (by omega))
      have zs : z'.length ≤ sizeLine := Nat.le_of_lt (small1000 (by omega))
      refine ⟨_, rfl, _, _, rfl, ⟨ys, rfl⟩, _, rfl, by show 2 ≤ sizeLine; decide, fun x1 n1 => ?_⟩
      have s12 : Same G11 (upd G11 x1 (.tup [.int (yy.length : Int), .str yy])) := same_new n1
      have e12 : upd G11 x1 (.tup [.int (yy.length : Int), .str yy]) x1 = some (.tup [.int (yy.length : Int), .str yy]) := upd_same
      generalize upd G11 x1 (.tup [.int (yy.length : Int), .str yy]) = G12 at s12 e12
      refine ⟨_, rfl, _, _, rfl, ⟨zs, rfl⟩, _, rfl, by show 2 ≤ sizeLine; decide, fun x2 n2 => ?_⟩
      have s13 : Same G12 (upd G12 x2 (.tup [.int (z'.length : Int), .str z'])) := same_new n2
      have e13 : upd G12 x2 (.tup [.int (z'.length : Int), .str z']) x2 = some (.tup [.int (z'.length : Int), .str z']) := upd_same
      generalize upd G12 x2 (.tup [.int (z'.length : Int), .str z']) = G13 at s13 e13
      exact ⟨x1, x2, _, _, _, _, rfl, rfl, .inl (.inl (s13 _ _ e12)), .inl (.inl e13), lt.2, _, rfl, iteF ⟨_, _, _, _, _, _, rfl, M11.same (s12.trans s13)⟩⟩
    · rintro σ J ⟨a1, a2, a3, a4, a5, a6, rfl, M⟩
      exact k J M
end
end Gu
namespace Gu
open PySem PySem.Spec PyProof.Rows L2
section
variable {P : Program} {w : World} {K : PySem.W.Frag} {mg : Str → Option Value} {base : Heap}
/-! ### law -/
def spLaw (K : PySem.W.Frag) : Sp := fun vs H Q _ => ∃ (a : Addr) (ns : List Int), vs = [.ref a] ∧ SqL K H a (ns.map V.int) ∧ ns.length ≤ 63 ∧ ∀ G, Q (.bl true) G
theorem cal_law {n : Nat} (B : Bi mg) {f : Addr} {fd : FuncData} (F : Fun K "law" "law" s_law f fd) (n1 : 1 ≤ n) (C_law_pot : Cal P w K mg base 1 "_law_pot" ps_law_pot (spPot K)) (C_law_right : CalG P w K mg base n "_law_right" ps_law_right spRight) : FnG P w K mg base (n + 1) f fd ps_law (spLaw K) := by
  refine okG F sc_law (fun vs H Q E h => ?_) (fun cdv A outer s H vs Q E hr quiet h => ?_)
  · obtain ⟨a, ns, rfl, _⟩ := h
    rfl
  · obtain ⟨a, ns, rfl, hS, hl, k⟩ := h
    have hk1 := n1
    refine ⟨_, (pss_one (ps_ret (pe_callB (cr_all rfl) (by rfl) B.all (by decide +kernel) (pa_cons (pe_lc (own := [("_law_k", 1)]) (by rfl) sc_law.nd (pi_range1 (by rfl) B.range (pa_cons (pe_callB (call_max2 rfl) (by rfl) B.max (by decide +kernel) (pa_cons pe_int (pa_cons (pe_callB (call_min2 rfl) (by rfl) B.min (by decide +kernel) (pa_cons (pe_callB call_len_seq (by rfl) B.len (by decide +kernel) (pa_cons (pv 0) pa_nil)) (pa_cons pe_int pa_nil))) pa_nil))) pa_nil)) (blkOk_by (own := [("_law_k", 1)]) (N := ["_law_script", "_law_k"]) (sc := defScope s_law) (by decide +kernel)) (fun _ _ _ _ _ => pg_name (i := 1) sc_law.nd rfl (.inl rfl)) (fun _ _ _ _ _ => pts_nil) (fun _ _ _ _ _ => (pe_ownG C_law_right hr (Nat.le_refl _) quiet (by rfl) (pa_cons (pe_own C_law_pot hr hk1 (by rfl) (pa_cons (pv 0) (pa_cons (pv 1) pa_nil))) pa_nil)))) pa_nil)))), ?_⟩
    refine ⟨_, rfl, a, _, rfl, .inl hS, _, _, rfl, _, _, rfl, ?_⟩
    rw [List.length_map]
    generalize hm : (if (4 : Int) < (ns.length : Int) then (4 : Int) else (ns.length : Int)) = m
    have m1 : m ≤ 4 := by rw [← hm]; split <;> omega
    refine ⟨_, rfl, by split <;> omega, by split <;> omega, fun D nD => ?_⟩
    refine lc_range (lo := 0) (n := (if m > (2 : Int) then m else 2).toNat) (fun i J => ∃ bs : List Bool, bs.length = i ∧ bs.all id = true ∧ J D = some (.lst (bs.map V.bl)) ∧ Same H J) ⟨[], rfl, rfl, upd_same, same_new nD⟩ ?_ ?_
    · rintro i J hi ⟨bs, rfl, ha, eD, sJ⟩
      have i5 : bs.length < 5 := by
        revert hi
        split <;> omega
      refine ⟨rfl, yes (iteT ⟨_, rfl, _, rfl, a, bs.length, ns, ?_, sJ.seq hS, by omega, fun p G np hp sG => ?_⟩)⟩
      · rw [Int.zero_add]
        rfl
      · refine ⟨p, rfl, hp, fun G2 L => ?_⟩
        have nDp : D ≠ p := ne_of_none eD np
        have gD : G2 D = some (.lst (bs.map V.bl)) := L.keep _ _ (sG _ _ eD) nDp
        refine ⟨_, gD, small1000 (by rw [List.length_map]; omega), bs ++ [true], by rw [List.length_append]; rfl, by rw [List.all_append, ha]; rfl, ?_, fun b o e => ?_⟩
        · rw [upd_same, List.map_append]
          rfl
        · rw [upd_ne (ne_of_none e nD)]
          exact L.keep _ _ (sG _ _ (sJ _ _ e)) (ne_of_none (sJ _ _ e) np)
    · rintro J ⟨bs, el, ha, eD, sJ⟩
      refine ⟨D, bs, rfl, .inl (.inl eD), ?_⟩
      rw [ha]
      exact k J
end
end Gu
namespace Gu
open PySem PySem.Spec PyProof.Rows L2
theorem at_mk {K : PySem.W.Frag} {h : Heap} {mg : Str → Option Value} {x : Str} {st : Stmt} {ps : List Str} {f : Addr} {oc : Value} {od an : Option Addr} {sl : Array (Option Value)} {kV dc pm cd ct : Value} (X : K.In h) (G : h.Ns mainGlobals mg)
    (hb : ∀ (kV doc pm : Value) (an : Option Addr) (cdv ct : Value) (us : List Value), us.length = ps.length → bindArgs (PySem.W.fnOf x x (defArgs st) (defBody st) (defScope st) .none kV doc pm an cdv ct) ⟨us, []⟩ = pure (ps.zip us))
    (a : PySem.W.nsIn K mainGlobals x = some (some (.ref f))) (l : K.lookup f = some ⟨oc, od, .func (PySem.W.fnOf x x (defArgs st) (defBody st) (defScope st) .none kV dc pm an cd ct), sl⟩) (c : PySem.W.codeIn K cd x = true) (k : PySem.W.keepIn K (.ref f) = true) : At K mg x st ps :=
  ⟨f, _, fun_mk l c k, (fun_mk l c k).binds hb, PySem.W.mg_of X G a⟩
theorem cst_mk {K : PySem.W.Frag} {h : Heap} {mg : Str → Option Value} {x : Str} {v : V} {u : Value} (X : K.In h) (G : h.Ns mainGlobals mg) (r : RelV v u) (a : PySem.W.nsIn K mainGlobals x = some (some u)) : ∃ u, mg x = some u ∧ RelV v u := ⟨u, PySem.W.mg_of X G a, r⟩
end Gu
namespace Gu
open PySem PySem.Spec PyProof.Rows L2
theorem fin {P : Program} {w : World} {K : PySem.W.Frag} {mg : Str → Option Value} {base : Heap} {C f : Addr} {fd : FuncData} (B : Bi mg) (Ss : ShC K mg C) (Is : InitAt K C)
    (A_is_integer : At K mg "is_integer" s_is_integer ps_is_integer) (A_is_tuple : At K mg "is_tuple" s_is_tuple ps_is_tuple) (A_is_text : At K mg "is_text" s_is_text ps_is_text) (A_least_raised_at : At K mg "least_raised_at" s_least_raised_at ps_least_raised_at) (A_check_mark : At K mg "check_mark" s_check_mark ps_check_mark) (A_check_row : At K mg "check_row" s_check_row ps_check_row) (A_shortened : At K mg "shortened" s_shortened ps_shortened) (A_shown_by : At K mg "shown_by" s_shown_by ps_shown_by) (A_planned : At K mg "planned" s_planned ps_planned) (A_telling_lengths : At K mg "telling_lengths" s_telling_lengths ps_telling_lengths) (A_is_row : At K mg "is_row" s_is_row ps_is_row) (A_is_view : At K mg "is_view" s_is_view ps_is_view) (A_check_views : At K mg "check_views" s_check_views ps_check_views) (A_known_signs : At K mg "known_signs" s_known_signs ps_known_signs) (A_written_out : At K mg "written_out" s_written_out ps_written_out) (A_lengths : At K mg "lengths" s_lengths ps_lengths) (A_least_text : At K mg "least_text" s_least_text ps_least_text) (A_leader : At K mg "leader" s_leader ps_leader) (A_joined : At K mg "joined" s_joined ps_joined) (A_like_a_shorter_one : At K mg "like_a_shorter_one" s_like_a_shorter_one ps_like_a_shorter_one) (A_like_an_equally_long_one : At K mg "like_an_equally_long_one" s_like_an_equally_long_one ps_like_an_equally_long_one) (A_confused_texts : At K mg "confused_texts" s_confused_texts ps_confused_texts) (A_least_pair : At K mg "least_pair" s_least_pair ps_least_pair) (A_law_pot : At K mg "_law_pot" s_law_pot ps_law_pot) (A_law_ladle : At K mg "_law_ladle" s_law_ladle ps_law_ladle) (A_law_one_of : At K mg "_law_one_of" s_law_one_of ps_law_one_of) (A_law_made : At K mg "_law_made" s_law_made ps_law_made) (A_law_cut : At K mg "_law_cut" s_law_cut ps_law_cut) (A_law_seen : At K mg "_law_seen" s_law_seen ps_law_seen) (A_law_joined : At K mg "_law_joined" s_law_joined ps_law_joined) (A_law_least_like : At K mg "_law_least_like" s_law_least_like ps_law_least_like) (A_law_second : At K mg "_law_second" s_law_second ps_law_second) (A_law_small : At K mg "_law_small" s_law_small ps_law_small) (A_law_right : At K mg "_law_right" s_law_right ps_law_right)
    (F : Fun K "law" "law" s_law f fd) : FnG P w K mg base 9 f fd ps_law (spLaw K) := by
  have c1 : Cal P w K mg base 1 "_law_ladle" ps_law_ladle spLadle := cal_ladle B A_law_ladle
  have c2 : Cal P w K mg base 2 "_law_one_of" ps_law_one_of (spOneOf K) := cal_oneOf B A_law_one_of c1
  have c5 : Cal P w K mg base 1 "is_integer" ps_is_integer (spIsInteger K) := cal_isInteger B A_is_integer
  have c6 : Cal P w K mg base 1 "is_text" ps_is_text (spIsText K) := cal_isText B A_is_text
  have cmk : Cal P w K mg base 2 "check_mark" ps_check_mark spCheckMark := cal_checkMark B A_check_mark c6
  have m1 : Mak P w K mg base 3 "Shortener" C (spInit C) := mak_sh B Ss Is c5 cmk
  have t1 : Cal P w K mg base 1 "is_tuple" ps_is_tuple (spIsTuple K) := cal_isTuple B A_is_tuple
  have d2 : Cal P w K mg base 1 "shortened" ps_shortened (spShortT C) := cal_shortT B Ss A_shortened
  have d3 : Cal P w K mg base 2 "planned" ps_planned (spPlanned C) := cal_planned B Ss A_planned d2
  have d4 : Cal P w K mg base 1 "telling_lengths" ps_telling_lengths spTelling := cal_telling B A_telling_lengths
  have d9 : Cal P w K mg base 2 "check_row" ps_check_row (spCheckRow C) := cal_checkRow B Ss A_check_row t1
  have c7 : Cal P w K mg base 5 "_law_made" ps_law_made (spMade C) := cal_made B A_law_made m1
  have v1 : Cal P w K mg base 2 "is_row" ps_is_row (spIsRow C) := cal_isRow B Ss A_is_row t1
  have v2 : Cal P w K mg base 3 "is_view" ps_is_view (spIsView C) := cal_isView B A_is_view t1 c6 v1
  have v3 : Cal P w K mg base 4 "check_views" ps_check_views (spCheckViews C) := cal_checkViews B A_check_views t1 v2
  have v5 : Cal P w K mg base 1 "written_out" ps_written_out spWritten := cal_written B A_written_out
  have g2 : Cal P w K mg base 1 "shortened" ps_shortened (spShortS C) := cal_shortS B Ss A_shortened
  have sby : Cal P w K mg base 2 "shown_by" ps_shown_by (spShownBy C) := cal_shownBy B Ss A_shown_by g2
  have v4 : Cal P w K mg base 3 "known_signs" ps_known_signs (spKnown C) := cal_known B A_known_signs d3
  have v8 : Cal P w K mg base 5 "lengths" ps_lengths (spLengths C) := cal_lengths B A_lengths v3 d4 v4
  have v9 : Cal P w K mg base 6 "least_text" ps_least_text (spLeast C) := cal_least B A_least_text v8 v4 v5
  have q1 : Cal P w K mg base 1 "leader" ps_leader spLeader := cal_leader B A_leader
  have q2 : Cal P w K mg base 2 "joined" ps_joined spJoined := cal_joined B A_joined q1
  have q3 : Cal P w K mg base 3 "like_a_shorter_one" ps_like_a_shorter_one (spLikeS C) := cal_likeS B A_like_a_shorter_one d3 q1 q2
  have q4 : Cal P w K mg base 3 "like_an_equally_long_one" ps_like_an_equally_long_one (spLikeE C) := cal_likeE B A_like_an_equally_long_one d3 (cal_raised B A_least_raised_at)
  have q5 : Cal P w K mg base 4 "confused_texts" ps_confused_texts (spConfT C) := cal_confT B A_confused_texts q3 q4
  have q6 : Cal P w K mg base 7 "least_pair" ps_least_pair (spPairL C) := cal_leastPair B A_least_pair d9 q5 sby v9
  have c4 : Cal P w K mg base 3 "_law_small" ps_law_small spTolds := cal_small B A_law_small c1 c2
  have c8 : Cal P w K mg base 1 "_law_cut" ps_law_cut spCut := cal_cut B A_law_cut
  have c9 : Cal P w K mg base 2 "_law_seen" ps_law_seen spSeen := cal_seen B A_law_seen c8
  have j1 : Cal P w K mg base 1 "_law_joined" ps_law_joined spJoinG := cal_joinG B A_law_joined
  have j2 : Cal P w K mg base 2 "_law_least_like" ps_law_least_like spLikeL := cal_likeL B A_law_least_like c8 j1
  have j3 : Cal P w K mg base 3 "_law_second" ps_law_second spSecondL := cal_secondL B A_law_second c8 j2
  have q7 : CalK P w K mg base 7 "least_pair" ["row"] idl (spPairL C) := q6.kw idl A_least_pair (fun r => r) fun _ _ _ _ _ _ ws hl => match ws, hl with | [_], _ => rfl
  have e7 : CalG P w K mg base 8 "_law_right" ps_law_right spRight := cal_right B A_law_right c4 c7 c9 j3 q6 q7 v9
  exact cal_law B F (by decide) (cal_pot B A_law_pot) e7
end Gu
namespace Gu
open PySem PySem.Spec PyProof.Rows L2
set_option maxHeartbeats 0 in
theorem all_mk {l : PySem.W.OpenLaw} {w : World} {K : PySem.W.Frag} {h : Heap} {mg : Str → Option Value} {fa : Addr} {f_is_integer : Addr} {oc_is_integer kV_is_integer dc_is_integer pm_is_integer cd_is_integer ct_is_integer : Value} {od_is_integer an_is_integer : Option Addr} {sl_is_integer : Array (Option Value)} {f_is_tuple : Addr} {oc_is_tuple kV_is_tuple dc_is_tuple pm_is_tuple cd_is_tuple ct_is_tuple : Value} {od_is_tuple an_is_tuple : Option Addr} {sl_is_tuple : Array (Option Value)} {f_is_text : Addr} {oc_is_text kV_is_text dc_is_text pm_is_text cd_is_text ct_is_text : Value} {od_is_text an_is_text : Option Addr} {sl_is_text : Array (Option Value)} {f_least_raised_at : Addr} {oc_least_raised_at kV_least_raised_at dc_least_raised_at pm_least_raised_at cd_least_raised_at ct_least_raised_at : Value} {od_least_raised_at an_least_raised_at : Option Addr} {sl_least_raised_at : Array (Option Value)} {f_check_mark : Addr} {oc_check_mark kV_check_mark dc_check_mark pm_check_mark cd_check_mark ct_check_mark : Value} {od_check_mark an_check_mark : Option Addr} {sl_check_mark : Array (Option Value)} {f_check_row : Addr} {oc_check_row kV_check_row dc_check_row pm_check_row cd_check_row ct_check_row : Value} {od_check_row an_check_row : Option Addr} {sl_check_row : Array (Option Value)} {f_shortened : Addr} {oc_shortened kV_shortened dc_shortened pm_shortened cd_shortened ct_shortened : Value} {od_shortened an_shortened : Option Addr} {sl_shortened : Array (Option Value)} {f_shown_by : Addr} {oc_shown_by kV_shown_by dc_shown_by pm_shown_by cd_shown_by ct_shown_by : Value} {od_shown_by an_shown_by : Option Addr} {sl_shown_by : Array (Option Value)} {f_planned : Addr} {oc_planned kV_planned dc_planned pm_planned cd_planned ct_planned : Value} {od_planned an_planned : Option Addr} {sl_planned : Array (Option Value)} {f_telling_lengths : Addr} {oc_telling_lengths kV_telling_lengths dc_telling_lengths pm_telling_lengths cd_telling_lengths ct_telling_lengths : Value} {od_telling_lengths an_telling_lengths : Option Addr} {sl_telling_lengths : Array (Option Value)} {f_is_row : Addr} {oc_is_row kV_is_row dc_is_row pm_is_row cd_is_row ct_is_row : Value} {od_is_row an_is_row : Option Addr} {sl_is_row : Array (Option Value)} {f_is_view : Addr} {oc_is_view kV_is_view dc_is_view pm_is_view cd_is_view ct_is_view : Value} {od_is_view an_is_view : Option Addr} {sl_is_view : Array (Option Value)} {f_check_views : Addr} {oc_check_views kV_check_views dc_check_views pm_check_views cd_check_views ct_check_views : Value} {od_check_views an_check_views : Option Addr} {sl_check_views : Array (Option Value)} {f_known_signs : Addr} {oc_known_signs kV_known_signs dc_known_signs pm_known_signs cd_known_signs ct_known_signs : Value} {od_known_signs an_known_signs : Option Addr} {sl_known_signs : Array (Option Value)} {f_written_out : Addr} {oc_written_out kV_written_out dc_written_out pm_written_out cd_written_out ct_written_out : Value} {od_written_out an_written_out : Option Addr} {sl_written_out : Array (Option Value)} {f_lengths : Addr} {oc_lengths kV_lengths dc_lengths pm_lengths cd_lengths ct_lengths : Value} {od_lengths an_lengths : Option Addr} {sl_lengths : Array (Option Value)} {f_least_text : Addr} {oc_least_text kV_least_text dc_least_text pm_least_text cd_least_text ct_least_text : Value} {od_least_text an_least_text : Option Addr} {sl_least_text : Array (Option Value)} {f_leader : Addr} {oc_leader kV_leader dc_leader pm_leader cd_leader ct_leader : Value} {od_leader an_leader : Option Addr} {sl_leader : Array (Option Value)} {f_joined : Addr} {oc_joined kV_joined dc_joined pm_joined cd_joined ct_joined : Value} {od_joined an_joined : Option Addr} {sl_joined : Array (Option Value)} {f_like_a_shorter_one : Addr} {oc_like_a_shorter_one kV_like_a_shorter_one dc_like_a_shorter_one pm_like_a_shorter_one cd_like_a_shorter_one ct_like_a_shorter_one : Value} {od_like_a_shorter_one an_like_a_shorter_one : Option Addr} {sl_like_a_shorter_one : Array (Option Value)} {f_like_an_equally_long_one : Addr} {oc_like_an_equally_long_one kV_like_an_equally_long_one dc_like_an_equally_long_one pm_like_an_equally_long_one cd_like_an_equally_long_one ct_like_an_equally_long_one : Value} {od_like_an_equally_long_one an_like_an_equally_long_one : Option Addr} {sl_like_an_equally_long_one : Array (Option Value)} {f_confused_texts : Addr} {oc_confused_texts kV_confused_texts dc_confused_texts pm_confused_texts cd_confused_texts ct_confused_texts : Value} {od_confused_texts an_confused_texts : Option Addr} {sl_confused_texts : Array (Option Value)} {f_least_pair : Addr} {oc_least_pair kV_least_pair dc_least_pair pm_least_pair cd_least_pair ct_least_pair : Value} {od_least_pair an_least_pair : Option Addr} {sl_least_pair : Array (Option Value)} {f_law_pot : Addr} {oc_law_pot kV_law_pot dc_law_pot pm_law_pot cd_law_pot ct_law_pot : Value} {od_law_pot an_law_pot : Option Addr} {sl_law_pot : Array (Option Value)} {f_law_ladle : Addr} {oc_law_ladle kV_law_ladle dc_law_ladle pm_law_ladle cd_law_ladle ct_law_ladle : Value} {od_law_ladle an_law_ladle : Option Addr} {sl_law_ladle : Array (Option Value)} {f_law_one_of : Addr} {oc_law_one_of kV_law_one_of dc_law_one_of pm_law_one_of cd_law_one_of ct_law_one_of : Value} {od_law_one_of an_law_one_of : Option Addr} {sl_law_one_of : Array (Option Value)} {f_law_made : Addr} {oc_law_made kV_law_made dc_law_made pm_law_made cd_law_made ct_law_made : Value} {od_law_made an_law_made : Option Addr} {sl_law_made : Array (Option Value)} {f_law_cut : Addr} {oc_law_cut kV_law_cut dc_law_cut pm_law_cut cd_law_cut ct_law_cut : Value} {od_law_cut an_law_cut : Option Addr} {sl_law_cut : Array (Option Value)} {f_law_seen : Addr} {oc_law_seen kV_law_seen dc_law_seen pm_law_seen cd_law_seen ct_law_seen : Value} {od_law_seen an_law_seen : Option Addr} {sl_law_seen : Array (Option Value)} {f_law_joined : Addr} {oc_law_joined kV_law_joined dc_law_joined pm_law_joined cd_law_joined ct_law_joined : Value} {od_law_joined an_law_joined : Option Addr} {sl_law_joined : Array (Option Value)} {f_law_least_like : Addr} {oc_law_least_like kV_law_least_like dc_law_least_like pm_law_least_like cd_law_least_like ct_law_least_like : Value} {od_law_least_like an_law_least_like : Option Addr} {sl_law_least_like : Array (Option Value)} {f_law_second : Addr} {oc_law_second kV_law_second dc_law_second pm_law_second cd_law_second ct_law_second : Value} {od_law_second an_law_second : Option Addr} {sl_law_second : Array (Option Value)} {f_law_small : Addr} {oc_law_small kV_law_small dc_law_small pm_law_small cd_law_small ct_law_small : Value} {od_law_small an_law_small : Option Addr} {sl_law_small : Array (Option Value)} {f_law_right : Addr} {oc_law_right kV_law_right dc_law_right pm_law_right cd_law_right ct_law_right : Value} {od_law_right an_law_right : Option Addr} {sl_law_right : Array (Option Value)} {f_law : Addr} {oc_law kV_law dc_law pm_law cd_law ct_law : Value} {od_law an_law : Option Addr} {sl_law : Array (Option Value)} {C : Addr} {f_is : Addr} {oc_is kV_is dc_is pm_is cd_is ct_is : Value} {od_is an_is : Option Addr} {sl_is : Array (Option Value)} {u_MOST_SIGNS : Tok} {u_MOST_MARK : Tok} {u_MOST_ROW : Tok} {u_MOST_VIEWS : Tok} {u_MOST_TEXT : Tok} {u_SIGNS : Tok}
    (X : K.In h) (G : h.Ns mainGlobals mg) (hfa : mg "law" = some (.ref fa))
    (a_is_integer : PySem.W.nsIn K mainGlobals "is_integer" = some (some (.ref f_is_integer)))
    (l_is_integer : K.lookup f_is_integer = some ⟨oc_is_integer, od_is_integer, .func (PySem.W.fnOf "is_integer" "is_integer" (defArgs s_is_integer) (defBody s_is_integer) (defScope s_is_integer) .none kV_is_integer dc_is_integer pm_is_integer an_is_integer cd_is_integer ct_is_integer), sl_is_integer⟩)
    (c_is_integer : PySem.W.codeIn K cd_is_integer "is_integer" = true)
    (k_is_integer : PySem.W.keepIn K (.ref f_is_integer) = true)
    (a_is_tuple : PySem.W.nsIn K mainGlobals "is_tuple" = some (some (.ref f_is_tuple)))
    (l_is_tuple : K.lookup f_is_tuple = some ⟨oc_is_tuple, od_is_tuple, .func (PySem.W.fnOf "is_tuple" "is_tuple" (defArgs s_is_tuple) (defBody s_is_tuple) (defScope s_is_tuple) .none kV_is_tuple dc_is_tuple pm_is_tuple an_is_tuple cd_is_tuple ct_is_tuple), sl_is_tuple⟩)
    (c_is_tuple : PySem.W.codeIn K cd_is_tuple "is_tuple" = true)
    (k_is_tuple : PySem.W.keepIn K (.ref f_is_tuple) = true)
    (a_is_text : PySem.W.nsIn K mainGlobals "is_text" = some (some (.ref f_is_text)))
    (l_is_text : K.lookup f_is_text = some ⟨oc_is_text, od_is_text, .func (PySem.W.fnOf "is_text" "is_text" (defArgs s_is_text) (defBody s_is_text) (defScope s_is_text) .none kV_is_text dc_is_text pm_is_text an_is_text cd_is_text ct_is_text), sl_is_text⟩)
    (c_is_text : PySem.W.codeIn K cd_is_text "is_text" = true)
    (k_is_text : PySem.W.keepIn K (.ref f_is_text) = true)
    (a_least_raised_at : PySem.W.nsIn K mainGlobals "least_raised_at" = some (some (.ref f_least_raised_at)))
    (l_least_raised_at : K.lookup f_least_raised_at = some ⟨oc_least_raised_at, od_least_raised_at, .func (PySem.W.fnOf "least_raised_at" "least_raised_at" (defArgs s_least_raised_at) (defBody s_least_raised_at) (defScope s_least_raised_at) .none kV_least_raised_at dc_least_raised_at pm_least_raised_at an_least_raised_at cd_least_raised_at ct_least_raised_at), sl_least_raised_at⟩)
    (c_least_raised_at : PySem.W.codeIn K cd_least_raised_at "least_raised_at" = true)
    (k_least_raised_at : PySem.W.keepIn K (.ref f_least_raised_at) = true)
    (a_check_mark : PySem.W.nsIn K mainGlobals "check_mark" = some (some (.ref f_check_mark)))
    (l_check_mark : K.lookup f_check_mark = some ⟨oc_check_mark, od_check_mark, .func (PySem.W.fnOf "check_mark" "check_mark" (defArgs s_check_mark) (defBody s_check_mark) (defScope s_check_mark) .none kV_check_mark dc_check_mark pm_check_mark an_check_mark cd_check_mark ct_check_mark), sl_check_mark⟩)
    (c_check_mark : PySem.W.codeIn K cd_check_mark "check_mark" = true)
    (k_check_mark : PySem.W.keepIn K (.ref f_check_mark) = true)
    (a_check_row : PySem.W.nsIn K mainGlobals "check_row" = some (some (.ref f_check_row)))
    (l_check_row : K.lookup f_check_row = some ⟨oc_check_row, od_check_row, .func (PySem.W.fnOf "check_row" "check_row" (defArgs s_check_row) (defBody s_check_row) (defScope s_check_row) .none kV_check_row dc_check_row pm_check_row an_check_row cd_check_row ct_check_row), sl_check_row⟩)
    (c_check_row : PySem.W.codeIn K cd_check_row "check_row" = true)
    (k_check_row : PySem.W.keepIn K (.ref f_check_row) = true)
    (a_shortened : PySem.W.nsIn K mainGlobals "shortened" = some (some (.ref f_shortened)))
    (l_shortened : K.lookup f_shortened = some ⟨oc_shortened, od_shortened, .func (PySem.W.fnOf "shortened" "shortened" (defArgs s_shortened) (defBody s_shortened) (defScope s_shortened) .none kV_shortened dc_shortened pm_shortened an_shortened cd_shortened ct_shortened), sl_shortened⟩)
    (c_shortened : PySem.W.codeIn K cd_shortened "shortened" = true)
    (k_shortened : PySem.W.keepIn K (.ref f_shortened) = true)
    (a_shown_by : PySem.W.nsIn K mainGlobals "shown_by" = some (some (.ref f_shown_by)))
    (l_shown_by : K.lookup f_shown_by = some ⟨oc_shown_by, od_shown_by, .func (PySem.W.fnOf "shown_by" "shown_by" (defArgs s_shown_by) (defBody s_shown_by) (defScope s_shown_by) .none kV_shown_by dc_shown_by pm_shown_by an_shown_by cd_shown_by ct_shown_by), sl_shown_by⟩)
    (c_shown_by : PySem.W.codeIn K cd_shown_by "shown_by" = true)
    (k_shown_by : PySem.W.keepIn K (.ref f_shown_by) = true)
    (a_planned : PySem.W.nsIn K mainGlobals "planned" = some (some (.ref f_planned)))
    (l_planned : K.lookup f_planned = some ⟨oc_planned, od_planned, .func (PySem.W.fnOf "planned" "planned" (defArgs s_planned) (defBody s_planned) (defScope s_planned) .none kV_planned dc_planned pm_planned an_planned cd_planned ct_planned), sl_planned⟩)
    (c_planned : PySem.W.codeIn K cd_planned "planned" = true)
    (k_planned : PySem.W.keepIn K (.ref f_planned) = true)
    (a_telling_lengths : PySem.W.nsIn K mainGlobals "telling_lengths" = some (some (.ref f_telling_lengths)))
    (l_telling_lengths : K.lookup f_telling_lengths = some ⟨oc_telling_lengths, od_telling_lengths, .func (PySem.W.fnOf "telling_lengths" "telling_lengths" (defArgs s_telling_lengths) (defBody s_telling_lengths) (defScope s_telling_lengths) .none kV_telling_lengths dc_telling_lengths pm_telling_lengths an_telling_lengths cd_telling_lengths ct_telling_lengths), sl_telling_lengths⟩)
    (c_telling_lengths : PySem.W.codeIn K cd_telling_lengths "telling_lengths" = true)
    (k_telling_lengths : PySem.W.keepIn K (.ref f_telling_lengths) = true)
    (a_is_row : PySem.W.nsIn K mainGlobals "is_row" = some (some (.ref f_is_row)))
    (l_is_row : K.lookup f_is_row = some ⟨oc_is_row, od_is_row, .func (PySem.W.fnOf "is_row" "is_row" (defArgs s_is_row) (defBody s_is_row) (defScope s_is_row) .none kV_is_row dc_is_row pm_is_row an_is_row cd_is_row ct_is_row), sl_is_row⟩)
    (c_is_row : PySem.W.codeIn K cd_is_row "is_row" = true)
    (k_is_row : PySem.W.keepIn K (.ref f_is_row) = true)
    (a_is_view : PySem.W.nsIn K mainGlobals "is_view" = some (some (.ref f_is_view)))
    (l_is_view : K.lookup f_is_view = some ⟨oc_is_view, od_is_view, .func (PySem.W.fnOf "is_view" "is_view" (defArgs s_is_view) (defBody s_is_view) (defScope s_is_view) .none kV_is_view dc_is_view pm_is_view an_is_view cd_is_view ct_is_view), sl_is_view⟩)
    (c_is_view : PySem.W.codeIn K cd_is_view "is_view" = true)
    (k_is_view : PySem.W.keepIn K (.ref f_is_view) = true)
    (a_check_views : PySem.W.nsIn K mainGlobals "check_views" = some (some (.ref f_check_views)))
    (l_check_views : K.lookup f_check_views = some ⟨oc_check_views, od_check_views, .func (PySem.W.fnOf "check_views" "check_views" (defArgs s_check_views) (defBody s_check_views) (defScope s_check_views) .none kV_check_views dc_check_views pm_check_views an_check_views cd_check_views ct_check_views), sl_check_views⟩)
    (c_check_views : PySem.W.codeIn K cd_check_views "check_views" = true)
    (k_check_views : PySem.W.keepIn K (.ref f_check_views) = true)
    (a_known_signs : PySem.W.nsIn K mainGlobals "known_signs" = some (some (.ref f_known_signs)))
    (l_known_signs : K.lookup f_known_signs = some ⟨oc_known_signs, od_known_signs, .func (PySem.W.fnOf "known_signs" "known_signs" (defArgs s_known_signs) (defBody s_known_signs) (defScope s_known_signs) .none kV_known_signs dc_known_signs pm_known_signs an_known_signs cd_known_signs ct_known_signs), sl_known_signs⟩)
    (c_known_signs : PySem.W.codeIn K cd_known_signs "known_signs" = true)
    (k_known_signs : PySem.W.keepIn K (.ref f_known_signs) = true)
    (a_written_out : PySem.W.nsIn K mainGlobals "written_out" = some (some (.ref f_written_out)))
    (l_written_out : K.lookup f_written_out = some ⟨oc_written_out, od_written_out, .func (PySem.W.fnOf "written_out" "written_out" (defArgs s_written_out) (defBody s_written_out) (defScope s_written_out) .none kV_written_out dc_written_out pm_written_out an_written_out cd_written_out ct_written_out), sl_written_out⟩)
    (c_written_out : PySem.W.codeIn K cd_written_out "written_out" = true)
    (k_written_out : PySem.W.keepIn K (.ref f_written_out) = true)
    (a_lengths : PySem.W.nsIn K mainGlobals "lengths" = some (some (.ref f_lengths)))
    (l_lengths : K.lookup f_lengths = some ⟨oc_lengths, od_lengths, .func (PySem.W.fnOf "lengths" "lengths" (defArgs s_lengths) (defBody s_lengths) (defScope s_lengths) .none kV_lengths dc_lengths pm_lengths an_lengths cd_lengths ct_lengths), sl_lengths⟩)
    (c_lengths : PySem.W.codeIn K cd_lengths "lengths" = true)
    (k_lengths : PySem.W.keepIn K (.ref f_lengths) = true)
    (a_least_text : PySem.W.nsIn K mainGlobals "least_text" = some (some (.ref f_least_text)))
    (l_least_text : K.lookup f_least_text = some ⟨oc_least_text, od_least_text, .func (PySem.W.fnOf "least_text" "least_text" (defArgs s_least_text) (defBody s_least_text) (defScope s_least_text) .none kV_least_text dc_least_text pm_least_text an_least_text cd_least_text ct_least_text), sl_least_text⟩)
    (c_least_text : PySem.W.codeIn K cd_least_text "least_text" = true)
    (k_least_text : PySem.W.keepIn K (.ref f_least_text) = true)
    (a_leader : PySem.W.nsIn K mainGlobals "leader" = some (some (.ref f_leader)))
    (l_leader : K.lookup f_leader = some ⟨oc_leader, od_leader, .func (PySem.W.fnOf "leader" "leader" (defArgs s_leader) (defBody s_leader) (defScope s_leader) .none kV_leader dc_leader pm_leader an_leader cd_leader ct_leader), sl_leader⟩)
    (c_leader : PySem.W.codeIn K cd_leader "leader" = true)
    (k_leader : PySem.W.keepIn K (.ref f_leader) = true)
    (a_joined : PySem.W.nsIn K mainGlobals "joined" = some (some (.ref f_joined)))
    (l_joined : K.lookup f_joined = some ⟨oc_joined, od_joined, .func (PySem.W.fnOf "joined" "joined" (defArgs s_joined) (defBody s_joined) (defScope s_joined) .none kV_joined dc_joined pm_joined an_joined cd_joined ct_joined), sl_joined⟩)
    (c_joined : PySem.W.codeIn K cd_joined "joined" = true)
    (k_joined : PySem.W.keepIn K (.ref f_joined) = true)
    (a_like_a_shorter_one : PySem.W.nsIn K mainGlobals "like_a_shorter_one" = some (some (.ref f_like_a_shorter_one)))
    (l_like_a_shorter_one : K.lookup f_like_a_shorter_one = some ⟨oc_like_a_shorter_one, od_like_a_shorter_one, .func (PySem.W.fnOf "like_a_shorter_one" "like_a_shorter_one" (defArgs s_like_a_shorter_one) (defBody s_like_a_shorter_one) (defScope s_like_a_shorter_one) .none kV_like_a_shorter_one dc_like_a_shorter_one pm_like_a_shorter_one an_like_a_shorter_one cd_like_a_shorter_one ct_like_a_shorter_one), sl_like_a_shorter_one⟩)
    (c_like_a_shorter_one : PySem.W.codeIn K cd_like_a_shorter_one "like_a_shorter_one" = true)
    (k_like_a_shorter_one : PySem.W.keepIn K (.ref f_like_a_shorter_one) = true)
    (a_like_an_equally_long_one : PySem.W.nsIn K mainGlobals "like_an_equally_long_one" = some (some (.ref f_like_an_equally_long_one)))
    (l_like_an_equally_long_one : K.lookup f_like_an_equally_long_one = some ⟨oc_like_an_equally_long_one, od_like_an_equally_long_one, .func (PySem.W.fnOf "like_an_equally_long_one" "like_an_equally_long_one" (defArgs s_like_an_equally_long_one) (defBody s_like_an_equally_long_one) (defScope s_like_an_equally_long_one) .none kV_like_an_equally_long_one dc_like_an_equally_long_one pm_like_an_equally_long_one an_like_an_equally_long_one cd_like_an_equally_long_one ct_like_an_equally_long_one), sl_like_an_equally_long_one⟩)
    (c_like_an_equally_long_one : PySem.W.codeIn K cd_like_an_equally_long_one "like_an_equally_long_one" = true)
    (k_like_an_equally_long_one : PySem.W.keepIn K (.ref f_like_an_equally_long_one) = true)
    (a_confused_texts : PySem.W.nsIn K mainGlobals "confused_texts" = some (some (.ref f_confused_texts)))
    (l_confused_texts : K.lookup f_confused_texts = some ⟨oc_confused_texts, od_confused_texts, .func (PySem.W.fnOf "confused_texts" "confused_texts" (defArgs s_confused_texts) (defBody s_confused_texts) (defScope s_confused_texts) .none kV_confused_texts dc_confused_texts pm_confused_texts an_confused_texts cd_confused_texts ct_confused_texts), sl_confused_texts⟩)
    (c_confused_texts : PySem.W.codeIn K cd_confused_texts "confused_texts" = true)
    (k_confused_texts : PySem.W.keepIn K (.ref f_confused_texts) = true)
    (a_least_pair : PySem.W.nsIn K mainGlobals "least_pair" = some (some (.ref f_least_pair)))
    (l_least_pair : K.lookup f_least_pair = some ⟨oc_least_pair, od_least_pair, .func (PySem.W.fnOf "least_pair" "least_pair" (defArgs s_least_pair) (defBody s_least_pair) (defScope s_least_pair) .none kV_least_pair dc_least_pair pm_least_pair an_least_pair cd_least_pair ct_least_pair), sl_least_pair⟩)
    (c_least_pair : PySem.W.codeIn K cd_least_pair "least_pair" = true)
    (k_least_pair : PySem.W.keepIn K (.ref f_least_pair) = true)
    (a_law_pot : PySem.W.nsIn K mainGlobals "_law_pot" = some (some (.ref f_law_pot)))
    (l_law_pot : K.lookup f_law_pot = some ⟨oc_law_pot, od_law_pot, .func (PySem.W.fnOf "_law_pot" "_law_pot" (defArgs s_law_pot) (defBody s_law_pot) (defScope s_law_pot) .none kV_law_pot dc_law_pot pm_law_pot an_law_pot cd_law_pot ct_law_pot), sl_law_pot⟩)
    (c_law_pot : PySem.W.codeIn K cd_law_pot "_law_pot" = true)
    (k_law_pot : PySem.W.keepIn K (.ref f_law_pot) = true)
    (a_law_ladle : PySem.W.nsIn K mainGlobals "_law_ladle" = some (some (.ref f_law_ladle)))
    (l_law_ladle : K.lookup f_law_ladle = some ⟨oc_law_ladle, od_law_ladle, .func (PySem.W.fnOf "_law_ladle" "_law_ladle" (defArgs s_law_ladle) (defBody s_law_ladle) (defScope s_law_ladle) .none kV_law_ladle dc_law_ladle pm_law_ladle an_law_ladle cd_law_ladle ct_law_ladle), sl_law_ladle⟩)
    (c_law_ladle : PySem.W.codeIn K cd_law_ladle "_law_ladle" = true)
    (k_law_ladle : PySem.W.keepIn K (.ref f_law_ladle) = true)
    (a_law_one_of : PySem.W.nsIn K mainGlobals "_law_one_of" = some (some (.ref f_law_one_of)))
    (l_law_one_of : K.lookup f_law_one_of = some ⟨oc_law_one_of, od_law_one_of, .func (PySem.W.fnOf "_law_one_of" "_law_one_of" (defArgs s_law_one_of) (defBody s_law_one_of) (defScope s_law_one_of) .none kV_law_one_of dc_law_one_of pm_law_one_of an_law_one_of cd_law_one_of ct_law_one_of), sl_law_one_of⟩)
    (c_law_one_of : PySem.W.codeIn K cd_law_one_of "_law_one_of" = true)
    (k_law_one_of : PySem.W.keepIn K (.ref f_law_one_of) = true)
    (a_law_made : PySem.W.nsIn K mainGlobals "_law_made" = some (some (.ref f_law_made)))
    (l_law_made : K.lookup f_law_made = some ⟨oc_law_made, od_law_made, .func (PySem.W.fnOf "_law_made" "_law_made" (defArgs s_law_made) (defBody s_law_made) (defScope s_law_made) .none kV_law_made dc_law_made pm_law_made an_law_made cd_law_made ct_law_made), sl_law_made⟩)
    (c_law_made : PySem.W.codeIn K cd_law_made "_law_made" = true)
    (k_law_made : PySem.W.keepIn K (.ref f_law_made) = true)
    (a_law_cut : PySem.W.nsIn K mainGlobals "_law_cut" = some (some (.ref f_law_cut)))
    (l_law_cut : K.lookup f_law_cut = some ⟨oc_law_cut, od_law_cut, .func (PySem.W.fnOf "_law_cut" "_law_cut" (defArgs s_law_cut) (defBody s_law_cut) (defScope s_law_cut) .none kV_law_cut dc_law_cut pm_law_cut an_law_cut cd_law_cut ct_law_cut), sl_law_cut⟩)
    (c_law_cut : PySem.W.codeIn K cd_law_cut "_law_cut" = true)
    (k_law_cut : PySem.W.keepIn K (.ref f_law_cut) = true)
    (a_law_seen : PySem.W.nsIn K mainGlobals "_law_seen" = some (some (.ref f_law_seen)))
    (l_law_seen : K.lookup f_law_seen = some ⟨oc_law_seen, od_law_seen, .func (PySem.W.fnOf "_law_seen" "_law_seen" (defArgs s_law_seen) (defBody s_law_seen) (defScope s_law_seen) .none kV_law_seen dc_law_seen pm_law_seen an_law_seen cd_law_seen ct_law_seen), sl_law_seen⟩)
    (c_law_seen : PySem.W.codeIn K cd_law_seen "_law_seen" = true)
    (k_law_seen : PySem.W.keepIn K (.ref f_law_seen) = true)
    (a_law_joined : PySem.W.nsIn K mainGlobals "_law_joined" = some (some (.ref f_law_joined)))
    (l_law_joined : K.lookup f_law_joined = some ⟨oc_law_joined, od_law_joined, .func (PySem.W.fnOf "_law_joined" "_law_joined" (defArgs s_law_joined) (defBody s_law_joined) (defScope s_law_joined) .none kV_law_joined dc_law_joined pm_law_joined an_law_joined cd_law_joined ct_law_joined), sl_law_joined⟩)
    (c_law_joined : PySem.W.codeIn K cd_law_joined "_law_joined" = true)
    (k_law_joined : PySem.W.keepIn K (.ref f_law_joined) = true)
    (a_law_least_like : PySem.W.nsIn K mainGlobals "_law_least_like" = some (some (.ref f_law_least_like)))
    (l_law_least_like : K.lookup f_law_least_like = some ⟨oc_law_least_like, od_law_least_like, .func (PySem.W.fnOf "_law_least_like" "_law_least_like" (defArgs s_law_least_like) (defBody s_law_least_like) (defScope s_law_least_like) .none kV_law_least_like dc_law_least_like pm_law_least_like an_law_least_like cd_law_least_like ct_law_least_like), sl_law_least_like⟩)
    (c_law_least_like : PySem.W.codeIn K cd_law_least_like "_law_least_like" = true)
    (k_law_least_like : PySem.W.keepIn K (.ref f_law_least_like) = true)
    (a_law_second : PySem.W.nsIn K mainGlobals "_law_second" = some (some (.ref f_law_second)))
    (l_law_second : K.lookup f_law_second = some ⟨oc_law_second, od_law_second, .func (PySem.W.fnOf "_law_second" "_law_second" (defArgs s_law_second) (defBody s_law_second) (defScope s_law_second) .none kV_law_second dc_law_second pm_law_second an_law_second cd_law_second ct_law_second), sl_law_second⟩)
    (c_law_second : PySem.W.codeIn K cd_law_second "_law_second" = true)
    (k_law_second : PySem.W.keepIn K (.ref f_law_second) = true)
    (a_law_small : PySem.W.nsIn K mainGlobals "_law_small" = some (some (.ref f_law_small)))
    (l_law_small : K.lookup f_law_small = some ⟨oc_law_small, od_law_small, .func (PySem.W.fnOf "_law_small" "_law_small" (defArgs s_law_small) (defBody s_law_small) (defScope s_law_small) .none kV_law_small dc_law_small pm_law_small an_law_small cd_law_small ct_law_small), sl_law_small⟩)
    (c_law_small : PySem.W.codeIn K cd_law_small "_law_small" = true)
    (k_law_small : PySem.W.keepIn K (.ref f_law_small) = true)
    (a_law_right : PySem.W.nsIn K mainGlobals "_law_right" = some (some (.ref f_law_right)))
    (l_law_right : K.lookup f_law_right = some ⟨oc_law_right, od_law_right, .func (PySem.W.fnOf "_law_right" "_law_right" (defArgs s_law_right) (defBody s_law_right) (defScope s_law_right) .none kV_law_right dc_law_right pm_law_right an_law_right cd_law_right ct_law_right), sl_law_right⟩)
    (c_law_right : PySem.W.codeIn K cd_law_right "_law_right" = true)
    (k_law_right : PySem.W.keepIn K (.ref f_law_right) = true)
    (a_law : PySem.W.nsIn K mainGlobals "law" = some (some (.ref f_law)))
    (l_law : K.lookup f_law = some ⟨oc_law, od_law, .func (PySem.W.fnOf "law" "law" (defArgs s_law) (defBody s_law) (defScope s_law) .none kV_law dc_law pm_law an_law cd_law ct_law), sl_law⟩)
    (c_law : PySem.W.codeIn K cd_law "law" = true)
    (k_law : PySem.W.keepIn K (.ref f_law) = true)
    (qn : PySem.W.specialIn K (.builtin "object.__class__") "__get__" = some (some (.builtin "getset_descriptor.__get__")))
    (qt : PySem.W.takesIn K (.builtin "object.__class__") = some true)
    (asC : PySem.W.nsIn K mainGlobals "Shortener" = some (some (.ref C)))
    (a_is : PySem.W.findIn K (.ref C) "__init__" = some (some (.ref f_is)))
    (l_is : K.lookup f_is = some ⟨oc_is, od_is, .func (PySem.W.fnOf "__init__" "Shortener.__init__" (defArgs s_Shortener_init) (defBody s_Shortener_init) (defScope s_Shortener_init) .none kV_is dc_is pm_is an_is cd_is ct_is), sl_is⟩)
    (c_is : PySem.W.codeIn K cd_is "Shortener.__init__" = true)
    (k_is : PySem.W.keepIn K (.ref f_is) = true)
    (i_is : PySem.W.isFn K (.ref f_is) = true)
    (pgs : PySem.W.plainGet K C Str.empty = true)
    (hds : PySem.W.hasDictIn K C = true)
    (pos : PySem.W.plainOver K C = true)
    (sas : PySem.W.findIn K (.ref C) "__setattr__" = some (some (.builtin "object.__setattr__")))
    (mksC : PySem.W.makesIn K C = true)
    (ksC : PySem.W.keepIn K (.ref C) = true)
    (ns_limit : PySem.W.findIn K (.ref C) "limit" = some none)
    (ns_head : PySem.W.findIn K (.ref C) "head" = some none)
    (ns_tail : PySem.W.findIn K (.ref C) "tail" = some none)
    (ns_mark : PySem.W.findIn K (.ref C) "mark" = some none)
    (ns_told : PySem.W.findIn K (.ref C) "told" = some none)
    (qas : PySem.W.findIn K (.ref C) "__class__" = some (some (.builtin "object.__class__")))
    (qms : PySem.W.mroIn K C (.type "object") = some true)
    (z_ValueError : PySem.W.nsIn K mainGlobals "ValueError" = some none)
    (z_abs : PySem.W.nsIn K mainGlobals "abs" = some none)
    (z_all : PySem.W.nsIn K mainGlobals "all" = some none)
    (z_bool : PySem.W.nsIn K mainGlobals "bool" = some none)
    (z_divmod : PySem.W.nsIn K mainGlobals "divmod" = some none)
    (z_enumerate : PySem.W.nsIn K mainGlobals "enumerate" = some none)
    (z_int : PySem.W.nsIn K mainGlobals "int" = some none)
    (z_isinstance : PySem.W.nsIn K mainGlobals "isinstance" = some none)
    (z_len : PySem.W.nsIn K mainGlobals "len" = some none)
    (z_list : PySem.W.nsIn K mainGlobals "list" = some none)
    (z_max : PySem.W.nsIn K mainGlobals "max" = some none)
    (z_min : PySem.W.nsIn K mainGlobals "min" = some none)
    (z_range : PySem.W.nsIn K mainGlobals "range" = some none)
    (z_repr : PySem.W.nsIn K mainGlobals "repr" = some none)
    (z_set : PySem.W.nsIn K mainGlobals "set" = some none)
    (z_sorted : PySem.W.nsIn K mainGlobals "sorted" = some none)
    (z_str : PySem.W.nsIn K mainGlobals "str" = some none)
    (z_tuple : PySem.W.nsIn K mainGlobals "tuple" = some none)
    (z_zip : PySem.W.nsIn K mainGlobals "zip" = some none)
    (z_MOST_SIGNS : PySem.W.nsIn K mainGlobals "MOST_SIGNS" = some (some (.int 40 u_MOST_SIGNS)))
    (z_MOST_MARK : PySem.W.nsIn K mainGlobals "MOST_MARK" = some (some (.int 3 u_MOST_MARK)))
    (z_MOST_ROW : PySem.W.nsIn K mainGlobals "MOST_ROW" = some (some (.int 4 u_MOST_ROW)))
    (z_MOST_VIEWS : PySem.W.nsIn K mainGlobals "MOST_VIEWS" = some (some (.int 4 u_MOST_VIEWS)))
    (z_MOST_TEXT : PySem.W.nsIn K mainGlobals "MOST_TEXT" = some (some (.int 200 u_MOST_TEXT)))
    (z_SIGNS : PySem.W.nsIn K mainGlobals "SIGNS" = some (some (.str ".0123456789abcdefghijklmnopqrstuvwxyz~" u_SIGNS))) :
    ∃ fd : FuncData, (∀ (s : Shared) (v : Value), BindsTo s fd ⟨[v], []⟩ [("_law_script", v)]) ∧ ∀ base : Heap, K.In base → base.Ns mainGlobals mg → FnG l.prog w K mg base 9 fa fd ["_law_script"] (spLaw K) := by
  have e := hfa.symm.trans (PySem.W.mg_of X G a_law)
  cases e
  have B : Bi mg := ⟨PySem.W.mg_none_of X G z_ValueError, PySem.W.mg_none_of X G z_abs, PySem.W.mg_none_of X G z_all, PySem.W.mg_none_of X G z_bool, PySem.W.mg_none_of X G z_divmod, PySem.W.mg_none_of X G z_enumerate, PySem.W.mg_none_of X G z_int, PySem.W.mg_none_of X G z_isinstance, PySem.W.mg_none_of X G z_len, PySem.W.mg_none_of X G z_list, PySem.W.mg_none_of X G z_max, PySem.W.mg_none_of X G z_min, PySem.W.mg_none_of X G z_range, PySem.W.mg_none_of X G z_repr, PySem.W.mg_none_of X G z_set, PySem.W.mg_none_of X G z_sorted, PySem.W.mg_none_of X G z_str, PySem.W.mg_none_of X G z_tuple, PySem.W.mg_none_of X G z_zip, cst_mk X G ⟨_, rfl⟩ z_MOST_SIGNS, cst_mk X G ⟨_, rfl⟩ z_MOST_MARK, cst_mk X G ⟨_, rfl⟩ z_MOST_ROW, cst_mk X G ⟨_, rfl⟩ z_MOST_VIEWS, cst_mk X G ⟨_, rfl⟩ z_MOST_TEXT, cst_mk X G ⟨_, rfl⟩ z_SIGNS⟩
  have Ss : ShC K mg C := ⟨⟨pgs, hds, pos, sas⟩, ns_limit, ns_head, ns_tail, ns_mark, ns_told, PySem.W.mg_of X G asC, qas, qn, qt, qms, if_pos (beq_self_eq_true _)⟩
  have Is : InitAt K C := ⟨f_is, _, ⟨mksC, a_is, i_is, ksC⟩, fun_mk l_is c_is k_is, (fun_mk l_is c_is k_is).binds fun _ _ _ _ _ _ us hl => match us, hl with | [_, _, _, _, _], _ => rfl⟩
  have A_is_integer : At K mg "is_integer" s_is_integer ps_is_integer := at_mk X G (fun _ _ _ _ _ _ us hl => match us, hl with | [_, _, _], _ => rfl) a_is_integer l_is_integer c_is_integer k_is_integer
  have A_is_tuple : At K mg "is_tuple" s_is_tuple ps_is_tuple := at_mk X G (fun _ _ _ _ _ _ us hl => match us, hl with | [_, _, _], _ => rfl) a_is_tuple l_is_tuple c_is_tuple k_is_tuple
  have A_is_text : At K mg "is_text" s_is_text ps_is_text := at_mk X G (fun _ _ _ _ _ _ us hl => match us, hl with | [_, _], _ => rfl) a_is_text l_is_text c_is_text k_is_text
  have A_least_raised_at : At K mg "least_raised_at" s_least_raised_at ps_least_raised_at := at_mk X G (fun _ _ _ _ _ _ us hl => match us, hl with | [_, _], _ => rfl) a_least_raised_at l_least_raised_at c_least_raised_at k_least_raised_at
  have A_check_mark : At K mg "check_mark" s_check_mark ps_check_mark := at_mk X G (fun _ _ _ _ _ _ us hl => match us, hl with | [_], _ => rfl) a_check_mark l_check_mark c_check_mark k_check_mark
  have A_check_row : At K mg "check_row" s_check_row ps_check_row := at_mk X G (fun _ _ _ _ _ _ us hl => match us, hl with | [_], _ => rfl) a_check_row l_check_row c_check_row k_check_row
  have A_shortened : At K mg "shortened" s_shortened ps_shortened := at_mk X G (fun _ _ _ _ _ _ us hl => match us, hl with | [_, _, _], _ => rfl) a_shortened l_shortened c_shortened k_shortened
  have A_shown_by : At K mg "shown_by" s_shown_by ps_shown_by := at_mk X G (fun _ _ _ _ _ _ us hl => match us, hl with | [_, _], _ => rfl) a_shown_by l_shown_by c_shown_by k_shown_by
  have A_planned : At K mg "planned" s_planned ps_planned := at_mk X G (fun _ _ _ _ _ _ us hl => match us, hl with | [_, _], _ => rfl) a_planned l_planned c_planned k_planned
  have A_telling_lengths : At K mg "telling_lengths" s_telling_lengths ps_telling_lengths := at_mk X G (fun _ _ _ _ _ _ us hl => match us, hl with | [], _ => rfl) a_telling_lengths l_telling_lengths c_telling_lengths k_telling_lengths
  have A_is_row : At K mg "is_row" s_is_row ps_is_row := at_mk X G (fun _ _ _ _ _ _ us hl => match us, hl with | [_], _ => rfl) a_is_row l_is_row c_is_row k_is_row
  have A_is_view : At K mg "is_view" s_is_view ps_is_view := at_mk X G (fun _ _ _ _ _ _ us hl => match us, hl with | [_], _ => rfl) a_is_view l_is_view c_is_view k_is_view
  have A_check_views : At K mg "check_views" s_check_views ps_check_views := at_mk X G (fun _ _ _ _ _ _ us hl => match us, hl with | [_], _ => rfl) a_check_views l_check_views c_check_views k_check_views
  have A_known_signs : At K mg "known_signs" s_known_signs ps_known_signs := at_mk X G (fun _ _ _ _ _ _ us hl => match us, hl with | [_, _], _ => rfl) a_known_signs l_known_signs c_known_signs k_known_signs
  have A_written_out : At K mg "written_out" s_written_out ps_written_out := at_mk X G (fun _ _ _ _ _ _ us hl => match us, hl with | [_, _, _], _ => rfl) a_written_out l_written_out c_written_out k_written_out
  have A_lengths : At K mg "lengths" s_lengths ps_lengths := at_mk X G (fun _ _ _ _ _ _ us hl => match us, hl with | [_], _ => rfl) a_lengths l_lengths c_lengths k_lengths
  have A_least_text : At K mg "least_text" s_least_text ps_least_text := at_mk X G (fun _ _ _ _ _ _ us hl => match us, hl with | [_], _ => rfl) a_least_text l_least_text c_least_text k_least_text
  have A_leader : At K mg "leader" s_leader ps_leader := at_mk X G (fun _ _ _ _ _ _ us hl => match us, hl with | [_, _], _ => rfl) a_leader l_leader c_leader k_leader
  have A_joined : At K mg "joined" s_joined ps_joined := at_mk X G (fun _ _ _ _ _ _ us hl => match us, hl with | [_, _], _ => rfl) a_joined l_joined c_joined k_joined
  have A_like_a_shorter_one : At K mg "like_a_shorter_one" s_like_a_shorter_one ps_like_a_shorter_one := at_mk X G (fun _ _ _ _ _ _ us hl => match us, hl with | [_, _, _], _ => rfl) a_like_a_shorter_one l_like_a_shorter_one c_like_a_shorter_one k_like_a_shorter_one
  have A_like_an_equally_long_one : At K mg "like_an_equally_long_one" s_like_an_equally_long_one ps_like_an_equally_long_one := at_mk X G (fun _ _ _ _ _ _ us hl => match us, hl with | [_, _], _ => rfl) a_like_an_equally_long_one l_like_an_equally_long_one c_like_an_equally_long_one k_like_an_equally_long_one
  have A_confused_texts : At K mg "confused_texts" s_confused_texts ps_confused_texts := at_mk X G (fun _ _ _ _ _ _ us hl => match us, hl with | [_, _], _ => rfl) a_confused_texts l_confused_texts c_confused_texts k_confused_texts
  have A_least_pair : At K mg "least_pair" s_least_pair ps_least_pair := at_mk X G (fun _ _ _ _ _ _ us hl => match us, hl with | [_], _ => rfl) a_least_pair l_least_pair c_least_pair k_least_pair
  have A_law_pot : At K mg "_law_pot" s_law_pot ps_law_pot := at_mk X G (fun _ _ _ _ _ _ us hl => match us, hl with | [_, _], _ => rfl) a_law_pot l_law_pot c_law_pot k_law_pot
  have A_law_ladle : At K mg "_law_ladle" s_law_ladle ps_law_ladle := at_mk X G (fun _ _ _ _ _ _ us hl => match us, hl with | [_, _], _ => rfl) a_law_ladle l_law_ladle c_law_ladle k_law_ladle
  have A_law_one_of : At K mg "_law_one_of" s_law_one_of ps_law_one_of := at_mk X G (fun _ _ _ _ _ _ us hl => match us, hl with | [_, _], _ => rfl) a_law_one_of l_law_one_of c_law_one_of k_law_one_of
  have A_law_made : At K mg "_law_made" s_law_made ps_law_made := at_mk X G (fun _ _ _ _ _ _ us hl => match us, hl with | [_], _ => rfl) a_law_made l_law_made c_law_made k_law_made
  have A_law_cut : At K mg "_law_cut" s_law_cut ps_law_cut := at_mk X G (fun _ _ _ _ _ _ us hl => match us, hl with | [_, _], _ => rfl) a_law_cut l_law_cut c_law_cut k_law_cut
  have A_law_seen : At K mg "_law_seen" s_law_seen ps_law_seen := at_mk X G (fun _ _ _ _ _ _ us hl => match us, hl with | [_, _], _ => rfl) a_law_seen l_law_seen c_law_seen k_law_seen
  have A_law_joined : At K mg "_law_joined" s_law_joined ps_law_joined := at_mk X G (fun _ _ _ _ _ _ us hl => match us, hl with | [_, _, _], _ => rfl) a_law_joined l_law_joined c_law_joined k_law_joined
  have A_law_least_like : At K mg "_law_least_like" s_law_least_like ps_law_least_like := at_mk X G (fun _ _ _ _ _ _ us hl => match us, hl with | [_, _, _], _ => rfl) a_law_least_like l_law_least_like c_law_least_like k_law_least_like
  have A_law_second : At K mg "_law_second" s_law_second ps_law_second := at_mk X G (fun _ _ _ _ _ _ us hl => match us, hl with | [_], _ => rfl) a_law_second l_law_second c_law_second k_law_second
  have A_law_small : At K mg "_law_small" s_law_small ps_law_small := at_mk X G (fun _ _ _ _ _ _ us hl => match us, hl with | [_], _ => rfl) a_law_small l_law_small c_law_small k_law_small
  have A_law_right : At K mg "_law_right" s_law_right ps_law_right := at_mk X G (fun _ _ _ _ _ _ us hl => match us, hl with | [_], _ => rfl) a_law_right l_law_right c_law_right k_law_right
  exact ⟨_, fun s v => .of_eq rfl, fun base _ _ => fin B Ss Is A_is_integer A_is_tuple A_is_text A_least_raised_at A_check_mark A_check_row A_shortened A_shown_by A_planned A_telling_lengths A_is_row A_is_view A_check_views A_known_signs A_written_out A_lengths A_least_text A_leader A_joined A_like_a_shorter_one A_like_an_equally_long_one A_confused_texts A_least_pair A_law_pot A_law_ladle A_law_one_of A_law_made A_law_cut A_law_seen A_law_joined A_law_least_like A_law_second A_law_small A_law_right (fun_mk l_law c_law k_law)⟩
end Gu
open PySem PySem.W PyProof.Rows
set_option maxHeartbeats 0 in
theorem PySem.Challenge.cw_shownshort_k15_whole_least_pairs_holds : PySem.Challenge.rw_shownshort_k15_whole_least_pairs.Holds := by
  w_on; o_law; k_head; (case hw => w_witness2)
  k_fill
  refine Gu.walkG (l := PySem.Challenge.rw_shownshort_k15_whole_least_pairs) (n := 63) (k := 9) (x := "_law_script") (sp := Gu.spLaw) rfl (by decide) rfl ⟨rfl, by decide, by decide⟩ (fun w h Y => PySem.W.kIn_of Y) ?F (fun _ _ a ns hl hS => ⟨a, ns, rfl, hS, hl, fun _ => rfl⟩)
  case F =>
    intro w mg fa h KX G hmg
    refine' Gu.all_mk KX G hmg ?a_is_integer ?l_is_integer ?c_is_integer ?k_is_integer ?a_is_tuple ?l_is_tuple ?c_is_tuple ?k_is_tuple ?a_is_text ?l_is_text ?c_is_text ?k_is_text ?a_least_raised_at ?l_least_raised_at ?c_least_raised_at ?k_least_raised_at ?a_check_mark ?l_check_mark ?c_check_mark ?k_check_mark ?a_check_row ?l_check_row ?c_check_row ?k_check_row ?a_shortened ?l_shortened ?c_shortened ?k_shortened ?a_shown_by ?l_shown_by ?c_shown_by ?k_shown_by ?a_planned ?l_planned ?c_planned ?k_planned ?a_telling_lengths ?l_telling_lengths ?c_telling_lengths ?k_telling_lengths ?a_is_row ?l_is_row ?c_is_row ?k_is_row ?a_is_view ?l_is_view ?c_is_view ?k_is_view ?a_check_views ?l_check_views ?c_check_views ?k_check_views ?a_known_signs ?l_known_signs ?c_known_signs ?k_known_signs ?a_written_out ?l_written_out ?c_written_out ?k_written_out ?a_lengths ?l_lengths ?c_lengths ?k_lengths ?a_least_text ?l_least_text ?c_least_text ?k_least_text ?a_leader ?l_leader ?c_leader ?k_leader ?a_joined ?l_joined ?c_joined ?k_joined ?a_like_a_shorter_one ?l_like_a_shorter_one ?c_like_a_shorter_one ?k_like_a_shorter_one ?a_like_an_equally_long_one ?l_like_an_equally_long_one ?c_like_an_equally_long_one ?k_like_an_equally_long_one ?a_confused_texts ?l_confused_texts ?c_confused_texts ?k_confused_texts ?a_least_pair ?l_least_pair ?c_least_pair ?k_least_pair ?a_law_pot ?l_law_pot ?c_law_pot ?k_law_pot ?a_law_ladle ?l_law_ladle ?c_law_ladle ?k_law_ladle ?a_law_one_of ?l_law_one_of ?c_law_one_of ?k_law_one_of ?a_law_made ?l_law_made ?c_law_made ?k_law_made ?a_law_cut ?l_law_cut ?c_law_cut ?k_law_cut ?a_law_seen ?l_law_seen ?c_law_seen ?k_law_seen ?a_law_joined ?l_law_joined ?c_law_joined ?k_law_joined ?a_law_least_like ?l_law_least_like ?c_law_least_like ?k_law_least_like ?a_law_second ?l_law_second ?c_law_second ?k_law_second ?a_law_small ?l_law_small ?c_law_small ?k_law_small ?a_law_right ?l_law_right ?c_law_right ?k_law_right ?a_law ?l_law ?c_law ?k_law ?qn ?qt ?asC ?a_is ?l_is ?c_is ?k_is ?i_is ?pgs ?hds ?pos ?sas ?mksC ?ksC ?ns_limit ?ns_head ?ns_tail ?ns_mark ?ns_told ?qas ?qms ?z_ValueError ?z_abs ?z_all ?z_bool ?z_divmod ?z_enumerate ?z_int ?z_isinstance ?z_len ?z_list ?z_max ?z_min ?z_range ?z_repr ?z_set ?z_sorted ?z_str ?z_tuple ?z_zip ?z_MOST_SIGNS ?z_MOST_MARK ?z_MOST_ROW ?z_MOST_VIEWS ?z_MOST_TEXT ?z_SIGNS
    (case a_is_integer => k_is)
    (case l_is_integer => k_is)
    (case c_is_integer => k_is)
    (case k_is_integer => k_is)
    (case a_is_tuple => k_is)
    (case l_is_tuple => k_is)
    (case c_is_tuple => k_is)
    (case k_is_tuple => k_is)
    (case a_is_text => k_is)
    (case l_is_text => k_is)
    (case c_is_text => k_is)
    (case k_is_text => k_is)
    (case a_least_raised_at => k_is)
    (case l_least_raised_at => k_is)
    (case c_least_raised_at => k_is)
    (case k_least_raised_at => k_is)
    (case a_check_mark => k_is)
    (case l_check_mark => k_is)
    (case c_check_mark => k_is)
    (case k_check_mark => k_is)
    (case a_check_row => k_is)
    (case l_check_row => k_is)
    (case c_check_row => k_is)
    (case k_check_row => k_is)
    (case a_shortened => k_is)
    (case l_shortened => k_is)
    (case c_shortened => k_is)
    (case k_shortened => k_is)
    (case a_shown_by => k_is)
    (case l_shown_by => k_is)
    (case c_shown_by => k_is)
    (case k_shown_by => k_is)
    (case a_planned => k_is)
    (case l_planned => k_is)
    (case c_planned => k_is)
    (case k_planned => k_is)
    (case a_telling_lengths => k_is)
    (case l_telling_lengths => k_is)
    (case c_telling_lengths => k_is)
    (case k_telling_lengths => k_is)
    (case a_is_row => k_is)
    (case l_is_row => k_is)
    (case c_is_row => k_is)
    (case k_is_row => k_is)
    (case a_is_view => k_is)
    (case l_is_view => k_is)
    (case c_is_view => k_is)
    (case k_is_view => k_is)
    (case a_check_views => k_is)
    (case l_check_views => k_is)
    (case c_check_views => k_is)
    (case k_check_views => k_is)
    (case a_known_signs => k_is)
    (case l_known_signs => k_is)
    (case c_known_signs => k_is)
    (case k_known_signs => k_is)
    (case a_written_out => k_is)
    (case l_written_out => k_is)
    (case c_written_out => k_is)
    (case k_written_out => k_is)
    (case a_lengths => k_is)
    (case l_lengths => k_is)
    (case c_lengths => k_is)
    (case k_lengths => k_is)
    (case a_least_text => k_is)
    (case l_least_text => k_is)
    (case c_least_text => k_is)
    (case k_least_text => k_is)
    (case a_leader => k_is)
    (case l_leader => k_is)
    (case c_leader => k_is)
    (case k_leader => k_is)
    (case a_joined => k_is)
    (case l_joined => k_is)
    (case c_joined => k_is)
    (case k_joined => k_is)
    (case a_like_a_shorter_one => k_is)
    (case l_like_a_shorter_one => k_is)
    (case c_like_a_shorter_one => k_is)
    (case k_like_a_shorter_one => k_is)
    (case a_like_an_equally_long_one => k_is)
    (case l_like_an_equally_long_one => k_is)
    (case c_like_an_equally_long_one => k_is)
    (case k_like_an_equally_long_one => k_is)
    (case a_confused_texts => k_is)
    (case l_confused_texts => k_is)
    (case c_confused_texts => k_is)
    (case k_confused_texts => k_is)
    (case a_least_pair => k_is)
    (case l_least_pair => k_is)
    (case c_least_pair => k_is)
    (case k_least_pair => k_is)
    (case a_law_pot => k_is)
    (case l_law_pot => k_is)
    (case c_law_pot => k_is)
    (case k_law_pot => k_is)
    (case a_law_ladle => k_is)
    (case l_law_ladle => k_is)
    (case c_law_ladle => k_is)
    (case k_law_ladle => k_is)
    (case a_law_one_of => k_is)
    (case l_law_one_of => k_is)
    (case c_law_one_of => k_is)
    (case k_law_one_of => k_is)
    (case a_law_made => k_is)
    (case l_law_made => k_is)
    (case c_law_made => k_is)
    (case k_law_made => k_is)
    (case a_law_cut => k_is)
    (case l_law_cut => k_is)
    (case c_law_cut => k_is)
    (case k_law_cut => k_is)
    (case a_law_seen => k_is)
    (case l_law_seen => k_is)
    (case c_law_seen => k_is)
    (case k_law_seen => k_is)
    (case a_law_joined => k_is)
    (case l_law_joined => k_is)
    (case c_law_joined => k_is)
    (case k_law_joined => k_is)
    (case a_law_least_like => k_is)
    (case l_law_least_like => k_is)
    (case c_law_least_like => k_is)
    (case k_law_least_like => k_is)
    (case a_law_second => k_is)
    (case l_law_second => k_is)
    (case c_law_second => k_is)
    (case k_law_second => k_is)
    (case a_law_small => k_is)
    (case l_law_small => k_is)
    (case c_law_small => k_is)
    (case k_law_small => k_is)
    (case a_law_right => k_is)
    (case l_law_right => k_is)
    (case c_law_right => k_is)
    (case k_law_right => k_is)
    (case a_law => k_is)
    (case l_law => k_is)
    (case c_law => k_is)
    (case k_law => k_is)
    (case qn => k_is)
    (case qt => k_is)
    (case asC => k_is)
    (case a_is => k_is)
    (case l_is => k_is)
    (case c_is => k_is)
    (case k_is => k_is)
    (case i_is => k_is)
    (case pgs => k_is)
    (case hds => k_is)
    (case pos => k_is)
    (case sas => k_is)
    (case mksC => k_is)
    (case ksC => k_is)
    (case ns_limit => k_is)
    (case ns_head => k_is)
    (case ns_tail => k_is)
    (case ns_mark => k_is)
    (case ns_told => k_is)
    (case qas => k_is)
    (case qms => k_is)
    (case z_ValueError => k_is)
    (case z_abs => k_is)
    (case z_all => k_is)
    (case z_bool => k_is)
    (case z_divmod => k_is)
    (case z_enumerate => k_is)
    (case z_int => k_is)
    (case z_isinstance => k_is)
    (case z_len => k_is)
    (case z_list => k_is)
    (case z_max => k_is)
    (case z_min => k_is)
    (case z_range => k_is)
    (case z_repr => k_is)
    (case z_set => k_is)
    (case z_sorted => k_is)
    (case z_str => k_is)
    (case z_tuple => k_is)
    (case z_zip => k_is)
    (case z_MOST_SIGNS => k_is)
    (case z_MOST_MARK => k_is)
    (case z_MOST_ROW => k_is)
    (case z_MOST_VIEWS => k_is)
    (case z_MOST_TEXT => k_is)
    (case z_SIGNS => k_is)
